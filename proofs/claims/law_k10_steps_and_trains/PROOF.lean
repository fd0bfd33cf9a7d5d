import PyProof.Rows.All
import Wide.All
import OpenK.AllK
import Wide.FinOn
import HandS.ForMost
import HandS.IsInst
import HandS.Style
import HandS.Flow
import HandS.Codes
import HandS.Walk
import HandS.TupAny
import HandS.Dict
import HandS.FStr
import HandS.ClsMeth
import HandS.MakeKwOnly
import HandS.RaiseMore
import HandS.Property
import PySem.Challenge.RW_ringlessday_k10_steps_and_trains
import HandS.HeadHook1
import HandS.HeadHook2
import KE.KStateDown
import HandS.Exc
import HandS.ExcInit
import HandS.ExcField
import HandS.Head0
import HandS.Head1
import HandS.Head2
import HandS.HeadEnd
import HandS.HeadWalk
import HandS.HeadHook3
import HandS.HeadHook4
import Wide.Once
import HandS.OwnEq
import HandS.Defaults
import KE.KFmtOwn
import PyProof.InstEq
import HandS.ExcIs
import HandS.TryMany
import KE.KExcInit
import KE.KExcIs
import PyProof.Rows.Range3
import HandS.Small
import HandS.Star
import PyProof.NeKinds
import HandS.TupSets
import HandS.Lambda
import HandS.ExcCtx
import KE.KDflt
import HandS.HotCalls
import KE.KTryMore
import HandS.Zip
import HandS.Nested
import HandS.Conv
set_option Elab.async false
set_option linter.all false
set_option maxRecDepth 100000
namespace Rd
open PySem PySem.Spec PyProof.Rows L2
def topS (i : Nat) : Stmt := PySem.Challenge.pw_ringlessday_k10_steps_and_trains.main.body.getD i (.Pass ⟨0, 0, 0, 0⟩)
def inS (i k : Nat) : Stmt := match topS i with
  | .ClassDef (body := b) .. => b.getD k (.Pass ⟨0, 0, 0, 0⟩)
  | s => s
end Rd
set_option maxHeartbeats 2000000
namespace Rd
open PySem PySem.Spec PyProof.Rows L2
/-! ## properties among the facts of a head: the getter is looked at by its address -/
/-- where the getter of x's property f lies -/
def gAd (K : PySem.W.Frag) (x f : Str) : Addr := match PySem.W.recIn K (He.ma K (He.ga K x) f) "property" with
  | some (.ref g :: _) => g
  | _ => 0
/-- what is seen of a def at g -/
def seenAt (K : PySem.W.Frag) (g : Addr) : Option (Scope × FuncBody × Str × Arguments × Str × (List (Str × Addr) × Addr × Addr)) := match K.lookup g with
  | some ob => (match ob.data with
    | .func d => some (d.scope, d.body, d.qualname, d.params, d.name, d.closure, d.builtins, d.globals)
    | _ => none)
  | none => none
/-- the property, and that its getter is a def without defaults -/
def propB (K : PySem.W.Frag) (x f qual : Str) : Bool := He.eqO (PySem.W.findIn K (.ref (He.ga K x)) f) (some (some (.ref (He.ma K (He.ga K x) f)))) &&
  (He.eqO (PySem.W.specialIn K (.ref (He.ma K (He.ga K x) f)) "__get__") (some (some (.builtin "property.__get__"))) &&
  (decide (PySem.W.takesIn K (.ref (He.ma K (He.ga K x) f)) = some true) &&
  ((match PySem.W.recIn K (He.ma K (He.ga K x) f) "property" with
    | some (.ref g :: _) => decide (g = gAd K x f)
    | _ => false) && (PySem.W.keepIn K (.ref (gAd K x f)) && (match K.lookup (gAd K x f) with
    | some ⟨_, _, .func fd, _⟩ => PySem.W.codeIn K fd.code qual && (He.dflB K fd.defaults [] && He.kwdB K fd.kwdefaults [])
    | _ => false)))))
theorem prop_of {K : PySem.W.Frag} {x f qual : Str} (h : propB K x f qual = true) : PropOf K (He.ga K x) f (He.ma K (He.ga K x) f) (gAd K x f) := by
  obtain ⟨h1, h⟩ := He.ba h
  obtain ⟨h2, h⟩ := He.ba h
  obtain ⟨h3, h⟩ := He.ba h
  obtain ⟨h4, _⟩ := He.ba h
  refine ⟨He.eqO_ok h1, He.eqO_ok h2, of_decide_eq_true h3, ?_⟩
  split at h4
  · rename_i g rest e
    rw [e, of_decide_eq_true h4]
    exact ⟨rest, rfl⟩
  · cases h4
theorem getter_of {K : PySem.W.Frag} {x f name qual : Str} {params : Arguments} {body : List Stmt} {scope : Scope} (h : propB K x f qual = true) (e : seenAt K (gAd K x f) = some (scope, .stmts body, qual, params, name, [], builtinsNs, mainGlobals)) :
    ∃ fd, FunD K name qual params body scope [] [] (gAd K x f) fd := by
  obtain ⟨_, h⟩ := He.ba h
  obtain ⟨_, h⟩ := He.ba h
  obtain ⟨_, h⟩ := He.ba h
  obtain ⟨_, h⟩ := He.ba h
  obtain ⟨kp, c2⟩ := He.ba h
  unfold seenAt at e
  cases q : K.lookup (gAd K x f) with
  | none =>
    rw [q] at c2
    cases c2
  | some o =>
    obtain ⟨oc, od, dt, osl⟩ := o
    rw [q] at c2 e
    cases dt with
    | func fd =>
      obtain ⟨n1, n2, n3, n4, n5, n6, n7, n8, n9, n10, n11, n12, n13, n14, n15⟩ := fd
      simp only [Option.some.injEq, Prod.mk.injEq] at e
      obtain ⟨g1, g2, g3, g4, g5, g6, g7, g8⟩ := e
      subst g1 g2 g3 g4 g5 g6 g7 g8
      obtain ⟨k1, k2⟩ := He.ba c2
      obtain ⟨k3, k4⟩ := He.ba k2
      exact ⟨_, ⟨oc, od, n8, n9, n10, n11, n12, n13, n14, osl, rfl, q, k1, He.dflB_ok k3, He.kwdB_ok k4⟩, kp⟩
    | _ => cases c2
end Rd
set_option maxHeartbeats 0
namespace Rd
open PySem PySem.Spec PyProof.Rows L2
abbrev sq_is_name : Stmt := topS 14
abbrev sq_is_number : Stmt := topS 15
abbrev sq_is_integer : Stmt := topS 16
abbrev sq_are_times : Stmt := topS 21
abbrev sq_refuse_steps : Stmt := topS 22
abbrev sq_law_bag : Stmt := topS 24
abbrev sq_law_draw : Stmt := topS 25
abbrev sq_law_of : Stmt := topS 26
abbrev sq_law_same : Stmt := topS 27
abbrev sq_law_fields : Stmt := topS 28
abbrev sq_law_try : Stmt := topS 29
abbrev sq_law_tries : Stmt := topS 30
abbrev sq_law_words : Stmt := topS 31
abbrev sq_law_odd : Stmt := topS 32
abbrev sq_law_rising : Stmt := topS 33
abbrev sq_law_step : Stmt := topS 34
abbrev sq_law_train : Stmt := topS 35
abbrev sq_law_bad_number : Stmt := topS 36
abbrev sq_law_steps_so : Stmt := topS 37
abbrev sq_law_steps_refused_so : Stmt := topS 38
abbrev sq_law_trains_so : Stmt := topS 39
abbrev sq_law_trains_refused_so : Stmt := topS 40
abbrev sq_law : Stmt := topS 41
def excB (K : PySem.W.Frag) (D : Addr) : Bool := decide (PySem.W.findIn K (.ref D) "__getattribute__" = some (some (.builtin "BaseException.__getattribute__"))) && (decide (PySem.W.findIn K (.ref D) "__getattr__" = some none) && (decide (PySem.W.subIn K (.ref D) (.type "BaseException") = some true) && (PySem.W.hasDictIn K D &&
  (decide (PySem.W.findIn K (.ref D) "__class__" = some (some (.builtin "object.__class__"))) && (decide (PySem.W.specialIn K (.builtin "object.__class__") "__get__" = some (some (.builtin "getset_descriptor.__get__"))) && (decide (PySem.W.takesIn K (.builtin "object.__class__") = some true) && decide (PySem.W.mroIn K D (.type "object") = some true)))))))
def xB (K : PySem.W.Frag) (C f : Addr) (bmB : List Value) (newId : String) (nm : List Str) : Bool := PySem.W.excInitIn K C bmB newId && (PySem.W.excOver K C bmB && (PySem.W.hasDictIn K C && (decide (PySem.W.findIn K (.ref C) "__setattr__" = some (some (.builtin "object.__setattr__"))) && (PySem.W.keepIn K (.ref C) &&
  (xfB K C && (excB K C && (decide (PySem.W.typeIn K (.ref f) = some (.type "function")) && (nm.all (fun n => decide (PySem.W.findIn K (.ref C) n = some none)) && decide (PySem.W.typeIn K (.ref C) = some (.type "type"))))))))))
def xB2 (K : PySem.W.Frag) (r : Str × List Value × String × List Str) : Bool := He.eqO (PySem.W.findIn K (.ref (He.ga K r.1)) "__init__") (some (some (.ref (He.ma K (He.ga K r.1) "__init__")))) && xB K (He.ga K r.1) (He.ma K (He.ga K r.1) "__init__") r.2.1 r.2.2.1 r.2.2.2
def exR : List (Str × List Value × String × List Str) := [("InvalidName", [.type "ValueError", .type "Exception", .type "BaseException", .type "object"], "ValueError.__new__", ["value", "code"]), ("InvalidNumber", [.type "ValueError", .type "Exception", .type "BaseException", .type "object"], "ValueError.__new__", ["value", "code"]), ("InvalidTimes", [.type "ValueError", .type "Exception", .type "BaseException", .type "object"], "ValueError.__new__", ["value", "code"]), ("InvalidStep", [.type "ValueError", .type "Exception", .type "BaseException", .type "object"], "ValueError.__new__", ["value", "code"]), ("TooMany", [.type "ValueError", .type "Exception", .type "BaseException", .type "object"], "ValueError.__new__", ["subject", "most", "code"]), ("UnknownEntry", [.type "LookupError", .type "Exception", .type "BaseException", .type "object"], "LookupError.__new__", ["entry", "code"])]
def typN : List String := ["NoneType", "str", "int", "bool", "tuple", "list"]
def ownN : List Str := ["Step", "Train"]
def excN : List Str := ["InvalidName", "InvalidNumber", "InvalidTimes", "InvalidStep", "TooMany", "UnknownEntry"]
/-- a class's constant, read on the class -/
def cvB (K : PySem.W.Frag) (C : Addr) (f : Str) (v : V) : Bool := match PySem.W.findCls K (.ref C) (.type "type") f with
  | some (.val u) => He.relB v u
  | _ => false
theorem cvB_ok {K : PySem.W.Frag} {C : Addr} {f : Str} {v : V} (h : cvB K C f v = true) : ∃ u, ClX.CVal K C (.type "type") f v u := by
  unfold cvB at h
  split at h
  · rename_i u e
    exact ⟨u, e, He.relB_ok h⟩
  · cases h
/-- an own class -/
def clsB (K : PySem.W.Frag) (x : Str) : Bool :=
  He.eqO (PySem.W.findIn K (.ref (He.ga K x)) "__class__") (some (some (.builtin "object.__class__"))) &&
  (decide (PySem.W.mroIn K (He.ga K x) (.type "object") = some true) &&
  ((typN.all fun t => PySem.W.notFirst K (He.ga K x) (.type t)) &&
  (PySem.W.notFirst K (He.ga K x) (.ref (He.ga K x)) &&
  (decide (PySem.W.kitOne K (.ref (He.ga K x)) (.ref (He.ga K x)) = some true) &&
  ((typN.all fun t => decide (PySem.W.kitOne K (.type t) (.ref (He.ga K x)) = some false)) &&
  He.eqO (PySem.W.findIn K (.ref (He.ga K x)) "__ne__") (some (some (.builtin "object.__ne__"))))))))
def cvTB (K : PySem.W.Frag) : Bool := PySem.W.readsIn K (He.ga K "Train") (.type "type") &&
  (He.eqO (PySem.W.specialIn K (.ref (He.ga K "Train")) "__getattribute__") (some (some (.builtin "type.__getattribute__"))) &&
  (cvB K (He.ga K "Train") "STEPS" (.int 6) && cvB K (He.ga K "Train") "LENGTH" (.int 60)))
def oneB (K : PySem.W.Frag) : Bool := He.eqO (PySem.W.specialIn K (.builtin "object.__class__") "__get__") (some (some (.builtin "getset_descriptor.__get__"))) &&
  (decide (PySem.W.takesIn K (.builtin "object.__class__") = some true) && (PySem.W.fnIn K (He.fAd K ("Train", some "__getitem__")) &&
  (excN.all fun x => decide (PySem.W.exmAny K (.ref (He.ga K x)) [.ref (He.ga K "DayError"), .ref (He.ga K "Missing"), .ref (He.ga K "NothingLeft")] = some true))))
def prsB (K : PySem.W.Frag) : Bool := propB K "Step" "arrival" "Step.arrival" && propB K "Step" "base" "Step.base"
/-- the three tables are three -/
def aptB (K : PySem.W.Frag) : Bool := decide ((He.cT K ("_law_steps_refused_so", none)).2 ≠ (He.cT K ("_law_trains_so", none)).2) && (decide ((He.cT K ("_law_steps_refused_so", none)).2 ≠ (He.cT K ("_law_trains_refused_so", none)).2) && decide ((He.cT K ("_law_trains_so", none)).2 ≠ (He.cT K ("_law_trains_refused_so", none)).2))
def faL : List He.Fa := ([.glo "is_name", .glo "is_integer", .glo "is_number", .glo "are_times", .glo "refuse_steps", .glo "_law_bag", .glo "_law_draw", .glo "_law_of", .glo "_law_same", .glo "_law_fields"] : List He.Fa) ++ (([.glo "_law_try", .glo "_law_tries", .glo "_law_words", .glo "_law_odd", .glo "_law_rising", .glo "_law_step", .glo "_law_train", .glo "_law_bad_number", .glo "_law_steps_so", .glo "_law_trains_so"] : List He.Fa) ++ (([.glo "_law_steps_refused_so", .glo "_law_trains_refused_so", .glo "law", .glo "InvalidName", .glo "InvalidNumber", .glo "InvalidTimes", .glo "InvalidStep", .glo "TooMany", .glo "UnknownEntry", .glo "DayError"] : List He.Fa) ++ (([.glo "Missing", .glo "NothingLeft", .glo "Step", .glo "Train", .str "LETTERS" "abcdefghijklmnopqrstuvwxyz", .int "MOST_LETTERS" 6, .int "MOST_TIME" 1000000, .int "MOST_TIMES" 24, .cls "Step", .mkr "Step"] : List He.Fa) ++ (([.noat "Step" "route", .noat "Step" "stop", .noat "Step" "public", .noat "Step" "_times", .cls "Train", .mkr "Train", .noat "Train" "name", .noat "Train" "length", .noat "Train" "out", .noat "Train" "_steps"] : List He.Fa) ++ (([.meth "Step" "times", .meth "Step" "__eq__", .meth "Step" "__repr__", .meth "Train" "steps", .meth "Train" "longer", .meth "Train" "__getitem__", .meth "Train" "__len__", .meth "Train" "__bool__", .meth "Train" "__eq__", .meth "Train" "__repr__"] : List He.Fa) ++ (([.free "abs", .free "all", .free "bool", .free "int", .free "isinstance", .free "len", .free "list", .free "range", .free "repr", .free "str"] : List He.Fa) ++ (([.free "tuple", .free "zip"] : List He.Fa))))))))
def dd0 : He.DefD := ⟨("is_name", none), "is_name", "is_name", defArgs sq_is_name, defBody sq_is_name, defScope sq_is_name, [], []⟩
def dd1 : He.DefD := ⟨("is_integer", none), "is_integer", "is_integer", defArgs sq_is_integer, defBody sq_is_integer, defScope sq_is_integer, [], []⟩
def dd2 : He.DefD := ⟨("is_number", none), "is_number", "is_number", defArgs sq_is_number, defBody sq_is_number, defScope sq_is_number, [], []⟩
def dd3 : He.DefD := ⟨("are_times", none), "are_times", "are_times", defArgs sq_are_times, defBody sq_are_times, defScope sq_are_times, [], []⟩
def dd4 : He.DefD := ⟨("refuse_steps", none), "refuse_steps", "refuse_steps", defArgs sq_refuse_steps, defBody sq_refuse_steps, defScope sq_refuse_steps, [], []⟩
def dd5 : He.DefD := ⟨("_law_bag", none), "_law_bag", "_law_bag", defArgs sq_law_bag, defBody sq_law_bag, defScope sq_law_bag, [], []⟩
def dd6 : He.DefD := ⟨("_law_draw", none), "_law_draw", "_law_draw", defArgs sq_law_draw, defBody sq_law_draw, defScope sq_law_draw, [], []⟩
def dd7 : He.DefD := ⟨("_law_of", none), "_law_of", "_law_of", defArgs sq_law_of, defBody sq_law_of, defScope sq_law_of, [], []⟩
def dd8 : He.DefD := ⟨("_law_same", none), "_law_same", "_law_same", defArgs sq_law_same, defBody sq_law_same, defScope sq_law_same, [], []⟩
def dd9 : He.DefD := ⟨("_law_fields", none), "_law_fields", "_law_fields", defArgs sq_law_fields, defBody sq_law_fields, defScope sq_law_fields, [], []⟩
def dd10 : He.DefD := ⟨("_law_try", none), "_law_try", "_law_try", defArgs sq_law_try, defBody sq_law_try, defScope sq_law_try, [], []⟩
def dd11 : He.DefD := ⟨("_law_tries", none), "_law_tries", "_law_tries", defArgs sq_law_tries, defBody sq_law_tries, defScope sq_law_tries, [], []⟩
def dd12 : He.DefD := ⟨("_law_words", none), "_law_words", "_law_words", defArgs sq_law_words, defBody sq_law_words, defScope sq_law_words, [], []⟩
def dd13 : He.DefD := ⟨("_law_odd", none), "_law_odd", "_law_odd", defArgs sq_law_odd, defBody sq_law_odd, defScope sq_law_odd, [], []⟩
def dd14 : He.DefD := ⟨("_law_rising", none), "_law_rising", "_law_rising", defArgs sq_law_rising, defBody sq_law_rising, defScope sq_law_rising, [], []⟩
def dd15 : He.DefD := ⟨("_law_step", none), "_law_step", "_law_step", defArgs sq_law_step, defBody sq_law_step, defScope sq_law_step, [], []⟩
def dd16 : He.DefD := ⟨("_law_train", none), "_law_train", "_law_train", defArgs sq_law_train, defBody sq_law_train, defScope sq_law_train, [], []⟩
def dd17 : He.DefD := ⟨("_law_bad_number", none), "_law_bad_number", "_law_bad_number", defArgs sq_law_bad_number, defBody sq_law_bad_number, defScope sq_law_bad_number, [], []⟩
def dd18 : He.DefD := ⟨("_law_steps_so", none), "_law_steps_so", "_law_steps_so", defArgs sq_law_steps_so, defBody sq_law_steps_so, defScope sq_law_steps_so, [], []⟩
def dd19 : He.DefD := ⟨("_law_trains_so", none), "_law_trains_so", "_law_trains_so", defArgs sq_law_trains_so, defBody sq_law_trains_so, defScope sq_law_trains_so, [], []⟩
def dd20 : He.DefD := ⟨("_law_steps_refused_so", none), "_law_steps_refused_so", "_law_steps_refused_so", defArgs sq_law_steps_refused_so, defBody sq_law_steps_refused_so, defScope sq_law_steps_refused_so, [], []⟩
def dd21 : He.DefD := ⟨("_law_trains_refused_so", none), "_law_trains_refused_so", "_law_trains_refused_so", defArgs sq_law_trains_refused_so, defBody sq_law_trains_refused_so, defScope sq_law_trains_refused_so, [], []⟩
def dd22 : He.DefD := ⟨("law", none), "law", "law", defArgs sq_law, defBody sq_law, defScope sq_law, [], []⟩
def dd23 : He.DefD := ⟨("InvalidName", some "__init__"), "__init__", "InvalidName.__init__", defArgs (inS 2 0), defBody (inS 2 0), defScope (inS 2 0), [], []⟩
def dd24 : He.DefD := ⟨("InvalidNumber", some "__init__"), "__init__", "InvalidNumber.__init__", defArgs (inS 3 0), defBody (inS 3 0), defScope (inS 3 0), [], []⟩
def dd25 : He.DefD := ⟨("InvalidTimes", some "__init__"), "__init__", "InvalidTimes.__init__", defArgs (inS 4 0), defBody (inS 4 0), defScope (inS 4 0), [], []⟩
def dd26 : He.DefD := ⟨("InvalidStep", some "__init__"), "__init__", "InvalidStep.__init__", defArgs (inS 5 0), defBody (inS 5 0), defScope (inS 5 0), [], []⟩
def dd27 : He.DefD := ⟨("TooMany", some "__init__"), "__init__", "TooMany.__init__", defArgs (inS 6 0), defBody (inS 6 0), defScope (inS 6 0), [], []⟩
def dd28 : He.DefD := ⟨("UnknownEntry", some "__init__"), "__init__", "UnknownEntry.__init__", defArgs (inS 8 0), defBody (inS 8 0), defScope (inS 8 0), [], []⟩
def dd29 : He.DefD := ⟨("Step", some "__init__"), "__init__", "Step.__init__", defArgs (inS 19 0), defBody (inS 19 0), defScope (inS 19 0), [], [("stop", .int 0), ("public", .non)]⟩
def dd30 : He.DefD := ⟨("Train", some "__init__"), "__init__", "Train.__init__", defArgs (inS 20 2), defBody (inS 20 2), defScope (inS 20 2), [], [("out", .int 1)]⟩
def dd31 : He.DefD := ⟨("Step", some "times"), "times", "Step.times", defArgs (inS 19 1), defBody (inS 19 1), defScope (inS 19 1), [], []⟩
def dd32 : He.DefD := ⟨("Step", some "__eq__"), "__eq__", "Step.__eq__", defArgs (inS 19 4), defBody (inS 19 4), defScope (inS 19 4), [], []⟩
def dd33 : He.DefD := ⟨("Step", some "__repr__"), "__repr__", "Step.__repr__", defArgs (inS 19 5), defBody (inS 19 5), defScope (inS 19 5), [], []⟩
def dd34 : He.DefD := ⟨("Train", some "steps"), "steps", "Train.steps", defArgs (inS 20 3), defBody (inS 20 3), defScope (inS 20 3), [], []⟩
def dd35 : He.DefD := ⟨("Train", some "longer"), "longer", "Train.longer", defArgs (inS 20 4), defBody (inS 20 4), defScope (inS 20 4), [], []⟩
def dd36 : He.DefD := ⟨("Train", some "__getitem__"), "__getitem__", "Train.__getitem__", defArgs (inS 20 5), defBody (inS 20 5), defScope (inS 20 5), [], []⟩
def dd37 : He.DefD := ⟨("Train", some "__len__"), "__len__", "Train.__len__", defArgs (inS 20 7), defBody (inS 20 7), defScope (inS 20 7), [], []⟩
def dd38 : He.DefD := ⟨("Train", some "__bool__"), "__bool__", "Train.__bool__", defArgs (inS 20 8), defBody (inS 20 8), defScope (inS 20 8), [], []⟩
def dd39 : He.DefD := ⟨("Train", some "__eq__"), "__eq__", "Train.__eq__", defArgs (inS 20 9), defBody (inS 20 9), defScope (inS 20 9), [], []⟩
def dd40 : He.DefD := ⟨("Train", some "__repr__"), "__repr__", "Train.__repr__", defArgs (inS 20 10), defBody (inS 20 10), defScope (inS 20 10), [], []⟩
def fnL : List He.DefD := ([dd0, dd1, dd2, dd3, dd4, dd5, dd6, dd7, dd8, dd9] : List He.DefD) ++ (([dd10, dd11, dd12, dd13, dd14, dd15, dd16, dd17, dd18, dd19] : List He.DefD) ++ (([dd20, dd21, dd22, dd23, dd24, dd25, dd26, dd27, dd28, dd29] : List He.DefD) ++ (([dd30, dd31, dd32, dd33, dd34, dd35, dd36, dd37, dd38, dd39] : List He.DefD) ++ (([dd40] : List He.DefD)))))
def tsL : List He.Tab := []
def tfL : List He.Defn := [("_law_steps_refused_so", none), ("_law_trains_so", none), ("_law_trains_refused_so", none)]
def exB1 (K : PySem.W.Frag) : Bool := exR.all (xB2 K) && oneB K
def exB2 (K : PySem.W.Frag) : Bool := ownN.all (clsB K) && cvTB K
def exB3 (K : PySem.W.Frag) : Bool := prsB K && aptB K
def exB (K : PySem.W.Frag) : Bool := exB1 K && (exB2 K && exB3 K)
abbrev Seen : Type := List (Option (Scope × FuncBody × Str × Arguments × Str × (List (Str × Addr) × Addr × Addr)))
def seenL (K : PySem.W.Frag) : Seen := [seenAt K (gAd K "Step" "arrival"), seenAt K (gAd K "Step" "base")]
def seenV : Seen := [some (defScope (inS 19 2), .stmts (defBody (inS 19 2)), "Step.arrival", defArgs (inS 19 2), "arrival", [], builtinsNs, mainGlobals), some (defScope (inS 19 3), .stmts (defBody (inS 19 3)), "Step.base", defArgs (inS 19 3), "base", [], builtinsNs, mainGlobals)]
abbrev Rr : PySem.W.OpenRow := PySem.W.OpenLaw.row PySem.Challenge.rw_ringlessday_k10_steps_and_trains
def kW (g : Addr → Option Obj) : PySem.W.Frag := He.frT g (He.asD g 5 ++ [cStatics])
abbrev Al : Type := He.AlX × Seen
def lookB (g : Addr → Option Obj) (K : PySem.W.Frag) : Al := ((He.obsT faL fnL tsL K, exB K && He.tabsB g tfL K), seenL K)
def valB (w : World) : Al := ((He.valT fnL tsL w, true), seenV)
theorem tab_got {g : Addr → Option Obj} {K : PySem.W.Frag} (e : He.tabsB g tfL K = true) {p : He.Defn} (hp : p ∈ tfL) :
    PySem.W.codeHdIn K (He.cT K p).1 (He.cT K p).2 = true ∧ g (He.cT K p).2 = some ⟨.none, none, .fields #[], #[]⟩ := by
  obtain ⟨u, v⟩ := Bool.and_eq_true_iff.mp (List.all_eq_true.mp e p hp)
  refine And.intro u ?_
  generalize g (He.cT K p).2 = r at v
  match r, v with
  | some ob, v => exact congrArg some (He.emptyTab_eq v)
theorem look_says {w : World} {h : Heap} (e : lookB h.get? (kW h.get?) = valB w) : He.SaysX faL fnL tsL tfL exB w h (kW h.get?) := by
  have e0 := (Prod.mk.inj e).1
  have a := (Prod.mk.inj e0).1
  obtain ⟨b, d⟩ := Bool.and_eq_true_iff.mp (Prod.mk.inj e0).2
  refine { t := a, more := b, hd := fun p hp => (tab_got d hp).1, out := fun p hp => ?_, empty := fun p hp => (tab_got d hp).2 }
  exact He.frT_none (tab_got d hp).2 rfl
def hkB : PySem.W.Hook where
  α := Al
  obs := fun s => lookB s.heap.get? (kW s.heap.get?)
  val := valB
  says := fun w h => ∃ K : PySem.W.Frag, K.In h ∧ He.SaysX faL fnL tsL tfL exB w h K ∧ seenL K = seenV
  of := fun _ s e => Exists.intro (kW s.heap.get?) (And.intro (fun _ _ z => (He.frT_mem z).1) (And.intro (look_says e) (Prod.mk.inj e).2))
  keeps := fun _ _ _ ⟨K, i, c, v⟩ k => ⟨K, PySem.W.Frag.In.keeps i k, { c with empty := fun p hp => k _ _ (c.empty p hp) }, v⟩
def obB (s : PySem.W.SharedT) : Al := lookB (HandSHeadRun.getT s) (kW (HandSHeadRun.getT s))
theorem obB_eq (s : PySem.W.SharedT) : obB s = hkB.obs s.abs := by
  have e : HandSHeadRun.getT s = s.abs.heap.get? := funext fun a => HandSHeadRun.getT_eq s a
  show lookB _ (kW _) = lookB _ (kW _)
  rw [e]
def looseL : List Str := ["Step", "Train"]
abbrev qv : Program := PySem.W.view Rr.prog (([1, 2, 3, 4, 5, 6, 7, 8, 9, 11] : List Nat) ++ (([12, 13, 14, 15, 16, 18, 21, 22, 24, 25] : List Nat) ++ (([26, 27, 28, 29, 30, 31, 32, 33, 34, 35] : List Nat) ++ (([36, 37, 38, 39, 40, 41] : List Nat)))))
section
open HandSHeadRun PySem.W
noncomputable abbrev oB (w : World) (os : OsState) : Option SharedT := endF (stepQ (denQ tabQ) Rr.prog w) 12000 Rr.prog w os
abbrev kOf (s : SharedT) : Frag := kW (getT s)
theorem run1 (w : World) (os : OsState) : (oB w os).map (fun s => (looksF Rr.prog (boot_heap w.params) s.abs, seenQ qv looseL (importedModules Rr.prog.main.body) (fun s => xlAt qv [] s && recOk Rr.toRowW.records s) s.abs)) = some (true, openGood qv looseL) := by kernel_rfl
theorem run2 (w : World) (os : OsState) : (oB w os).map (fun s => (He.obsT faL fnL tsL (kOf s), seenL (kOf s))) = some (He.valT fnL tsL w, seenV) := by kernel_rfl
theorem run3 (w : World) (os : OsState) : (oB w os).map (fun s => exB1 (kOf s) && He.tabsB (getT s) tfL (kOf s)) = some true := by kernel_rfl
theorem run4 (w : World) (os : OsState) : (oB w os).map (fun s => exB2 (kOf s) && exB3 (kOf s)) = some true := by kernel_rfl
theorem runB (w : World) : HandSHeadRun.RunEq Rr qv hkB obB 12000 looseL w := by
  intro os
  have h1 := run1 w os
  have h2 := run2 w os
  have h3 := run3 w os
  have h4 := run4 w os
  show (oB w os).map _ = _
  generalize oB w os = o at h1 h2 h3 h4
  cases o with
  | none => cases h1
  | some s =>
    have e1 : (looksF Rr.prog (boot_heap w.params) s.abs, seenQ qv looseL (importedModules Rr.prog.main.body) (fun s => xlAt qv [] s && recOk Rr.toRowW.records s) s.abs) = (true, openGood qv looseL) := Option.some.inj h1
    have e2 : (He.obsT faL fnL tsL (kOf s), seenL (kOf s)) = (He.valT fnL tsL w, seenV) := Option.some.inj h2
    have e3 : (exB1 (kOf s) && He.tabsB (getT s) tfL (kOf s)) = true := Option.some.inj h3
    have e4 : (exB2 (kOf s) && exB3 (kOf s)) = true := Option.some.inj h4
    obtain ⟨e31, e32⟩ := Bool.and_eq_true_iff.mp e3
    obtain ⟨e21, e22⟩ := Prod.mk.inj e2
    have e5 : obB s = ((He.valT fnL tsL w, true), seenV) := by
      show ((He.obsT faL fnL tsL (kOf s), (exB1 (kOf s) && (exB2 (kOf s) && exB3 (kOf s))) && He.tabsB (getT s) tfL (kOf s)), seenL (kOf s)) = _
      rw [e21, e22, e4, e31, e32]; rfl
    obtain ⟨a, b⟩ := Prod.mk.inj e1
    have e6 : (looksF Rr.prog (boot_heap w.params) s.abs, seenQ qv looseL (importedModules Rr.prog.main.body) (fun s => xlAt qv [] s && recOk Rr.toRowW.records s) s.abs, obB s) = (true, openGood qv looseL, ((He.valT fnL tsL w, true), seenV)) := by rw [a, b, e5]
    exact congrArg some e6
end
end Rd
set_option maxHeartbeats 2000000
namespace PySem.W
open PySem PySem.Spec PySem.Calls PyProof.Rows
section
variable {prog : Program} {w : World} {A : Around} {E : Value → Shared → Prop} {s : Shared} {K : Frag} {x y C D f : Addr} {ox oy : Obj} {od od' : Option Obj} {b tb : Value}
/-- an own comparison of x is asked first -/
theorem cmp_own {op : CmpOp} {Q : Value → Shared → Prop} (hu : A.units < cLine) (X : K.In s.heap) (I : InstAt s.heap x ox C od) (hb : Looks (model prog w) s.heap (typeOf b) tb) (hn : notFirst K C tb = true)
    (h : wpAny (model prog w) A (callSpecialIfBound? (.ref x) (cmpInfo op).2.1 [b]) (fun r s' => ∃ v, r = some v ∧ CmpBack Q v s') E s) : wpAny (model prog w) A (richCompare op (.ref x) b) Q E s := by
  have one : wpAny (model prog w) A (tryCompare (.ref x) (cmpInfo op).2.1 b) (fun r s' => ∃ v, r = some v ∧ Q v s') E s := by
    unfold tryCompare
    refine wpAny_bind (wpAny_mono h (fun r s' hr => ?_) fun _ _ e => e)
    obtain ⟨v, rfl, hv⟩ := hr
    cases v <;> first | exact hv.elim | exact wpAny_pure ⟨_, rfl, hv⟩
  unfold richCompare
  simp only [oneThing_ref]
  refine wpAny_holding (wpAny_bind (wpAny_cRoomFor hu ?_))
  refine wpAny_bind (I.type.here (wpAny_bind (hb.here ?_)))
  have fin : wpAny (model prog w) A (tryCompare (.ref x) (cmpInfo op).2.1 b) (fun r s' => ∃ v, r = some v ∧ Q v s') E s := one
  split
  · rename_i q
    have e : subIn K tb (.ref C) = some false := by
      rcases Bool.or_eq_true_iff.mp hn with e | e
      · rw [beq_iff_eq.mp e] at q; simp at q
      · exact beq_iff_eq.mp e
    refine wpAny_bind ((looks_subIn X e).here ?_)
    simp only [Bool.false_eq_true, if_false]
    refine wpAny_bind (wpAny_mono fin (fun r s' z => ?_) fun _ _ e => e)
    obtain ⟨v, rfl, hq⟩ := z
    exact wpAny_pure hq
  · refine wpAny_bind (wpAny_pure ?_)
    simp only [Bool.false_eq_true, if_false]
    refine wpAny_bind (wpAny_mono fin (fun r s' z => ?_) fun _ _ e => e)
    obtain ⟨v, rfl, hq⟩ := z
    exact wpAny_pure hq
/-- x == y where y's class lies below x's: y is asked first -/
theorem cmp_below {Q : Value → Shared → Prop} (hu : A.units < cLine) (X : K.In s.heap) (I : InstAt s.heap x ox C od) (J : InstAt s.heap y oy D od') (hne : D ≠ C) (hsub : subIn K (.ref D) (.ref C) = some true)
    (hs : findIn K (.ref D) "__eq__" = some (some (.ref f))) (hf : isFn K (.ref f) = true) (h : wpAny (model prog w) A (call (.ref f) [.ref y, .ref x]) (CmpBack Q) E s) : wpAny (model prog w) A (richCompare .Eq (.ref x) (.ref y)) Q E s := by
  have one : wpAny (model prog w) A (tryCompare (.ref y) (cmpInfo .Eq).2.2 (.ref x)) (fun r s' => ∃ v, r = some v ∧ Q v s') E s := by
    unfold tryCompare
    refine wpAny_bind (ifBound_K X J hs hf (wpAny_mono h (fun v s' hv => ?_) fun _ _ e => e))
    cases v <;> first | exact hv.elim | exact wpAny_pure ⟨_, rfl, hv⟩
  unfold richCompare
  simp only [oneThing_ref]
  refine wpAny_holding (wpAny_bind (wpAny_cRoomFor hu ?_))
  refine wpAny_bind (I.type.here (wpAny_bind (J.type.here ?_)))
  have q : (Value.ref C != Value.ref D) = true := by
    rw [bne_iff_ne]
    intro z
    cases z
    exact hne rfl
  rw [if_pos q]
  refine wpAny_bind ((looks_subIn X hsub).here ?_)
  simp only [if_true]
  refine wpAny_bind (wpAny_mono one (fun r s' z => ?_) fun _ _ e => e)
  obtain ⟨v, rfl, hq⟩ := z
  first
    | exact wpAny_pure hq
    | exact wpAny_bind (wpAny_pure (wpAny_pure hq))
    | (wp_walk; exact hq)
open Builtin in
/-- x != b of an own == (object.__ne__ turns it round) -/
theorem cmp_ne {Q : Value → Shared → Prop} (hu : A.units < cLine) (hu1 : A.in1.units < cLine) (X : K.In s.heap) (I : InstAt s.heap x ox C od) (hm : mroIn K C (.type "object") = some true) (hb : Looks (model prog w) s.heap (typeOf b) tb) (hn : notFirst K C tb = true)
    (hne : findIn K (.ref C) "__ne__" = some (some (.builtin "object.__ne__"))) (hs : findIn K (.ref C) "__eq__" = some (some (.ref f))) (hf : isFn K (.ref f) = true)
    (h : wpAny (model prog w) A.in1 (call (.ref f) [.ref x, b]) (fun v s' => ∃ r, v = .bool r ∧ Q (.bool (!r)) s') E s) : wpAny (model prog w) A (richCompare .NotEq (.ref x) b) Q E s := by
  refine cmp_own (op := .NotEq) hu X I hb hn ?_
  show wpAny (model prog w) A (callSpecialIfBound? (.ref x) "__ne__" [b]) _ E s
  simp only [callSpecialIfBound?, bindSpecialIfBound?]
  refine wpAny_holding (wpAny_bind (wpAny_bind (wpAny_bind (I.type.here ((looks_findIn X hne).here ?_)))))
  refine wpAny_bind (wpAny_askSetting (wpAny_ite ?_))
  have go : wpAny (model prog w) A (call (.builtin "object.__ne__") [.ref x, b]) (fun v s' => CmpBack Q v s') E s := by
    refine wpAny_call (codeAny_call_builtin PySem.F.cmp_object.ne.plain PySem.F.cmpEntry_ne (check_slot (i := "object.__ne__") (owner := "object") (n := "__ne__") PySem.F.cmpKind_ne PySem.F.cmpSplit_ne (I.type.andThen (looks_mroIn X hm)) (PySem.F.cmpArgs_ne _ _) ?_))
    unfold Builtin.«object.__ne__»
    refine wpAny_bind (m := slotArgs "__ne__" 1 _) (wpAny_pure ?_)
    refine wpAny_bind (m := cRoomFor _ _) (wpAny_cRoomFor hu1 ?_)
    refine wpAny_bind (m := callSpecialIfBound? (.ref x) (Str.ofString "__eq__") _) (ifBound_K X I hs hf (wpAny_mono h (fun r s' hq => ?_) fun _ _ y => y))
    obtain ⟨r, rfl, hq⟩ := hq
    refine wpAny_bind (wpAny_truthy_bool ?_)
    exact wpAny_pure hq
  have fin : wpAny (model prog w) A (call (.builtin "object.__ne__") ([.ref x] ++ [b]) >>= fun v => pure (some v)) (fun r s' => ∃ v, r = some v ∧ CmpBack Q v s') E s :=
    wpAny_bind (wpAny_mono go (fun v s' h' => wpAny_pure ⟨v, rfl, h'⟩) fun _ _ h' => h')
  simp only [PySem.F.cmp_object.ne.bind]
  split
  · exact wpAny_bind (wpAny_pure (wpAny_pure fin))
  · exact wpAny_tryCatch (wpAny_bind (wpAny_pure (wpAny_pure fin)))
end
end PySem.W
set_option maxHeartbeats 4000000
namespace Rd
open PySem PySem.Spec PyProof.Rows L2
/-! ## own exceptions over any base, as values -/
/-- what the top says of such a class -/
structure XC (K : PySem.W.Frag) (C : Addr) (B newId initId : String) (bmB : List Value) : Prop where
  F : ExcBaseFacts B newId initId bmB
  S : StoreFacts B bmB "object.__setattr__" "object"
  ini : PySem.W.excInitIn K C bmB newId = true
  ovr : PySem.W.excOver K C bmB = true
  hasd : PySem.W.hasDictIn K C = true
  sa : PySem.W.findIn K (.ref C) "__setattr__" = some (some (.builtin "object.__setattr__"))
  kC : PySem.W.keepIn K (.ref C) = true
section
variable {X : Cx} {pins : List (Addr × Obj)} {σ : L2.St} {H : Hp} {s : Shared} {a C dx : Addr} {f : Str} {y : V} {u : Value} {fs : List (Str × V)} {Q : Unit → Shared → Prop} {E : Value → Shared → Prop} {A : Around} {B newId initId : String} {bmB : List Value}
theorem cls_of (T : XC X.K C B newId initId bmB) : ∃ cd, PySem.W.clsIn X.K C = some cd ∧ cd.hasDict = true := by
  have h : (PySem.W.clsIn X.K C).any (·.hasDict) = true := T.hasd
  cases e : PySem.W.clsIn X.K C with
  | none => rw [e] at h; cases h
  | some cd => rw [e] at h; exact ⟨cd, rfl, h⟩
theorem gst_new (T : XC X.K C B newId initId bmB) (I : Inv X pins σ H s) (e : H a = some (exo a C none)) (hno : PySem.W.findIn X.K (.ref C) f = some none) (ry : RelV y u)
    (h : ∀ dx s', H dx = none → dx ≠ a → Inv X pins σ (upd (upd H dx (exd dx [(f, y)])) a (exo a C (some dx))) s' → Q () s') : wpAny (model X.prog X.w) A (setAttr (.ref a) f u) Q E s := by
  obtain ⟨cd, hcl, hdc⟩ := cls_of T
  obtain ⟨t1, ho⟩ := exo_at I.hok e
  obtain ⟨hp, g, d, t, os⟩ := s
  have hcls : PySem.W.Looks (model X.prog X.w) hp (classData C) cd := PySem.W.looks_clsIn I.kIn hcl
  have IA : PySem.W.InstAt hp a { cls := .ref C, dict := none, data := .fields #[.ref t1, .none, .none, .none, .bool false, .none] } C none := ⟨ho, rfl, rfl, trivial⟩
  refine PySem.W.set_plain I.kIn IA T.sa ?_
  refine PySem.W.osa_openX T.S I.kIn IA T.ovr (r := none) (by unfold PySem.W.takerIn; rw [hno]; rfl) fun b => ?_
  show wpAny _ _ (Builtin.ObjectAttr.storeInOwnDict (.ref a) (.ref C) (.str f _) f u b) _ _ _
  obtain ⟨nm, bs, mro, ns, qn, hd, sn, sb, ab, col, del⟩ := cd
  dsimp only at hdc
  subst hdc
  have ha : a ≠ hp.objs.size := Nat.ne_of_lt (Heap.lt_size ho)
  unfold Builtin.ObjectAttr.storeInOwnDict Builtin.ObjectAttr.ownDictForStores
  repeat (first | with_reducible refine PySem.HandSPX.store_in_new ?_ ?_ | with_reducible refine wpAny_loadPart_at ho ?_ | with_reducible refine hcls.at ?_ | wp_step)
  · exact ⟨_, #[], _, (Heap.get?_update_ne _ _ _ _ ha.symm).trans (Heap.get?_push_at rfl rfl), rfl, fun e he => absurd he (by simp), fun _ => rfl⟩
  · intro h' tk' hn' hs
    have h1 : (hp.push { cls := .type "dict", data := .dict #[] }).get? a = some { cls := .ref C, dict := none, data := .fields #[.ref t1, .none, .none, .none, .bool false, .none] } := Heap.get?_push_of_some _ ho
    have ha' : h'.get? a = some { cls := .ref C, dict := some hp.objs.size, data := .fields #[.ref t1, .none, .none, .none, .bool false, .none] } := (hs.2 a ha).trans (Heap.get?_update_self _ h1 rfl)
    have keep : ∀ b o, b ≠ a → hp.get? b = some o → h'.get? b = some o := fun b o hb hob => (hs.2 b (Nat.ne_of_lt (Heap.lt_size hob))).trans ((Heap.get?_update_ne _ _ _ _ hb).trans (Heap.get?_push_of_some _ hob))
    -- the dict alone, then the exception's own object
    have g1 : ∀ b, b ≠ a → (h'.update a fun _ => ({ cls := .ref C, dict := none, data := .fields #[.ref t1, .none, .none, .none, .bool false, .none] } : Obj)).get? b = h'.get? b := fun b hb => Heap.get?_update_other _ _ (Ne.symm hb)
    have g2 := Heap.get?_update_self (fun _ => ({ cls := .ref C, dict := none, data := .fields #[.ref t1, .none, .none, .none, .bool false, .none] } : Obj)) ha' rfl
    have J1 := I.laid (t' := tk') (a := hp.objs.size) (o := exd hp.objs.size [(f, y)]) (h' := h'.update a fun _ => ({ cls := .ref C, dict := none, data := .fields #[.ref t1, .none, .none, .none, .bool false, .none] } : Obj))
      (fun b o hob => by
        by_cases hb : b = a
        · subst hb
          rw [ho] at hob
          cases hob
          exact g2
        · exact (g1 b hb).trans (keep b o hb hob)) (Nat.le_refl _)
      (exd_ok (hn'.at fun o q => (g1 _ ha.symm).trans q) (relO_put (fs := []) ry fun g => True.intro))
    have ea : upd H hp.objs.size (exd hp.objs.size [(f, y)]) a = some (exo a C none) := by rw [upd_ne ha]; exact e
    have J2 := J1.write (t' := tk') (x := a) (e := a) (h' := h') (o := exo a C (some hp.objs.size)) (by rw [ea]; exact True.intro) (.inl rfl) (fun b o hb hob => (g1 b hb).symm.trans hob) ⟨_, ha'⟩ (exo_ok ha')
    exact h _ _ (I.hok.fresh (Nat.le_refl _)) ha.symm J2
theorem gst_old (T : XC X.K C B newId initId bmB) (I : Inv X pins σ H s) (e : H a = some (exo a C (some dx))) (ed : H dx = some (exd dx fs)) (hl : fs.length ≤ 900) (hno : PySem.W.findIn X.K (.ref C) f = some none) (ry : RelV y u)
    (h : ∀ s', Inv X pins σ (upd H dx (exd dx ((f, y) :: fs))) s' → Q () s') : wpAny (model X.prog X.w) A (setAttr (.ref a) f u) Q E s := by
  obtain ⟨cd, hcl, hdc⟩ := cls_of T
  obtain ⟨t1, ho⟩ := exo_at I.hok e
  obtain ⟨mA, hns, rel⟩ := exd_at I.hok ed
  have hw := within_of rel
  obtain ⟨hp, g, d, t, os⟩ := s
  obtain ⟨oD, _, _, hoD, _, _⟩ := hns.count hw
  have hcls : PySem.W.Looks (model X.prog X.w) hp (classData C) cd := PySem.W.looks_clsIn I.kIn hcl
  have IA : PySem.W.InstAt hp a { cls := .ref C, dict := some dx, data := .fields #[.ref t1, .none, .none, .none, .bool false, .none] } C (some oD) := ⟨ho, rfl, rfl, hoD⟩
  refine PySem.W.set_plain I.kIn IA T.sa ?_
  refine PySem.W.osa_openX T.S I.kIn IA T.ovr (r := none) (by unfold PySem.W.takerIn; rw [hno]; rfl) fun b => ?_
  show wpAny _ _ (Builtin.ObjectAttr.storeInOwnDict (.ref a) (.ref C) (.str f _) f u b) _ _ _
  obtain ⟨nm, bs, mro, ns, qn, hd, sn, sb, ab, col, del⟩ := cd
  dsimp only at hdc
  subst hdc
  unfold Builtin.ObjectAttr.storeInOwnDict Builtin.ObjectAttr.ownDictForStores
  have hz : (fs.map (·.1)).length ≤ 1000 := by rw [List.length_map]; omega
  repeat (first | with_reducible refine PySem.OEX.store_in_old hns hw hz ?_ | with_reducible refine wpAny_loadPart_at ho ?_ | with_reducible refine hcls.at ?_ | wp_step)
  intro h' tk' hn' hs
  have hd : ∃ o, h'.get? dx = some o := by
    obtain ⟨o, _, _, e', _⟩ := hn'
    exact ⟨o, e'⟩
  exact h _ (I.write (t' := tk') (x := dx) (e := dx) (o := exd dx ((f, y) :: fs)) (by rw [ed]; exact True.intro) (.inl rfl) (fun b o hb hob => (hs.2 b hb).trans hob) hd (exd_ok hn' (relO_put ry rel)))
end
/-! ### readings and rules -/
/-- self.f = e, self an exception that is made or stands -/
def tGst (K : PySem.W.Frag) (f : Str) (to te : TE) : TS := fun D σ H => te σ H fun y H1 => to σ H1 fun x H2 => ∃ (a C : Addr) (B newId initId : String) (bmB : List Value), x = .ref a ∧ XC K C B newId initId bmB ∧ PySem.W.findIn K (.ref C) f = some none ∧
  ((H2 a = some (exo a C none) ∧ ∀ dx, H2 dx = none → dx ≠ a → D.nx σ (upd (upd H2 dx (exd dx [(f, y)])) a (exo a C (some dx)))) ∨
    ∃ (dx : Addr) (fs : List (Str × V)), H2 a = some (exo a C (some dx)) ∧ H2 dx = some (exd dx fs) ∧ fs.length ≤ 900 ∧ D.nx σ (upd H2 dx (exd dx ((f, y) :: fs))))
/-- C(e, ..) as a value -/
def tGmk (C : Addr) (sp : Sp) (gV : List V → List V) (ta : TA) : TE := fun σ H Q => ta σ H fun vs H1 => vs.length ≤ 1000 ∧ ∀ a, H1 a = none → sp (.ref a :: gV vs) (upd H1 a (exo a C none)) (fun v H2 => v = .non ∧ Q (.ref a) H2) E0
/-- e.f of an exception that is tracked -/
structure XF (K : PySem.W.Frag) (C : Addr) : Prop where
  x : XfC K C
  i : ExcC K C
def tGf (K : PySem.W.Frag) (f : Str) (te : TE) : TE := fun σ H Q => te σ H fun x H1 => ∃ (a C d : Addr) (fs : List (Str × V)) (v : V), x = .ref a ∧ XF K C ∧ PySem.W.findIn K (.ref C) f = some none ∧ H1 a = some (exo a C (some d)) ∧ H1 d = some (exd d fs) ∧ fs.lookup f = some v ∧ Q v H1
def rIsX (K : PySem.W.Frag) : List V → Hp → VK → Prop := fun xs H Q => ∃ (a C d : Addr) (fs : List (Str × V)) (c : V) (cv : Value) (b : Bool), xs = [.ref a, c] ∧ ClsV c cv ∧ H a = some (exo a C (some d)) ∧ H d = some (exd d fs) ∧ XF K C ∧ PySem.W.kitOne K (.ref C) cv = some b ∧ Q (.bl b) H
section
variable {X : Cx} {o e : Expr} {es : List Expr} {to te : TE} {ta : TA} {f : Str} {p p' pos : Pos}
theorem ps_gst (ho : PE X o to) (he : PE X e te) (hs : swapsWith e (some (.Attribute o f p')) pos.line X.env = pure false := by rfl) : PS X (.Assign [.Attribute o f p'] e pos) (tGst X.K f to te) where
  run := fun pins s σ H D I h => plainObj_wpAny_Assign_Attribute (thn (he.run pins s σ H _ I h) fun v s1 ⟨y, H1, I1, r1, q1⟩ => thn (ho.run pins s1 σ H1 _ I1 q1) fun u s2 hh => by
    obtain ⟨x, H2, I2, r2, a, C, B, nI, iI, bmB, ex, T, hno, q⟩ := hh
    subst ex
    obtain rfl : u = Value.ref a := r2
    rcases q with ⟨ea, q⟩ | ⟨dx, fs, ea, ed, hl, q⟩
    · exact gst_new T I2 ea hno r1 fun dx s' n ne J => ⟨σ, _, J, q dx n ne⟩
    · exact gst_old T I2 ea ed hl hno r1 fun s' J => ⟨σ, _, J, q⟩) hs
theorem pe_gf (he : PE X e te) (hb : attributeBase e f X.env (eval e X.env) = eval e X.env := by rfl) : PE X (.Attribute e f pos) (tGf X.K f te) where
  run := fun pins s σ H Q I h => attr_of hb (thn (he.run pins s σ H _ I h) fun u s1 hh => by
    obtain ⟨x, H1, I1, rx, a, C, d, fs, v, ex, T, hno, ea, ed, l, q⟩ := hh
    subst ex
    obtain rfl : u = Value.ref a := rx
    obtain ⟨t1, ho⟩ := exo_at I1.hok ea
    obtain ⟨mA, hns, rel⟩ := exd_at I1.hok ed
    obtain ⟨od, hod, hl⟩ := lookIn_ns hns
    obtain ⟨u, hu, ru⟩ := RelO.some_of (v := v) (o := mA f) (by rw [← l]; exact rel f)
    have J : PySem.W.InstAt s1.heap a _ C (some od) := ⟨ho, rfl, rfl, hod⟩
    exact HandSPX.exc_get I1.kIn J T.x.ga T.x.gg T.x.exC (PySem.W.findObj_own T.x.hdC hno rfl (by rw [hl, hu])) (handed_of ru) ⟨v, H1, I1.tok _, ru, q⟩)
theorem some_dict {K : PySem.W.Frag} {C : Addr} (h : PySem.W.hasDictIn K C = true) : (PySem.W.clsIn K C).isSome = true := by
  unfold PySem.W.hasDictIn at h
  cases e : PySem.W.clsIn K C with
  | none => rw [e] at h; cases h
  | some _ => rfl
theorem call_isX : CallR X (.builtin "isinstance") (rIsX X.K) := by
  intro pins s σ H xs us Q I r h
  obtain ⟨a, C, d, fs, c, cv, b, rfl, hcv, ea, ed, T, e, q⟩ := h
  obtain ⟨u1, u2, rfl, r1, r2⟩ := vals2 r
  obtain rfl : u1 = Value.ref a := r1
  have ec := hcv.eq r2
  subst ec
  obtain ⟨t1, ho⟩ := exo_at I.hok ea
  obtain ⟨mA, hns, rel⟩ := exd_at I.hok ed
  obtain ⟨od, hod, hl⟩ := lookIn_ns hns
  have J : PySem.W.InstAt s.heap a _ C (some od) := ⟨ho, rfl, rfl, hod⟩
  exact PySem.W.kia_one (PySem.W.kitx_exc (some_dict T.i.hd) T.i.hg T.i.hk T.i.hs T.i.ha T.i.hn T.i.ht T.i.hm) I.kIn J e (fun z => nomatch z) fun tk => ⟨.bl b, H, I.tok tk, rfl, q⟩
end
end Rd
set_option maxHeartbeats 1000000
namespace PySem
namespace RdK
open Builtin Builtin.ObjectAttr HandSPX
section
variable {M : Model} {A : Around} {E : Value → Shared → Prop} {h : Heap} {g : Array GenState} {d : Drawn} {t : Nat} {os : OsState}
variable {nm q : Str} {C N : Addr} {bs bm bmB : List Value} {hdct : Bool} {sn : List Str} {sub : List Value} {ab : Bool} {col : Option Bool} {dd : Option Addr} {k0 k1 k2 k3 k5 : Option Value} {B newId initId : String} {kw : List (Str × Value)}
theorem chk_newK (F : ExcBaseFacts B newId initId bmB) (hT : ∀ X : String, bm.contains (.type X) = bmB.contains (.type X)) {Q : Unit → Shared → Prop}
    (hC : h.get? C = some (excClassObj nm q C N bs bm hdct sn sub ab col dd k0 k1 k2 k3 k5 newId)) (hq : Q () ⟨h, g, d, t, os⟩) :
    wpAny M A (checkBuiltinCall newId ⟨[.ref C], kw⟩) Q E ⟨h, g, d, t, os⟩ := by
  have hcont : (Value.ref C :: bm).contains (.type B) = true := by rw [List.contains_cons, hT, F.hasB, Bool.or_true]
  have hstar := F.noStar
  simp only [checkBuiltinCall, F.newKind, F.newSplit, F.newRow]
  repeat (first
    | refine wpAny_loadPart_at hC ?_
    | (refine wpAny_isSubtype_exc hC ?_; rw [hcont])
    | refine wpAny_staticBase_exc hC ?_
    | refine wpAny_madeBy_exc hC ?_
    | simp only [bne_self_eq_false, Bool.false_eq_true, if_false]
    | wp_step)
  exact hq
end
section
variable {prog : Program} {w : World} {A : Around} {E : Value → Shared → Prop} {R : Result → Shared → Prop} {h : Heap} {g : Array GenState} {d : Drawn} {t : Nat} {os : OsState}
variable {nm q : Str} {C N : Addr} {bs bm bmB : List Value} {hdct : Bool} {sn : List Str} {sub : List Value} {ab : Bool} {col : Option Bool} {dd : Option Addr} {k0 k1 k2 k3 k5 : Option Value} {B newId initId : String} {kw : List (Str × Value)}
theorem newK (F : ExcBaseFacts B newId initId bmB) (hT : ∀ X : String, bm.contains (.type X) = bmB.contains (.type X))
    (hC : h.get? C = some (excClassObj nm q C N bs bm hdct sn sub ab col dd k0 k1 k2 k3 k5 newId))
    (hq : R (.ok (.ret (.ref (h.objs.size + 1)))) ⟨(h.push (PySem.W.kdv_tup [])).push (PySem.HandSPX.excO C h.objs.size), g, d, t, os⟩) :
    codeAny (model prog w) A (.builtin newId ⟨[.ref C], kw⟩) R ⟨h, g, d, t, os⟩ := by
  have hends := F.ends
  have c1 : (Value.ref C :: bm).contains (.type B) = true := by rw [List.contains_cons, hT, F.hasB, Bool.or_true]
  have c2 : (Value.ref C :: bm).contains (.type "AttributeError") = false := by rw [List.contains_cons, hT, F.noAttr]; rfl
  have c3 : (Value.ref C :: bm).contains (.type "NameError") = false := by rw [List.contains_cons, hT, F.noName]; rfl
  refine codeAny_builtinAt F.entry ?_
  unfold Builtin.«BaseException.__new__»
  refine wpAt_bind ?_
  show wpAt _ _ _ (stack >>= _) _ _ _
  refine wpAt_bind (wpAt_stack fun p below => wpAt_of_wpAny ?_)
  wp_walk
  refine wpAt_of_wpAny ?_
  rw [F.owner]
  repeat (first
    | with_reducible refine wpAny_madeHere_exc F.canon hC ?_
    | with_reducible refine wpAny_loadPart_at hC ?_
    | (with_reducible refine wpAny_isSubtype_exc hC ?_; first | rw [c1] | rw [c2] | rw [c3])
    | wp_step)
  show R _ _
  rw [Heap.size_push]
  exact hq
theorem tcallK (F : ExcBaseFacts B newId initId bmB) (hT : ∀ X : String, bm.contains (.type X) = bmB.contains (.type X)) {fI : Addr} {Q : Fin → Shared → Prop}
    (hC : h.get? C = some (excClassObj nm q C N bs bm hdct sn sub ab col dd k0 k1 k2 k3 k5 newId))
    (hi : W.Looks (model prog w) h (typeLookup (.ref C) "__init__") (some (.ref fI))) (hb : ∀ self, W.Looks (model prog w) h (bindSpecial (.ref fI) self) (.ref fI, [self]))
    (hq : codeAny (model prog w) A (.call (.ref fI) ⟨[.ref (h.objs.size + 1)], kw⟩) (fun r s' => match r with | .ok (.ret v) => v = .none ∧ Q (.done (.ret (.ref (h.objs.size + 1)))) s' | .ok _ => False | .error e => E e s')
      ⟨(h.push (W.kdv_tup [])).push (excO C h.objs.size), g, d, t, os⟩) :
    wpAny (model prog w) A (Builtin.«type.__call__» ⟨[.ref C], kw⟩) Q E ⟨h, g, d, t, os⟩ := by
  repeat (first
    | with_reducible refine wpAny_loadPart_at hC ?_
    | with_reducible refine wpAny_madeBy_exc hC ?_
    | wp_step)
  refine codeAny_call_builtin_code (Code.quiet_builtin _ F.quiet) (chk_newK F hT hC ?_)
  refine newK F hT hC ?_
  show wpAny _ _ _ _ _ _
  have kk : ∀ b o, h.get? b = some o → ((h.push (W.kdv_tup [])).push (excO C h.objs.size)).get? b = some o := fun b o e => Heap.get?_push_of_some _ (Heap.get?_push_of_some _ e)
  have hC₁ := kk _ _ hC
  have he : ((h.push (W.kdv_tup [])).push (excO C h.objs.size)).get? (h.objs.size + 1) = some (excO C h.objs.size) := by heap_get
  have hcC : (Value.ref C :: bm).contains (.ref C) = true := by simp
  have i1 := hi.keeps kk
  have b1 := (hb (.ref (h.objs.size + 1))).keeps kk
  unfold isInstance
  repeat (first
    | with_reducible refine wpAny_loadPart_at he ?_
    | (with_reducible refine wpAny_isSubtype_exc hC₁ ?_; rw [hcC])
    | wp_step)
  show wpAny _ _ (typeLookup (.ref C) _) _ _ _
  refine i1.at (wpAny_holding (wpAny_bind (b1.at (wpAny_bind (wpAny_call (codeAny_mono hq fun r s' z => ?_))))))
  rcases r with e | (v | _ | _ | _) <;> first | exact z | exact z.elim | skip
  obtain ⟨rfl, z⟩ := z
  first
    | exact wpAny_pure (wpAny_pure z)
    | (wp_walk; exact z)
theorem ccallK (F : ExcBaseFacts B newId initId bmB) (hT : ∀ X : String, bm.contains (.type X) = bmB.contains (.type X)) {fI : Addr}
    (hC : h.get? C = some (excClassObj nm q C N bs bm hdct sn sub ab col dd k0 k1 k2 k3 k5 newId))
    (hi : W.Looks (model prog w) h (typeLookup (.ref C) "__init__") (some (.ref fI))) (hb : ∀ self, W.Looks (model prog w) h (bindSpecial (.ref fI) self) (.ref fI, [self]))
    (hq : codeAny (model prog w) (A.under (.builtin "type.__call__" ⟨[.ref C], kw⟩)) (.call (.ref fI) ⟨[.ref (h.objs.size + 1)], kw⟩) (W.InitBack (h.objs.size + 1) R)
      ⟨(h.push (W.kdv_tup [])).push (excO C h.objs.size), g, d, t, os⟩) :
    codeAny (model prog w) A (.call (.ref C) ⟨[], kw⟩) R ⟨h, g, d, t, os⟩ := by
  have f1 := tc_lookup
  have f2 := tc_bind (.ref C)
  have hTy : (⟨h, g, d, t, os⟩ : Shared).TypeIs (.ref C) "type" := ⟨_, hC, rfl⟩
  refine codeAny_of_tree ?_
  show wpAny _ _ (callAny (.ref C) _) _ _ _
  repeat (any_goals (first
    | assumption
    | with_reducible refine wpAny_loadPart_at hC ?_
    | wp_step))
  refine ⟨rfl, ?_⟩
  show codeAny (model prog w) A (.call (.builtin "type.__call__") ⟨[.ref C], kw⟩) R _
  refine codeAny_call_builtin_at (Code.quiet_builtin _ (by decide +kernel)) entry_typeCall (wpAny_check_type_call_sub hC (tcallK F hT hC hi hb ?_))
  exact codeAny_mono hq fun r s' z => by rcases r with e | (v | _ | _ | _) <;> exact z
end
end RdK
end PySem
set_option maxHeartbeats 1000000
namespace Rd
open PySem PySem.Spec PyProof.Rows L2
/-! ## an own exception is made: by position, by keywords, as a value, to be raised -/
/-- what is asked of the class's own __init__ -/
structure XI (X : Cx) (CX : CXT) (k : Nat) (C : Addr) (fI : Addr) (fd : FuncData) (ps : List Str) (sp : Sp) : Prop where
  iC : PySem.W.findIn X.K (.ref C) "__init__" = some (some (.ref fI))
  tI : PySem.W.typeIn X.K (.ref fI) = some (.type "function")
  F : FnOk X.prog X.w X.K X.mg X.base CX k fI fd ps sp
def MkQ (sp : Sp) (C : Addr) (f : V → List V) (H1 : Hp) (Q : VK) : Prop := ∀ a, H1 a = none → sp (f (.ref a)) (upd H1 a (exo a C none)) (fun v H2 => v = .non ∧ Q (.ref a) H2) E0
section
variable {X : Cx} {CX : CXT} {pins : List (Addr × Obj)} {σ : L2.St} {H1 : Hp} {s1 : Shared} {C fI : Addr} {k : Nat} {fd : FuncData} {ps ks : List Str} {sp : Sp} {Q : VK} {B newId initId : String} {bmB : List Value} {us ws : List Value} {vs zs : List V} {g : List Value → List Value → List Value} {gV : List V → List V → List V}
theorem mk_pos (T : XC X.K C B newId initId bmB) (N : XI X CX k C fI fd ps sp) (hr : Room (k + 1) X.A) (hb : Binds X.K fd ps []) (hx : Passes CX X E0) (I1 : Inv X pins σ H1 s1) (r1 : Vals vs us) (hz : vs.length ≤ 1000) (q1 : MkQ sp C (fun a => a :: vs) H1 Q) :
    wpAny (model X.prog X.w) X.A (call (.ref C) us) (EP X pins σ Q) X.xe s1 := by
  obtain ⟨nm, N', qn, bs, bm, hdct, sn, sub, ab, col, dd, k0, k1, k2, k3, k5, hC, hT⟩ := PySem.W.excInit_of I1.kIn T.ini
  obtain ⟨hp, g, dr, tk, os⟩ := s1
  have hsz : hp.objs.size ≤ hp.objs.size + 1 := Nat.le_succ _
  have hn : H1 (hp.objs.size + 1) = none := I1.hok.fresh hsz
  have hq := q1 (hp.objs.size + 1) hn
  have kk : ∀ b o, hp.get? b = some o → ((hp.push (PySem.W.kdv_tup us)).push (PySem.HandSPX.excO C hp.objs.size)).get? b = some o := fun b o e => Heap.get?_push_of_some _ (Heap.get?_push_of_some _ e)
  have hget : ((hp.push (PySem.W.kdv_tup us)).push (PySem.HandSPX.excO C hp.objs.size)).get? (hp.objs.size + 1) = some (PySem.HandSPX.excO C hp.objs.size) := by heap_get
  have I2 : Inv X pins σ (upd H1 (hp.objs.size + 1) (exo (hp.objs.size + 1) C none)) ⟨(hp.push (PySem.W.kdv_tup us)).push (PySem.HandSPX.excO C hp.objs.size), g, dr, tk, os⟩ :=
    I1.laid (t' := tk) (a := hp.objs.size + 1) (o := exo (hp.objs.size + 1) C none) (h' := (hp.push (PySem.W.kdv_tup us)).push (PySem.HandSPX.excO C hp.objs.size)) kk hsz (exo_ok hget)
  have r2 : Vals (V.ref (hp.objs.size + 1) :: vs) ((Value.ref (hp.objs.size + 1) :: us) ++ []) := by rw [List.append_nil]; exact .cons rfl r1
  have hl : (Value.ref (hp.objs.size + 1) :: us ++ []).length = ps.length := by
    have e := r2.length
    rw [N.F.len _ _ _ _ hq] at e
    exact e.symm
  have hus : us.length ≤ sizeLine := by
    rw [← Paired.length r1, sizeLine_eq]
    omega
  refine wpAny_call (PySem.HandSPX.call_own T.F hT hC (PySem.W.looks_findIn I1.kIn N.iC) (fun self => PySem.W.bind_fn I1.kIn self N.tI) hus
    (codeAny_mono (N.F.run _ X.stack _ _ ⟨Value.ref (hp.objs.size + 1) :: us, []⟩ ((Value.ref (hp.objs.size + 1) :: us) ++ []) _ _ E0 (hr.make C us []) (I2.env0.make C us []) (hb _ (Value.ref (hp.objs.size + 1) :: us) I2.kIn hl) r2 hq) fun r s' hq' => ?_))
  cases r with
  | error er => exact hx pins σ _ _ er s' I2 hq'
  | ok fl =>
    cases fl with
    | ret u =>
      obtain ⟨v, H2, J, rv, ev, q⟩ := I2.after hq'
      subst ev
      exact ⟨rv, .ref _, H2, J, rfl, q⟩
    | next => exact False.elim hq'
    | brk => exact False.elim hq'
    | cont => exact False.elim hq'
theorem mk_kw (T : XC X.K C B newId initId bmB) (N : XI X CX k C fI fd ps sp) (hr : Room (k + 1) X.A) (hb : KBn X.K fd ps 1 ks g gV) (hx : Passes CX X E0) (I1 : Inv X pins σ H1 s1) (r1 : Vals zs ws) (hz : zs.length = ks.length) (q1 : MkQ sp C (fun a => gV [a] zs) H1 Q) :
    wpAny (model X.prog X.w) X.A (call (.ref C) [] (ks.zip ws)) (EP X pins σ Q) X.xe s1 := by
  obtain ⟨nm, N', qn, bs, bm, hdct, sn, sub, ab, col, dd, k0, k1, k2, k3, k5, hC, hT⟩ := PySem.W.excInit_of I1.kIn T.ini
  obtain ⟨hp, g', dr, tk, os⟩ := s1
  have hsz : hp.objs.size ≤ hp.objs.size + 1 := Nat.le_succ _
  have hn : H1 (hp.objs.size + 1) = none := I1.hok.fresh hsz
  have hq := q1 (hp.objs.size + 1) hn
  have kk : ∀ b o, hp.get? b = some o → ((hp.push (PySem.W.kdv_tup [])).push (PySem.HandSPX.excO C hp.objs.size)).get? b = some o := fun b o e => Heap.get?_push_of_some _ (Heap.get?_push_of_some _ e)
  have hget : ((hp.push (PySem.W.kdv_tup [])).push (PySem.HandSPX.excO C hp.objs.size)).get? (hp.objs.size + 1) = some (PySem.HandSPX.excO C hp.objs.size) := by heap_get
  have I2 : Inv X pins σ (upd H1 (hp.objs.size + 1) (exo (hp.objs.size + 1) C none)) ⟨(hp.push (PySem.W.kdv_tup [])).push (PySem.HandSPX.excO C hp.objs.size), g', dr, tk, os⟩ :=
    I1.laid (t' := tk) (a := hp.objs.size + 1) (o := exo (hp.objs.size + 1) C none) (h' := (hp.push (PySem.W.kdv_tup [])).push (PySem.HandSPX.excO C hp.objs.size)) kk hsz (exo_ok hget)
  have r2 := hb.rel (vs := [V.ref (hp.objs.size + 1)]) (us := [Value.ref (hp.objs.size + 1)]) (.cons rfl .nil) r1
  refine wpAny_call (PySem.RdK.ccallK T.F hT hC (PySem.W.looks_findIn I1.kIn N.iC) (fun self => PySem.W.bind_fn I1.kIn self N.tI)
    (codeAny_mono (N.F.run _ X.stack _ _ ⟨[Value.ref (hp.objs.size + 1)], ks.zip ws⟩ (g [Value.ref (hp.objs.size + 1)] ws) _ _ E0 (hr.make C [] (ks.zip ws)) (I2.env0.make C [] (ks.zip ws)) (hb.to _ [Value.ref (hp.objs.size + 1)] ws I2.kIn rfl (r1.length.symm.trans hz)) r2 hq) fun r s' hq' => ?_))
  cases r with
  | error er => exact hx pins σ _ _ er s' I2 hq'
  | ok fl =>
    cases fl with
    | ret u =>
      obtain ⟨v, H2, J, rv, ev, q⟩ := I2.after hq'
      subst ev
      exact ⟨rv, .ref _, H2, J, rfl, q⟩
    | next => exact False.elim hq'
    | brk => exact False.elim hq'
    | cont => exact False.elim hq'
/-- C(e, ..) to be raised: as a value, then its object is let go -/
theorem mk_raise (T : XC X.K C B newId initId bmB) (hR : Raises X (.ref C)) (N : XI X CX k C fI fd ps sp) (hr : Room (k + 1) X.A) (hb : Binds X.K fd ps []) (hx : Passes CX X E0) (I1 : Inv X pins σ H1 s1) (r1 : Vals vs us) (hz : vs.length ≤ 1000) {Q : XK}
    (q1 : MkQ sp C (fun a => a :: vs) H1 (fun v H2 => ∃ (a d : Addr) (fs : List (Str × V)), v = .ref a ∧ H2 a = some (exo a C (some d)) ∧ H2 d = some (exd d fs) ∧ H1 d = none ∧ Q (.ref C) (some d) (upd (del H2 a) d (.xd fs)))) :
    wpAny (model X.prog X.w) X.A (call (.ref C) us) (MkP X pins σ Q) X.xe s1 := by
  obtain ⟨nm, N', qn, bs, bm, hdct, sn, sub, ab, col, dd, k0, k1, k2, k3, k5, hC, hT⟩ := PySem.W.excInit_of I1.kIn T.ini
  obtain ⟨hp, g, dr, tk, os⟩ := s1
  have hsz : hp.objs.size ≤ hp.objs.size + 1 := Nat.le_succ _
  have hn : H1 (hp.objs.size + 1) = none := I1.hok.fresh hsz
  have hq := q1 (hp.objs.size + 1) hn
  have kk : ∀ b o, hp.get? b = some o → ((hp.push (PySem.W.kdv_tup us)).push (PySem.HandSPX.excO C hp.objs.size)).get? b = some o := fun b o e => Heap.get?_push_of_some _ (Heap.get?_push_of_some _ e)
  have hget : ((hp.push (PySem.W.kdv_tup us)).push (PySem.HandSPX.excO C hp.objs.size)).get? (hp.objs.size + 1) = some (PySem.HandSPX.excO C hp.objs.size) := by heap_get
  have I2 : Inv X pins σ (upd H1 (hp.objs.size + 1) (exo (hp.objs.size + 1) C none)) ⟨(hp.push (PySem.W.kdv_tup us)).push (PySem.HandSPX.excO C hp.objs.size), g, dr, tk, os⟩ :=
    I1.laid (t' := tk) (a := hp.objs.size + 1) (o := exo (hp.objs.size + 1) C none) (h' := (hp.push (PySem.W.kdv_tup us)).push (PySem.HandSPX.excO C hp.objs.size)) kk hsz (exo_ok hget)
  have r2 : Vals (V.ref (hp.objs.size + 1) :: vs) ((Value.ref (hp.objs.size + 1) :: us) ++ []) := by rw [List.append_nil]; exact .cons rfl r1
  have hl : (Value.ref (hp.objs.size + 1) :: us ++ []).length = ps.length := by
    have e := r2.length
    rw [N.F.len _ _ _ _ hq] at e
    exact e.symm
  have hus : us.length ≤ sizeLine := by
    rw [← Paired.length r1, sizeLine_eq]
    omega
  refine wpAny_call (PySem.HandSPX.call_own T.F hT hC (PySem.W.looks_findIn I1.kIn N.iC) (fun self => PySem.W.bind_fn I1.kIn self N.tI) hus
    (codeAny_mono (N.F.run _ X.stack _ _ ⟨Value.ref (hp.objs.size + 1) :: us, []⟩ ((Value.ref (hp.objs.size + 1) :: us) ++ []) _ _ E0 (hr.make C us []) (I2.env0.make C us []) (hb _ (Value.ref (hp.objs.size + 1) :: us) I2.kIn hl) r2 hq) fun r s' hq' => ?_))
  cases r with
  | error er => exact hx pins σ _ _ er s' I2 hq'
  | ok fl =>
    cases fl with
    | ret u =>
      obtain ⟨v, H2, os2, bare2, un2, hok2, rv, ev, a, d, fs, ea0, ea, ed, hd1, q2⟩ := hq'
      subst ev
      cases ea0
      obtain ⟨h2, g2, d2, t2, os'⟩ := s'
      exact ⟨rv, mk_end hR I1 hsz kk un2 hok2 os2 bare2 ea ed hd1 q2⟩
    | next => exact False.elim hq'
    | brk => exact False.elim hq'
    | cont => exact False.elim hq'
end
/-! ### readings -/
def tMkV (C : Addr) (sp : Sp) (ta : TA) : TE := fun σ H Q => ta σ H fun vs H1 => vs.length ≤ 1000 ∧ MkQ sp C (fun a => a :: vs) H1 Q
def tMkK (C : Addr) (m : Nat) (sp : Sp) (gV : List V → List V → List V) (tk : TA) : TE := fun σ H Q => tk σ H fun zs H1 => zs.length = m ∧ MkQ sp C (fun a => gV [a] zs) H1 Q
def tMkR (C : Addr) (sp : Sp) (ta : TA) : L2.St → Hp → XK → Prop := fun σ H Q => ta σ H fun vs H1 => vs.length ≤ 1000 ∧
  MkQ sp C (fun a => a :: vs) H1 (fun v H2 => ∃ (a d : Addr) (fs : List (Str × V)), v = .ref a ∧ H2 a = some (exo a C (some d)) ∧ H2 d = some (exd d fs) ∧ H1 d = none ∧ Q (.ref C) (some d) (upd (del H2 a) d (.xd fs)))
section
variable {X : Cx} {CX : CXT} {x : Str} {e : Expr} {es : List Expr} {kws : List Keyword} {ta tk : TA} {p pos : Pos} {C fI : Addr} {k : Nat} {fd : FuncData} {ps ks : List Str} {sp : Sp} {B newId initId : String} {bmB : List Value} {g : List Value → List Value → List Value} {gV : List V → List V → List V}
theorem pe_mkV (T : XC X.K C B newId initId bmB) (N : XI X CX k C fI fd ps sp) (hr : Room (k + 1) X.A) (hb : Binds X.K fd ps []) (hx : Passes CX X E0) (hg : Gl X x) (hm : X.mg x = some (.ref C)) (ha : PA X (e :: es) ta)
    (hdb : (x == ("__debug__" : Str)) = false := by decide) (he : starEach (e :: es) X.env = (false, eval e X.env) :: starEach es X.env := by rfl) (hpl : (backTo pos (starEach es X.env)).any (·.1) = false := by rfl) :
    PE X (.Call (.Name x p) (e :: es) [] pos) (tMkV C sp ta) := by
  refine ⟨fun pins s σ H Q I h => ?_⟩
  refine wpAny_Call_Name_kw (ld_glob I hg hm ?_ hdb)
  exact PySem.W.callWith_K (h₀ := X.base) I.ok.mod.kin T.kC (thn (ha.run pos pins s σ H _ I h) fun us s1 ⟨vs, H1, I1, r1, hz, q1⟩ => ⟨I1.kIn, mk_pos T N hr hb hx I1 r1 hz q1⟩) he hpl
theorem pe_mkV0 (T : XC X.K C B newId initId bmB) (N : XI X CX k C fI fd ps sp) (hr : Room (k + 1) X.A) (hb : Binds X.K fd ps []) (hx : Passes CX X E0) (hg : Gl X x) (hm : X.mg x = some (.ref C))
    (hdb : (x == ("__debug__" : Str)) = false := by decide) : PE X (.Call (.Name x p) [] [] pos) (tMkV C sp tNil) := by
  refine ⟨fun pins s σ H Q I h => ?_⟩
  refine wpAny_Call_Name_kw (ld_glob I hg hm ?_ hdb)
  obtain ⟨hz, q1⟩ := h
  exact PySem.W.callWith_K0 I.kIn T.kC (mk_pos (us := []) (vs := []) T N hr hb hx I .nil hz q1)
theorem pe_mkK (T : XC X.K C B newId initId bmB) (N : XI X CX k C fI fd ps sp) (hr : Room (k + 1) X.A) (hb : KBn X.K fd ps 1 ks g gV) (hx : Passes CX X E0) (hg : Gl X x) (hm : X.mg x = some (.ref C)) (hkw : PK X kws tk)
    (hall : (backToKw pos (keywordEach kws X.env)).all (·.1.isSome) = true := by rfl) (hks : (backToKw pos (keywordEach kws X.env)).filterMap (·.1) = ks := by rfl) (hdb : (x == ("__debug__" : Str)) = false := by decide)
    (hpl : ((backTo pos (starEach [] X.env)).any (·.1) || (backToKw pos (keywordEach kws X.env)).any (·.1.isNone)) = false := by rfl) :
    PE X (.Call (.Name x p) [] kws pos) (tMkK C ks.length sp gV tk) where
  run := fun pins s σ H Q I h => wpAny_Call_Name_kw (ld_glob I hg hm (PySem.W.callWith_KW0 (h₀ := X.base) I.ok.mod.kin T.kC hall
    (thn (hkw.run pos pins s σ H _ I h) fun ws s2 ⟨zs, H2, I2, rz, l2, q2⟩ => ⟨I2.kIn, by rw [hks]; exact mk_kw T N hr hb hx I2 rz l2 q2⟩) hpl) hdb)
theorem pmk_V (T : XC X.K C B newId initId bmB) (hR : Raises X (.ref C)) (N : XI X CX k C fI fd ps sp) (hr : Room (k + 1) X.A) (hb : Binds X.K fd ps []) (hx : Passes CX X E0) (hg : Gl X x) (hm : X.mg x = some (.ref C)) (ha : PA X (e :: es) ta)
    (hdb : (x == ("__debug__" : Str)) = false := by decide) (he : starEach (e :: es) X.env = (false, eval e X.env) :: starEach es X.env := by rfl) (hpl : (backTo pos (starEach es X.env)).any (·.1) = false := by rfl) :
    PMk X (.Call (.Name x p) (e :: es) [] pos) (tMkR C sp ta) := by
  intro pins s σ H Q I h
  refine wpAny_Call_Name_kw (ld_glob I hg hm ?_ hdb)
  exact PySem.W.callWith_K (h₀ := X.base) I.ok.mod.kin T.kC (thn (ha.run pos pins s σ H _ I h) fun us s1 ⟨vs, H1, I1, r1, hz, q1⟩ => ⟨I1.kIn, mk_raise T hR N hr hb hx I1 r1 hz q1⟩) he hpl
theorem pmk_V0 (T : XC X.K C B newId initId bmB) (hR : Raises X (.ref C)) (N : XI X CX k C fI fd ps sp) (hr : Room (k + 1) X.A) (hb : Binds X.K fd ps []) (hx : Passes CX X E0) (hg : Gl X x) (hm : X.mg x = some (.ref C))
    (hdb : (x == ("__debug__" : Str)) = false := by decide) : PMk X (.Call (.Name x p) [] [] pos) (tMkR C sp tNil) := by
  intro pins s σ H Q I h
  refine wpAny_Call_Name_kw (ld_glob I hg hm ?_ hdb)
  obtain ⟨hz, q1⟩ := h
  exact PySem.W.callWith_K0 I.kIn T.kC (mk_raise (us := []) (vs := []) T hR N hr hb hx I .nil hz q1)
end
end Rd
set_option maxHeartbeats 2000000
namespace Rd
open PySem PySem.Spec PyProof.Rows L2
/-! ## own classes that share their defs: methods, ==, !=, repr -/
section
variable {X : Cx} {CX : CXT} {k : Nat} {f : Addr} {fd : FuncData} {ps ks : List Str} {sp : Sp} {S : Addr → Prop} {m : Str}
theorem call_at {A' : Around} {pins : List (Addr × Obj)} {σ : L2.St} {H : Hp} {s : Shared} {Q : VK} {us : List Value} {vs : List V} (F : FnOk X.prog X.w X.K X.mg X.base CX k f fd ps sp) (hr : Room k A') (hfr : A'.frames = X.A.frames) (hb : Binds X.K fd ps []) (hx : Passes CX X E0)
    (I : Inv X pins σ H s) (r : Vals vs us) (h : sp vs H Q E0) : wpAny (model X.prog X.w) A' (call (.ref f) us) (EP X pins σ Q) X.xe s := by
  have e := I.env0
  have e0 : Env0 X.prog X.w X.K X.mg X.base A' X.stack s H := ⟨by rw [hfr]; exact e.frames, e.mod, e.bs, e.bsz, e.funs, e.frf, e.hok, e.bare⟩
  have hl : us.length = ps.length := by rw [← r.length]; exact F.len _ _ _ _ h
  have b := hb s us I.kIn (by rw [List.append_nil]; exact hl)
  rw [List.append_nil] at b
  refine wpAny_call (codeAny_mono (F.run A' X.stack s H ⟨us, []⟩ us vs Q E0 hr e0 b r h) fun r s' hq => ?_)
  cases r with
  | error e => exact hx pins σ H s e s' I hq
  | ok fl =>
    cases fl with
    | ret u => exact I.after hq
    | next => exact False.elim hq
    | brk => exact False.elim hq
    | cont => exact False.elim hq
/-- the classes of S: plain ones, all over object -/
structure Fam (K : PySem.W.Frag) (S : Addr → Prop) : Prop where
  cls : ∀ C, S C → Cls K C
  obj : ∀ C, S C → PySem.W.mroIn K C (.type "object") = some true
/-- a def that all of S have under a name -/
def MethF (K : PySem.W.Frag) (S : Addr → Prop) (m : Str) (f : Addr) : Prop := ∀ C, S C → Meth K C m f
def tMethF (S : Addr → Prop) (m : Str) (sp : Sp) (ta : TE) (t : TA) : TE := fun σ H Q => ta σ H fun x H1 => ∃ a C dx fs, x = .ref a ∧ S C ∧ H1 a = some (.ins C dx fs) ∧ fs.lookup m = none ∧ t σ H1 fun vs H2 => sp (x :: vs) H2 Q E0
def tMethFK (S : Addr → Prop) (m : Str) (n : Nat) (sp : Sp) (gV : List V → List V → List V) (ta : TE) (tk : TA) : TE := fun σ H Q => ta σ H fun x H1 => ∃ a C dx fs, x = .ref a ∧ S C ∧ H1 a = some (.ins C dx fs) ∧ fs.lookup m = none ∧ tk σ H1 fun zs H2 => zs.length = n ∧ sp (gV [x] zs) H2 Q E0
variable {o e : Expr} {es : List Expr} {kws : List Keyword} {ta : TE} {t tk : TA} {apos pos : Pos} {g : List Value → List Value → List Value} {gV : List V → List V → List V}
theorem pe_methF {pl : Sem Bool} (he : PE X o ta) (W : Fam X.K S) (hm : MethF X.K S m f) (F : FnOk X.prog X.w X.K X.mg X.base CX k f fd ps sp) (hr : Room k X.A) (hb : Binds X.K fd ps []) (hx : Passes CX X E0) (ha : PA X (e :: es) t)
    (hst : starEach (e :: es) X.env = (false, eval e X.env) :: starEach es X.env := by rfl) (hpl : (backTo pos (starEach es X.env)).any (·.1) = false := by rfl)
    (ht : eval (.Call (.Attribute o m apos) (e :: es) [] pos) X.env = (do
      let ov ← eval o X.env
      standAt apos.atName
      let (f, first) ← holding [ov] (getMethod ov m pl)
      callWith pos f first (backTo pos (starEach (e :: es) X.env)) (backToKw pos (keywordEach [] X.env))) := by rfl) :
    PE X (.Call (.Attribute o m apos) (e :: es) [] pos) (tMethF S m sp ta t) := by
  refine ⟨fun pins s σ H Q I h => ?_⟩
  refine PySem.W.methodCall_KW (pl := pl) (thn (he.run pins s σ H _ I h) fun u s1 ⟨x, H1, I1, rx, a, C, dx, fs, ex, hC, ea, l, q⟩ => ?_) ht
  subst ex
  obtain rfl : u = Value.ref a := rx
  refine getmeth_ok I1 ea (W.cls C hC) (hm C hC) l ?_
  refine PySem.W.callWith_K (first := [.ref a]) (h₀ := X.base) I.ok.mod.kin (hm C hC).kp (thn (ha.run pos pins s1 σ H1 _ I1 q) fun us s2 ⟨vs, H2, I2, r, q2⟩ => ⟨I2.kIn, ?_⟩) hst hpl
  exact call_at (us := .ref a :: us) (vs := .ref a :: vs) F hr rfl hb hx I2 (.cons rfl r) q2
theorem pe_methF0 {pl : Sem Bool} (he : PE X o ta) (W : Fam X.K S) (hm : MethF X.K S m f) (F : FnOk X.prog X.w X.K X.mg X.base CX k f fd ps sp) (hr : Room k X.A) (hb : Binds X.K fd ps []) (hx : Passes CX X E0)
    (ht : eval (.Call (.Attribute o m apos) [] [] pos) X.env = (do
      let ov ← eval o X.env
      standAt apos.atName
      let (f, first) ← holding [ov] (getMethod ov m pl)
      callWith pos f first (backTo pos (starEach [] X.env)) (backToKw pos (keywordEach [] X.env))) := by rfl) :
    PE X (.Call (.Attribute o m apos) [] [] pos) (tMethF S m sp ta tNil) := by
  refine ⟨fun pins s σ H Q I h => ?_⟩
  refine PySem.W.methodCall_KW (pl := pl) (thn (he.run pins s σ H _ I h) fun u s1 ⟨x, H1, I1, rx, a, C, dx, fs, ex, hC, ea, l, q⟩ => ?_) ht
  subst ex
  obtain rfl : u = Value.ref a := rx
  refine getmeth_ok I1 ea (W.cls C hC) (hm C hC) l ?_
  exact PySem.W.callWith_K0 (first := [.ref a]) I1.kIn (hm C hC).kp (call_at (us := [.ref a]) (vs := [.ref a]) F hr rfl hb hx I1 (.cons rfl .nil) q)
/-- o.m(k = v, ..) -/
theorem pe_methFK {pl : Sem Bool} (he : PE X o ta) (W : Fam X.K S) (hm : MethF X.K S m f) (F : FnOk X.prog X.w X.K X.mg X.base CX k f fd ps sp) (hr : Room k X.A) (hb : KBn X.K fd ps 1 ks g gV) (hx : Passes CX X E0) (hkw : PK X kws tk)
    (hall : (backToKw pos (keywordEach kws X.env)).all (·.1.isSome) = true := by rfl) (hks : (backToKw pos (keywordEach kws X.env)).filterMap (·.1) = ks := by rfl)
    (hpl : ((backTo pos (starEach [] X.env)).any (·.1) || (backToKw pos (keywordEach kws X.env)).any (·.1.isNone)) = false := by rfl)
    (ht : eval (.Call (.Attribute o m apos) [] kws pos) X.env = (do
      let ov ← eval o X.env
      standAt apos.atName
      let (f, first) ← holding [ov] (getMethod ov m pl)
      callWith pos f first (backTo pos (starEach [] X.env)) (backToKw pos (keywordEach kws X.env))) := by rfl) :
    PE X (.Call (.Attribute o m apos) [] kws pos) (tMethFK S m ks.length sp gV ta tk) := by
  refine ⟨fun pins s σ H Q I h => ?_⟩
  refine PySem.W.methodCall_KW (pl := pl) (thn (he.run pins s σ H _ I h) fun u s1 ⟨x, H1, I1, rx, a, C, dx, fs, ex, hC, ea, l, q⟩ => ?_) ht
  subst ex
  obtain rfl : u = Value.ref a := rx
  refine getmeth_ok I1 ea (W.cls C hC) (hm C hC) l ?_
  refine PySem.W.callWith_KW0 (first := [.ref a]) (h₀ := X.base) I.ok.mod.kin (hm C hC).kp hall (thn (hkw.run pos pins s1 σ H1 _ I1 q) fun ws s2 ⟨zs, H2, I2, rz, l2, q2⟩ => ⟨I2.kIn, ?_⟩) hpl
  rw [hks]
  have r2 := hb.rel (vs := [V.ref a]) (us := [Value.ref a]) (.cons rfl .nil) rz
  have hl : (g [Value.ref a] ws).length = ps.length := by rw [← r2.length]; exact F.len _ _ _ _ q2
  refine wpAny_call (codeAny_mono (F.run X.A X.stack s2 H2 ⟨[Value.ref a], ks.zip ws⟩ (g [Value.ref a] ws) (gV [V.ref a] zs) Q E0 hr I2.env0 (hb.to _ [Value.ref a] ws I2.kIn rfl (rz.length.symm.trans l2)) r2 q2) fun r s' hq => ?_)
  cases r with
  | error e => exact hx pins σ H2 s2 e s' I2 hq
  | ok fl =>
    cases fl with
    | ret u => exact I2.after hq
    | next => exact False.elim hq
    | brk => exact False.elim hq
    | cont => exact False.elim hq
/-! ### == and != -/
theorem look_ty {pins : List (Addr × Obj)} {σ : L2.St} {H : Hp} {s : Shared} {x : V} {u t : Value} (I : Inv X pins σ H s) (rx : RelV x u) (ty : TyX X.K H x t) : PySem.W.Looks (model X.prog X.w) s.heap (typeOf u) t := by
  obtain ⟨P, Z, p, _⟩ := kit_of I rx ty
  exact Z.ty _ _ I.kIn p
/-- S's classes as they are compared: the same own ==, != by object's -/
structure EqF (K : PySem.W.Frag) (S : Addr → Prop) (f : Addr) : Prop where
  eq : ∀ C, S C → PySem.W.findIn K (.ref C) "__eq__" = some (some (.ref f))
  ne : ∀ C, S C → PySem.W.findIn K (.ref C) "__ne__" = some (some (.builtin "object.__ne__"))
  fn : PySem.W.isFn K (.ref f) = true
/-- x == y, x of S: x is asked, or y, if its class lies below -/
def rEqF (K : PySem.W.Frag) (S : Addr → Prop) (sp : Sp) : R2 := fun x y H Q => ∃ a C dx fs, x = .ref a ∧ S C ∧ H a = some (.ins C dx fs) ∧
  ((∃ t, TyX K H y t ∧ PySem.W.notFirst K C t = true ∧ sp [x, y] H (fun v H' => ∃ b, v = .bl b ∧ Q v H') E0) ∨
    ∃ b D dy gs, y = .ref b ∧ S D ∧ H b = some (.ins D dy gs) ∧ D ≠ C ∧ PySem.W.subIn K (.ref D) (.ref C) = some true ∧ sp [y, x] H (fun v H' => ∃ b, v = .bl b ∧ Q v H') E0)
theorem inst_of {pins : List (Addr × Obj)} {σ : L2.St} {H : Hp} {s : Shared} {a C dx : Addr} {fs : List (Str × V)} (I : Inv X pins σ H s) (e : H a = some (.ins C dx fs)) : ∃ ox od, PySem.W.InstAt s.heap a ox C od := by
  obtain ⟨mA, J, _⟩ := ins_get I.hok e
  obtain ⟨od, J, _⟩ := J.look
  exact ⟨_, _, J⟩
theorem cmp_back {pins : List (Addr × Obj)} {σ : L2.St} {Q : VK} {v : Value} {s : Shared} (h : EP X pins σ (fun v H' => ∃ b, v = .bl b ∧ Q v H') v s) : PySem.W.CmpBack (EP X pins σ Q) v s := by
  obtain ⟨x, H', I', r, b, e, q⟩ := h
  subst e
  obtain rfl : v = Value.bool b := r
  exact ⟨.bl b, H', I', rfl, q⟩
theorem op_eqF (G : EqF X.K S f) (F : FnOk X.prog X.w X.K X.mg X.base CX k f fd ps sp) (hr : Room k X.A) (hb : Binds X.K fd ps []) (hx : Passes CX X E0) : OpR X (compareOp .Eq) (rEqF X.K S sp) := by
  intro pins s σ H x y v u Q I rx ry hq
  show wpAny (model X.prog X.w) X.A (richCompare .Eq v u) (EP X pins σ Q) X.xe s
  obtain ⟨a, C, dx, fs, ex, hC, ea, hq⟩ := hq
  subst ex
  obtain rfl : v = Value.ref a := rx
  obtain ⟨ox, od, J⟩ := inst_of I ea
  rcases hq with ⟨t, ty, nf, h⟩ | ⟨b, D, dy, gs, ey, hD, eb, ne, sub, h⟩
  · obtain ⟨m, hF⟩ := I.fr
    exact PySem.W.cmp_K (op := .Eq) hr.units0 hF I.ok.mod.kin J (look_ty I ry ty) nf (G.eq C hC) G.fn (wpAny_mono (call_at (us := [.ref a, u]) (vs := [.ref a, y]) F hr rfl hb hx I (.cons rfl (.cons ry .nil)) h) (fun _ _ z => cmp_back z) fun _ _ z => z)
  · subst ey
    obtain rfl : u = Value.ref b := ry
    obtain ⟨oy, od', J'⟩ := inst_of I eb
    exact PySem.W.cmp_below hr.units0 I.kIn J J' ne sub (G.eq D hD) G.fn (wpAny_mono (call_at (us := [.ref b, .ref a]) (vs := [.ref b, .ref a]) F hr rfl hb hx I (.cons rfl (.cons rfl .nil)) h) (fun _ _ z => cmp_back z) fun _ _ z => z)
/-- x != y, x of S and first -/
def rNeF (K : PySem.W.Frag) (S : Addr → Prop) (sp : Sp) : R2 := fun x y H Q => ∃ a C dx fs t, x = .ref a ∧ S C ∧ H a = some (.ins C dx fs) ∧ TyX K H y t ∧ PySem.W.notFirst K C t = true ∧ sp [x, y] H (fun v H' => ∃ b, v = .bl b ∧ Q (.bl (!b)) H') E0
theorem op_neF (W : Fam X.K S) (G : EqF X.K S f) (F : FnOk X.prog X.w X.K X.mg X.base CX k f fd ps sp) (hr : Room (k + 1) X.A) (hb : Binds X.K fd ps []) (hx : Passes CX X E0) : OpR X (compareOp .NotEq) (rNeF X.K S sp) := by
  intro pins s σ H x y v u Q I rx ry hq
  show wpAny (model X.prog X.w) X.A (richCompare .NotEq v u) (EP X pins σ Q) X.xe s
  obtain ⟨a, C, dx, fs, t, ex, hC, ea, ty, nf, h⟩ := hq
  subst ex
  obtain rfl : v = Value.ref a := rx
  obtain ⟨ox, od, J⟩ := inst_of I ea
  refine PySem.W.cmp_ne hr.units0 hr.in1.units0 I.kIn J (W.obj C hC) (look_ty I ry ty) nf (G.ne C hC) (G.eq C hC) G.fn (wpAny_mono (call_at (us := [.ref a, u]) (vs := [.ref a, y]) F hr.in1 rfl hb hx I (.cons rfl (.cons ry .nil)) h) (fun r s' z => ?_) fun _ _ z => z)
  obtain ⟨x, H', I', rr, b, e, q⟩ := z
  subst e
  obtain rfl : r = Value.bool b := rr
  exact ⟨b, rfl, .bl (!b), H', I', rfl, q⟩
/-- repr(x), x of S -/
def rRepF (S : Addr → Prop) (sp : Sp) : List V → Hp → VK → Prop := fun xs H Q => ∃ a C dx fs, xs = [.ref a] ∧ S C ∧ H a = some (.ins C dx fs) ∧ sp [.ref a] H (fun v H' => ∃ z, v = .str z ∧ Q v H') E0
theorem call_repF (hs : ∀ C, S C → PySem.W.findIn X.K (.ref C) "__repr__" = some (some (.ref f))) (hf : PySem.W.isFn X.K (.ref f) = true) (F : FnOk X.prog X.w X.K X.mg X.base CX k f fd ps sp) (hr : Room (k + 1) X.A) (hb : Binds X.K fd ps []) (hx : Passes CX X E0) :
    CallR X (.builtin "repr") (rRepF S sp) := by
  intro pins s σ H xs us Q I r h
  obtain ⟨a, C, dx, fs, rfl, hC, ea, h⟩ := h
  cases r with
  | cons r1 r2 =>
    cases r2
    obtain rfl : _ = Value.ref a := r1
    obtain ⟨ox, od, J⟩ := inst_of I ea
    obtain ⟨m, hF⟩ := I.fr
    refine PySem.W.repr_K hr.in1.units0 hF I.ok.mod.kin J (hs C hC) hf (wpAny_mono (call_at (us := [.ref a]) (vs := [.ref a]) F hr.in1 rfl hb hx I (.cons rfl .nil) h) (fun r s' z => ?_) fun _ _ z => z)
    obtain ⟨x, H', I', rr, y, e, q⟩ := z
    subst e
    obtain ⟨t, rfl⟩ := rr
    exact ⟨.str y, H', I', ⟨t, rfl⟩, q⟩
end
end Rd
set_option maxHeartbeats 2000000
namespace Rd
open PySem PySem.Spec PyProof.Rows L2
open PySem.Sem (wp)
/-! ## own len, own truth, own items -/
section
variable {prog : Program} {w : World} {A : Around} {E : Value → Shared → Prop} {s : Shared} {x : Addr}
theorem bool_new_own (prog : Program) (w : World) (x : Addr) :
    MeetsIn prog w (Builtin.«bool.__new__» ⟨[.type "bool", .ref x], []⟩) (fun A R s => wpAny (model prog w) A.in1 (truthy (.ref x)) (fun b s' => R (.ok (.ret (.bool b))) s') (fun e s' => R (.error e) s') s) :=
  .of_wp fun A R s h => by
    have f1 := F.conv_sub_bool
    obtain ⟨hp, g, d, tk, os⟩ := s
    repeat (any_goals (first | assumption | (with_reducible refine wpAny_bind (wpAny_mono h (fun b s' z => ?_) fun _ _ z => z)) | wp_step))
    all_goals first | exact ⟨_, rfl, z⟩ | exact z | skip
theorem call_bool_own {Q : Value → Shared → Prop} (h : wpAny (model prog w) A.in1.in1 (truthy (.ref x)) (fun b s' => Q (.bool b) s') E s) : wpAny (model prog w) A (call (.type "bool") [.ref x]) Q E s :=
  callType_newIn F.called_bool F.newNe_bool (F.typeCall_bool_1 (.ref x)) (F.newCall_bool_1 (.ref x)) (fun obj => F.args_object_init_2 obj (.ref x)) F.entry_bool_new (bool_new_own prog w x)
    (wpAny_mono h (fun b s1 z => (⟨rfl, z⟩ : s1.TypeIs (.bool b) "bool" ∧ Q (.bool b) s1)) fun _ _ z => z)
end
section
variable {X : Cx} {CX : CXT} {k : Nat} {f : Addr} {fd : FuncData} {ps : List Str} {sp : Sp} {S : Addr → Prop} {E : XK}
theorem call_atE {A' : Around} {pins : List (Addr × Obj)} {σ : L2.St} {H : Hp} {s : Shared} {Q : VK} {us : List Value} {vs : List V} (F : FnOk X.prog X.w X.K X.mg X.base CX k f fd ps sp) (hr : Room k A') (hfr : A'.frames = X.A.frames) (hb : Binds X.K fd ps []) (hx : Passes CX X E)
    (I : Inv X pins σ H s) (r : Vals vs us) (h : sp vs H Q E) : wpAny (model X.prog X.w) A' (call (.ref f) us) (EP X pins σ Q) X.xe s := by
  have e := I.env0
  have e0 : Env0 X.prog X.w X.K X.mg X.base A' X.stack s H := ⟨by rw [hfr]; exact e.frames, e.mod, e.bs, e.bsz, e.funs, e.frf, e.hok, e.bare⟩
  have hl : us.length = ps.length := by rw [← r.length]; exact F.len _ _ _ _ h
  have b := hb s us I.kIn (by rw [List.append_nil]; exact hl)
  rw [List.append_nil] at b
  refine wpAny_call (codeAny_mono (F.run A' X.stack s H ⟨us, []⟩ us vs Q E hr e0 b r h) fun r s' hq => ?_)
  cases r with
  | error e => exact hx pins σ H s e s' I hq
  | ok fl =>
    cases fl with
    | ret u => exact I.after hq
    | next => exact False.elim hq
    | brk => exact False.elim hq
    | cont => exact False.elim hq
/-- len(x), x of S -/
def rLenF (S : Addr → Prop) (sp : Sp) : List V → Hp → VK → Prop := fun xs H Q => ∃ a C dx fs, xs = [.ref a] ∧ S C ∧ H a = some (.ins C dx fs) ∧ sp [.ref a] H (fun v H' => ∃ n : Int, v = .int n ∧ 0 ≤ n ∧ n < 2 ^ 63 ∧ Q v H') E0
theorem call_lenF (hs : ∀ C, S C → PySem.W.findIn X.K (.ref C) "__len__" = some (some (.ref f))) (hf : PySem.W.isFn X.K (.ref f) = true) (F : FnOk X.prog X.w X.K X.mg X.base CX k f fd ps sp) (hr : Room (k + 1) X.A) (hb : Binds X.K fd ps []) (hx : Passes CX X E0) :
    CallR X (.builtin "len") (rLenF S sp) := by
  intro pins s σ H xs us Q I r h
  obtain ⟨a, C, dx, fs, rfl, hC, ea, h⟩ := h
  cases r with
  | cons r1 r2 =>
    cases r2
    obtain rfl : _ = Value.ref a := r1
    obtain ⟨ox, od, J⟩ := inst_of I ea
    obtain ⟨m, hF⟩ := I.fr
    refine PySem.W.len_K hF I.ok.mod.kin J (hs C hC) hf (wpAny_mono (call_at (us := [.ref a]) (vs := [.ref a]) F hr.in1 rfl hb hx I (.cons rfl .nil) h) (fun r s' z => ?_) fun _ _ z => z)
    obtain ⟨x, H', I', rr, n, e, n0, n1, q⟩ := z
    subst e
    obtain ⟨t, rfl⟩ := rr
    exact ⟨⟨n0, n1⟩, .int n, H', I'.tok _, ⟨_, rfl⟩, q⟩
/-- bool(x), x of S -/
def rBoolF (S : Addr → Prop) (sp : Sp) : List V → Hp → VK → Prop := fun xs H Q => ∃ a C dx fs, xs = [.ref a] ∧ S C ∧ H a = some (.ins C dx fs) ∧ sp [.ref a] H (fun v H' => ∃ b, v = .bl b ∧ Q v H') E0
theorem call_boolF (hs : ∀ C, S C → PySem.W.findIn X.K (.ref C) "__bool__" = some (some (.ref f))) (hf : PySem.W.isFn X.K (.ref f) = true) (F : FnOk X.prog X.w X.K X.mg X.base CX k f fd ps sp) (hr : Room (k + 2) X.A) (hb : Binds X.K fd ps []) (hx : Passes CX X E0) :
    CallR X (.type "bool") (rBoolF S sp) := by
  intro pins s σ H xs us Q I r h
  obtain ⟨a, C, dx, fs, rfl, hC, ea, h⟩ := h
  cases r with
  | cons r1 r2 =>
    cases r2
    obtain rfl : _ = Value.ref a := r1
    obtain ⟨ox, od, J⟩ := inst_of I ea
    obtain ⟨m, hF⟩ := I.fr
    refine call_bool_own (PySem.W.truthy_K hF I.ok.mod.kin J (hs C hC) hf (wpAny_mono (call_at (us := [.ref a]) (vs := [.ref a]) F hr.in1.in1 rfl hb hx I (.cons rfl .nil) h) (fun r s' z => ?_) fun _ _ z => z))
    obtain ⟨x, H', I', rr, b, e, q⟩ := z
    subst e
    obtain rfl : r = Value.bool b := rr
    exact ⟨.bl b, H', I', rfl, q⟩
/-- x[y], x of S -/
def rIxF (S : Addr → Prop) (sp : Sp) (E : XK) : R2 := fun x y H Q => ∃ a C dx fs, x = .ref a ∧ S C ∧ H a = some (.ins C dx fs) ∧ sp [x, y] H Q E
theorem pe_ixF {a b : Expr} {ta tb : TE} {pos : Pos} (hs : ∀ C, S C → PySem.W.findIn X.K (.ref C) "__getitem__" = some (some (.ref f))) (hf : PySem.W.fnIn X.K f = true) (hfn : PySem.W.isFn X.K (.ref f) = true) (F : FnOk X.prog X.w X.K X.mg X.base CX k f fd ps sp) (hr : Room (k + 1) X.A)
    (hb : Binds X.K fd ps []) (hx : Passes CX X E) (ha : PE X a ta) (hc : PE X b tb) (hsl : ∀ v u, subscripted b true v u = runValue (.builtin "lifetime.subscript" ⟨[v, u], []⟩)) : PE X (.Subscript a b pos) (tOp (rIxF S sp E) ta tb) := by
  refine ⟨fun pins s σ H Q I h => ?_⟩
  refine Subscript_ (binT ha hc I h fun v u s2 x y H2 I2 rx ry q => ?_)
  obtain ⟨a, C, dx, fs, ex, hC, ea, q⟩ := q
  subst ex
  obtain rfl : v = Value.ref a := rx
  obtain ⟨ox, od, J⟩ := inst_of I2 ea
  obtain ⟨m, hF⟩ := I2.fr
  exact PySem.W.sub_K hF I2.ok.mod.kin J (hs C hC) hf hfn (call_atE (us := [.ref a, u]) (vs := [.ref a, y]) F hr.in1 rfl hb hx I2 (.cons rfl (.cons ry .nil)) q) (hsl _ _)
end
end Rd
set_option maxHeartbeats 2000000
namespace Rd
open PySem PySem.Spec PyProof.Rows L2 StX
/-! ## def f(a, .., *v, k = d): what it binds, its promise, making an instance by it -/
/-- fd binds: ps ahead, then the keyword-only key (dflt where it lacks), the rest in a new tuple -/
structure BindSK (K : PySem.W.Frag) (fd : FuncData) (ps : List Str) (pv key : Str) (dflt : V) : Prop where
  given : ∀ (us rest : List Value) (u : Value), us.length = ps.length → bindArgs fd ⟨us ++ rest, [(key, u)]⟩ = (newTuple rest >>= fun t => pure ((ps ++ [key]).zip (us ++ [u]) ++ [(pv, t)]))
  bare : ∃ u, RelV dflt u ∧ ∀ (us rest : List Value), us.length = ps.length → ∀ {M : Model} {A : Around} {Q : List (Str × Value) → Shared → Prop} {E : Value → Shared → Prop} {s : Shared}, K.In s.heap →
    wpAny M A (newTuple rest >>= fun t => pure ((ps ++ [key]).zip (us ++ [u]) ++ [(pv, t)])) Q E s → wpAny M A (bindArgs fd ⟨us ++ rest, []⟩) Q E s
/-- the keyword as it is written, its value -/
def KwIs (key : Str) (dflt : V) (kw : List (Str × Value)) (z : V) : Prop := (kw = [] ∧ z = dflt) ∨ ∃ u, kw = [(key, u)] ∧ RelV z u
def FnSK (P : Program) (w : World) (K : PySem.W.Frag) (mg : Str → Option Value) (base : Heap) (CX : CXT) (k : Nat) (f : Addr) (n : Nat) (key : Str) (dflt : V) (sp : Sp) : Prop :=
  ∀ (A : Around) (outer : List Env) (s : Shared) (H : Hp) (us rest : List Value) (vs rv : List V) (kw : List (Str × Value)) (z : V) (Q : VK) (E : XK), Room k A → Env0 P w K mg base A outer s H → Vals vs us → Vals rv rest → vs.length = n → rv.length ≤ sizeLine → KwIs key dflt kw z →
    (∀ p, H p = none → sp (vs ++ [z, .ref p]) (upd H p (.tup rv)) Q E) → codeAny (model P w) A (.call (.ref f) ⟨us ++ rest, kw⟩) (CR CX outer P w H s Q E) s
section
variable {CX : CXT} {P : Program} {w : World} {K : PySem.W.Frag} {mg : Str → Option Value} {base : Heap} {k : Nat} {f : Addr} {name qual : Str} {params : Arguments} {body : List Stmt} {scope : Scope} {dV kV doc pm cdv ct oc : Value} {an od : Option Addr}
  {osl : Array (Option Value)} {N ps : List Str} {sp : Sp} {pv key : Str} {dflt : V}
theorem fn_sk (lk : K.lookup f = some ⟨oc, od, .func (PySem.W.fnOf name qual params body scope dV kV doc pm an cdv ct), osl⟩) (hcd : PySem.W.codeIn K cdv qual = true) (S : FnScope N (ps ++ [key] ++ [pv]) scope) (hCX : CXUp CX)
    (B : BindSK K (PySem.W.fnOf name qual params body scope dV kV doc pm an cdv ct) ps pv key dflt)
    (hbody : ∀ (A : Around) (outer : List Env) (s : Shared) (H : Hp) (vs : List V) (Q : VK) (E : XK), Room k (A.deeper (envOfC qual scope s.heap.objs.size f cdv)) → sp vs H Q E →
      ∃ t, PSs (cxOf CX P w K mg base N qual scope f cdv A outer s H E) body t ∧ t { nx := fun _ H' => Q .non H', rt := Q } (start N vs) H) : FnSK P w K mg base CX (k + 1) f ps.length key dflt sp := by
  intro A outer s H us rest vs rv kw z Q E hr e0 r rr hl hz hk hsp
  have nH : H s.heap.objs.size = none := e0.hok.fresh (Nat.le_refl _)
  have lu : us.length = ps.length := r.length.symm.trans hl
  have lr : rest.length ≤ sizeLine := by rw [← rr.length]; exact hz
  have KX : K.In s.heap := e0.mod.kin.keeps fun b o e => (e0.bs b o e).1
  -- what stands behind either form
  have main : ∀ (u : Value), RelV z u → ∀ (A' : Around) (Ex : Value → Shared → Prop) (Q' : List (Str × Value) → Shared → Prop),
      (∀ (s2 : Shared) (H2 : Hp) (xs : List V) (ys : List Value), Env0 P w K mg base A outer s2 H2 → Un (frs outer) [] H H2 s.heap s2.heap → s2.os = s.os → (∀ e s', CX outer H2 s2 E e s' → CX outer H s E e s') → Vals xs ys → xs.length = (ps ++ [key] ++ [pv]).length →
        (∃ p, H p = none ∧ xs = vs ++ [z, .ref p] ∧ H2 = upd H p (.tup rv)) → Q' ((ps ++ [key] ++ [pv]).zip ys) s2) →
      wpAny (model P w) A' (newTuple rest >>= fun t => pure ((ps ++ [key]).zip (us ++ [u]) ++ [(pv, t)])) Q' Ex s := by
    intro u ru A' Ex Q' h
    refine wpAny_bind (wpAny_newTuple (wpAny_pure ?_) lr)
    have ob : ObjOk P w (upd H s.heap.objs.size (.tup rv)) (s.heap.push (Obj.mk (.type "tuple") none (.seq rest.toArray 0) #[])) s.heap.objs.size (.tup rv) := by
      refine ⟨hz, rest, rr, ?_⟩
      exact ⟨_, Heap.get?_push_size _ rfl, rfl, _, rfl⟩
    have laid := un_laid (H := H) (fs := frs outer) (s := s) (o := Obj.mk (.type "tuple") none (.seq rest.toArray 0) #[]) (u := .tup rv) nH
    have g := h _ _ (vs ++ [z, V.ref s.heap.objs.size]) (us ++ [u, Value.ref s.heap.objs.size]) (env0_laid e0 ob) laid rfl (fun e s' => hCX outer s H _ _ E e s' laid (fun b o q => Heap.get?_push_of_some _ q) rfl)
      (r.append (.cons ru (.cons rfl .nil))) (by simp [hl]) ⟨_, nH, rfl, rfl⟩
    have eq : (ps ++ [key] ++ [pv]).zip (us ++ [u, Value.ref s.heap.objs.size]) = (ps ++ [key]).zip (us ++ [u]) ++ [(pv, Value.ref s.heap.objs.size)] := by
      rw [show us ++ [u, Value.ref s.heap.objs.size] = us ++ [u] ++ [Value.ref s.heap.objs.size] by simp, List.zip_append (by simp [lu])]
      rfl
    rw [eq] at g
    exact g
  refine run_bnd lk hcd S hr e0 (G := fun xs H2 => ∃ p, H p = none ∧ xs = vs ++ [z, .ref p] ∧ H2 = upd H p (.tup rv)) (fun A' Ex Q' h => ?_) fun s2 H2 xs hp hr' => ?_
  · rcases hk with ⟨rfl, rfl⟩ | ⟨u, rfl, ru⟩
    · obtain ⟨u, ru, hb⟩ := B.bare
      exact hb us rest lu KX (main u ru A' Ex Q' h)
    · rw [B.given us rest u lu]
      exact main u ru A' Ex Q' h
  · obtain ⟨p, np, ex, eH⟩ := hp
    subst ex eH
    exact hbody A outer s2 _ _ Q E hr' (hsp p np)
end
/-! ### C(e, .., *y, k = v) -/
section
variable {M : Model} {A : Around} {E : Value → Shared → Prop} {s : Shared} {K : PySem.W.Frag} {env : Env} {pos : Pos} {f : Value} {first : List Value} {Q : Value → Shared → Prop} {h₀ : Heap} {e : Expr} {rest : List Expr} {kws : List Keyword}
open PySem.W in
theorem star_kw {args : List (Bool × Sem Value)} {kw : List (Option Str × Sem Value)} (st : args.any (·.1) = true) (kp : keepIn K f = true)
    (h : wpAny M A (evalArgs f true args kw) (fun a t => K.In t.heap ∧ wpAny M A (call f (first ++ a.pos) a.kw) Q E t) E s) : wpAny M A (callWith pos f first args kw) Q E s := by
  unfold callWith
  refine wpAny_bind (wpAny_holding ?_)
  refine wpAny_mono h (fun a t ht => ?_) fun _ _ z => z
  obtain ⟨X, ht⟩ := ht
  refine wpAny_bind (wpAny_standAt ?_)
  obtain ⟨kr, k1, k2⟩ := looks_keep (M := M) kp X
  simp only [st, Bool.true_or]
  refine wpAny_bind (k2.here ?_)
  have fin : ∀ {u : Sem Value}, wpAny M A u Q E t → wpAny M A (do let r ← u; holding [r] point; pure r) Q E t := fun hu => by
    refine wpAny_bind (wpAny_mono hu (fun r t2 hr => ?_) fun _ _ z => z)
    exact wpAny_bind (wpAny_holding (wpAny_point (wpAny_pure hr)))
  have mk : ∀ m : Value, wpAny M A (callMarked m f (first ++ a.pos) a.kw) Q E t := fun m => by
    unfold callMarked
    exact Calls.wpAny_keep ht
  rcases k1 with e1 | e1 <;> subst e1 <;> dsimp only <;> first | exact fin (mk _) | exact fin (wpAny_operating ht)
end
section
variable {X : Cx} {CX : CXT} {k n : Nat} {f C : Addr} {sp : Sp} {E : XK} {x key : Str} {dflt : V} {p pos : Pos} {e : Expr} {es : List Expr} {kws : List Keyword} {t tk : TA}
/-- what is asked of the making: the instance, its dict, the tuple of the rest are new -/
def SkNew (C : Addr) (sp : Sp) (E : XK) (H : Hp) (Q : VK) (vs rv : List V) (z : V) : Prop := ∀ x dx p, H x = none → H dx = none → H p = none → dx ≠ x → p ≠ x → p ≠ dx →
  sp (.ref x :: (vs ++ [z, .ref p])) (upd (upd (upd H dx (.own x)) x (.ins C dx [])) p (.tup rv)) (fun v H2 => v = .non ∧ Q (.ref x) H2) E
theorem run_makeSK {pins : List (Addr × Obj)} {σ : L2.St} {H : Hp} {s : Shared} {Q : VK} {us rest : List Value} {vs rv : List V} {kw : List (Str × Value)} {z : V} (M : Mk X.K C f) (F : FnSK X.prog X.w X.K X.mg X.base CX k f (n + 1) key dflt sp) (hr : Room (k + 1) X.A) (hx : Passes CX X E)
    (I : Inv X pins σ H s) (r : Vals vs us) (rr : Vals rv rest) (hl : vs.length = n) (hz : rv.length ≤ sizeLine) (hk : KwIs key dflt kw z) (h : SkNew C sp E H Q vs rv z) : wpAny (model X.prog X.w) X.A (call (.ref C) (us ++ rest) kw) (EP X pins σ Q) X.xe s := by
  have I2 := Inv.made (C := C) I
  have ne : s.heap.objs.size ≠ s.heap.objs.size + 1 := Nat.ne_of_lt (Nat.lt_succ_self _)
  have hq := fun p hp => h (s.heap.objs.size + 1) s.heap.objs.size p (I.hok.fresh (Nat.le_succ _)) (I.hok.fresh (Nat.le_refl _)) hp ne
  have r2 : Vals (V.ref (s.heap.objs.size + 1) :: vs) (Value.ref (s.heap.objs.size + 1) :: us) := .cons rfl r
  have go := F _ X.stack _ _ (Value.ref (s.heap.objs.size + 1) :: us) rest _ rv kw z (fun v H2 => v = .non ∧ Q (.ref (s.heap.objs.size + 1)) H2) E (hr.make C (us ++ rest) kw) (I2.env0.make C (us ++ rest) kw) r2 rr (by rw [List.length_cons, hl]) hz hk
  refine wpAny_call (make_map (f := f) I.kIn M.makes M.init (beq_iff_eq.mp M.fn) (codeAny_mono (go fun p hp => ?_) fun fl s' hf => ?_))
  · have p1 : p ≠ s.heap.objs.size + 1 := fun c => by rw [c, upd_same] at hp; cases hp
    rw [upd_ne p1] at hp
    have p2 : p ≠ s.heap.objs.size := fun c => by rw [c, upd_same] at hp; cases hp
    rw [upd_ne p2] at hp
    exact hq p hp p1 p2
  · match fl, hf with
    | .error e, hf => exact hx pins σ _ _ e s' I2 hf
    | .ok (.ret u), hf =>
      obtain ⟨v, H', I3, rv', ev, q3⟩ := I2.after hf
      subst ev
      exact ⟨rv', V.ref (s.heap.objs.size + 1), H', I3, rfl, q3⟩
def tMakeS (C : Addr) (n : Nat) (dflt : V) (sp : Sp) (E : XK) (t : TA) : TE := fun σ H Q => t σ H fun vs H1 => ∃ ws rv, vs = ws ++ rv ∧ ws.length = n ∧ rv.length ≤ sizeLine ∧ SkNew C sp E H1 Q ws rv dflt
def tMakeSK (C : Addr) (n : Nat) (sp : Sp) (E : XK) (t tk : TA) : TE := fun σ H Q => t σ H fun vs H1 => tk σ H1 fun zs H2 => ∃ ws rv z, vs = ws ++ rv ∧ zs = [z] ∧ ws.length = n ∧ rv.length ≤ sizeLine ∧ SkNew C sp E H2 Q ws rv z
/-- C(e, ..) -/
theorem pe_makeS (M : Mk X.K C f) (F : FnSK X.prog X.w X.K X.mg X.base CX k f (n + 1) key dflt sp) (hr : Room (k + 1) X.A) (hg : Gl X x) (hm : X.mg x = some (.ref C)) (hx : Passes CX X E) (ha : PA X (e :: es) t) (hdb : (x == ("__debug__" : Str)) = false := by decide)
    (he : starEach (e :: es) X.env = (false, eval e X.env) :: starEach es X.env := by rfl) (hpl : (backTo pos (starEach es X.env)).any (·.1) = false := by rfl) : PE X (.Call (.Name x p) (e :: es) [] pos) (tMakeS C n dflt sp E t) := by
  refine ⟨fun pins s σ H Q I h => wpAny_Call_Name_kw (ld_glob I hg hm ?_ hdb)⟩
  refine PySem.W.callWith_K (h₀ := X.base) I.ok.mod.kin M.kp (thn (ha.run pos pins s σ H _ I h) fun us s1 z => ?_) he hpl
  obtain ⟨vs, H1, I1, r, ws, rv, ev, l1, l2, q⟩ := z
  subst ev
  obtain ⟨u1, u2, eu, r1, r2⟩ := vals_split r
  subst eu
  exact ⟨I1.kIn, run_makeSK (us := u1) (rest := u2) M F hr hx I1 r1 r2 l1 l2 (.inl ⟨rfl, rfl⟩) q⟩
/-- C(e, .., k = v) -/
theorem pe_makeSK (M : Mk X.K C f) (F : FnSK X.prog X.w X.K X.mg X.base CX k f (n + 1) key dflt sp) (hr : Room (k + 1) X.A) (hg : Gl X x) (hm : X.mg x = some (.ref C)) (hx : Passes CX X E) (ha : PA X (e :: es) t) (hkw : PK X kws tk)
    (hall : (backToKw pos (keywordEach kws X.env)).all (·.1.isSome) = true := by rfl) (hks : (backToKw pos (keywordEach kws X.env)).filterMap (·.1) = [key] := by rfl) (hdb : (x == ("__debug__" : Str)) = false := by decide)
    (he : starEach (e :: es) X.env = (false, eval e X.env) :: starEach es X.env := by rfl) (hpl : ((backTo pos (starEach (e :: es) X.env)).any (·.1) || (backToKw pos (keywordEach kws X.env)).any (·.1.isNone)) = false := by rfl) :
    PE X (.Call (.Name x p) (e :: es) kws pos) (tMakeSK C n sp E t tk) := by
  refine ⟨fun pins s σ H Q I h => wpAny_Call_Name_kw (ld_glob I hg hm ?_ hdb)⟩
  refine PySem.W.callWith_KW (h₀ := X.base) I.ok.mod.kin M.kp hall (thn (ha.run pos pins s σ H _ I h) fun us s1 z => ?_) hpl he
  obtain ⟨vs, H1, I1, r, q⟩ := z
  refine thn (hkw.run pos pins s1 σ H1 _ I1 q) fun ks s2 z2 => ?_
  obtain ⟨zs, H2, I2, rz, ws, rv, y, ev, ez, l1, l2, q2⟩ := z2
  subst ev ez
  obtain ⟨u1, u2, eu, r1, r2⟩ := vals_split r
  subst eu
  rw [hks]
  obtain ⟨u, rfl, ru⟩ := vals1 rz
  exact ⟨I2.kIn, run_makeSK (us := u1) (rest := u2) M F hr hx I2 r1 r2 l1 l2 (.inr ⟨u, rfl, ru⟩) q2⟩
/-- C(e, .., *y, k = v) -/
theorem pe_makeSKs (M : Mk X.K C f) (F : FnSK X.prog X.w X.K X.mg X.base CX k f (n + 1) key dflt sp) (hr : Room (k + 1) X.A) (hg : Gl X x) (hm : X.mg x = some (.ref C)) (hx : Passes CX X E) (ha : PA X (e :: es) t) (hkw : PK X kws tk)
    (hall : (backToKw pos (keywordEach kws X.env)).all (·.1.isSome) = true := by rfl) (hks : (backToKw pos (keywordEach kws X.env)).filterMap (·.1) = [key] := by rfl) (hdb : (x == ("__debug__" : Str)) = false := by decide)
    (he : starEach (e :: es) X.env = (false, eval e X.env) :: starEach es X.env := by rfl) (hst : (backTo pos (starEach (e :: es) X.env)).any (·.1) = true := by rfl) :
    PE X (.Call (.Name x p) (e :: es) kws pos) (tMakeSK C n sp E t tk) := by
  refine ⟨fun pins s σ H Q I h => wpAny_Call_Name_kw (ld_glob I hg hm ?_ hdb)⟩
  refine star_kw hst M.kp (evalArgs_kw2 hall (thn (ha.run pos pins s σ H _ I h) fun us s1 z => ?_) he)
  obtain ⟨vs, H1, I1, r, q⟩ := z
  refine thn (hkw.run pos pins s1 σ H1 _ I1 q) fun ks s2 z2 => ?_
  obtain ⟨zs, H2, I2, rz, ws, rv, y, ev, ez, l1, l2, q2⟩ := z2
  subst ev ez
  obtain ⟨u1, u2, eu, r1, r2⟩ := vals_split r
  subst eu
  rw [hks]
  obtain ⟨u, rfl, ru⟩ := vals1 rz
  exact ⟨I2.kIn, run_makeSK (us := u1) (rest := u2) M F hr hx I2 r1 r2 l1 l2 (.inr ⟨u, rfl, ru⟩) q2⟩
end
end Rd
set_option maxHeartbeats 2000000
namespace Rd
open PySem PySem.Spec PyProof.Rows L2
open AutoSeq1 (wpAny_loadPart')
open PySem.SeqAt MeetsSeq MeetsSeq2 MeetsSeq3 SeqRoads2
/-! ## == and != of two lists of own things: of one length and each two equal, or of unlike lengths -/
section
variable {prog : Program} {w : World} {A : Around} {R : Result → Shared → Prop}
open GQ in
theorem ne_loopS (l b : Addr) (N : Nat) (I : Nat → Shared → Prop) (hl : ListI prog w A (fun e t => R (.error e) t) l b N I) (fin : ∀ t, I N t → R (.ok (.ret (.bool false))) t) :
    ∀ (k i : Nat), N - i = k → i ≤ N → ∀ t, I i t → wpAny (model prog w) A.in1 (Builtin.«list.__eq__.loop» ⟨[.ref l, .ref b, rawInt i, rawInt 3], []⟩) (FinOf prog w A R) (fun e t => R (.error e) t) t
  | 0, i, hk, hi, t, h => by
    obtain ⟨xs, ys, m, n, e1, e2, z1, z2, _⟩ := hl i t h
    have ei : i = N := Nat.le_antisymm hi (Nat.sub_eq_zero_iff_le.mp hk)
    have done : R (.ok (.ret (.bool false))) t := fin t (ei ▸ h)
    obtain ⟨hp, gs, dr, tk, os⟩ := t
    wp_walk using wpAny_loadPart' e1, wpAny_loadPart' e2
    have q1 : xs[((i : Nat) : Int).toNat]? = none := Array.getElem?_eq_none (by simp; omega)
    have q2 : ys[((i : Nat) : Int).toNat]? = none := Array.getElem?_eq_none (by simp; omega)
    rw [q1, q2]
    wp_walk using wpAny_loadPart' e1, wpAny_loadPart' e2
    show R (.ok (.ret (.bool (xs.size != ys.size)))) _
    rw [z1, z2, bne_self_eq_false]
    exact done
  | k + 1, i, hk, hi, t, h => by
    obtain ⟨xs, ys, m, n, e1, e2, z1, z2, turn⟩ := hl i t h
    have i1 : i < xs.size := by omega
    have i2 : i < ys.size := by omega
    have one := turn i1 i2
    obtain ⟨hp, gs, dr, tk, os⟩ := t
    wp_walk using wpAny_loadPart' e1, wpAny_loadPart' e2
    rw [show xs[((i : Nat) : Int).toNat]? = some xs[i] from Array.getElem?_eq_getElem i1, show ys[((i : Nat) : Int).toNat]? = some ys[i] from Array.getElem?_eq_getElem i2]
    refine wpAny_bind (wpAny_mono one (fun r t2 q => ?_) fun _ _ z => z)
    obtain ⟨er, I2⟩ := q
    subst er
    have next := ne_loopS l b N I hl fin k (i + 1) (by omega) (by omega) t2 I2
    obtain ⟨hp2, gs2, dr2, tk2, os2⟩ := t2
    wp_walk
    rw [show ((i : Int) + 1) = ((i + 1 : Nat) : Int) from rfl]
    refine And.intro (plainId_quiet plain_eq_loop _) (codeAny_builtin entry_eq_loop ?_)
    rw [Around.under_plainId plain_eq_loop _]
    exact next
open GQ in
theorem list_neS (l b : Addr) (N : Nat) (I : Nat → Shared → Prop) (hl : ListI prog w A (fun e t => R (.error e) t) l b N I) (fin : ∀ t, I N t → R (.ok (.ret (.bool false))) t) {s : Shared} (h : I 0 s) :
    wpAny (model prog w) A.in1 (Builtin.«list.__ne__» ⟨[.ref l, .ref b], []⟩) (FinOf prog w A R) (fun e t => R (.error e) t) s := by
  obtain ⟨xs, ys, m, n, e1, e2, z1, z2, _⟩ := hl 0 s h
  have first := ne_loopS (A := A) (R := R) l b N I hl fin _ 0 rfl (Nat.zero_le _) s h
  have f3 := AutoSeq1.sub_list_list
  have same : ¬ (xs.size != ys.size) = true := by rw [z1, z2, bne_self_eq_false]; exact Bool.false_ne_true
  obtain ⟨hp, gs, dr, tk, os⟩ := s
  wp_walk using wpAny_loadPart' e1, wpAny_loadPart' e2
  refine And.intro (plainId_quiet plain_eq_loop _) (codeAny_builtin entry_eq_loop ?_)
  rw [Around.under_plainId plain_eq_loop _]
  exact first
variable {E : Value → Shared → Prop} {s : Shared}
open GQ in
theorem rc_listNe {l b : Addr} {N : Nat} {Q : Value → Shared → Prop} (hu : A.units < cLine) (I : Nat → Shared → Prop) (hl : ListI prog w A E l b N I) (fin : ∀ t, I N t → Q (.bool false) t) (h : I 0 s) : wpAny (model prog w) A (richCompare .NotEq (.ref l) (.ref b)) Q E s := by
  obtain ⟨xs, ys, m, n, e1, e2, _⟩ := hl 0 s h
  refine wpAny_richCompare_same_room (op := .NotEq) ⟨_, e1, rfl⟩ ⟨_, e2, rfl⟩ F.slot_list_ne (call_here F.slot_list_ne ⟨_, e1, rfl⟩ F.entry_list_ne (F.args_list_ne_2 _ _) ?_) hu
  refine list_neS (R := wants (fun v t => v ≠ .notImplemented ∧ Q v t) E) l b N I hl (fun t q => ?_) h
  exact And.intro (fun c => nomatch c) (fin t q)
open GQ in
theorem rc_listLen {c : Bool} {l b : Addr} {xs ys : Array Value} {m n : Nat} {Q : Value → Shared → Prop} (hu : A.units < cLine) (e1 : s.heap.get? l = some { cls := .type "list", data := .seq xs m }) (e2 : s.heap.get? b = some { cls := .type "list", data := .seq ys n }) (ne : (xs.size != ys.size) = true)
    (q : Q (.bool (!c)) s) : wpAny (model prog w) A (richCompare (if c then .Eq else .NotEq) (.ref l) (.ref b)) Q E s := by
  cases c with
  | true =>
    refine wpAny_richCompare_same_room (op := .Eq) ⟨_, e1, rfl⟩ ⟨_, e2, rfl⟩ F.slot_list_eq (call_here F.slot_list_eq ⟨_, e1, rfl⟩ F.entry_list_eq (F.args_list_eq_2 _ _) ?_) hu
    exact SeqAt.list_eq_lengthsAt l b xs ys m n none none #[] #[] ne prog w A _ s ⟨e1, e2, (fun z => nomatch z), q⟩
  | false =>
    refine wpAny_richCompare_same_room (op := .NotEq) ⟨_, e1, rfl⟩ ⟨_, e2, rfl⟩ F.slot_list_ne (call_here F.slot_list_ne ⟨_, e1, rfl⟩ F.entry_list_ne (F.args_list_ne_2 _ _) ?_) hu
    exact SeqAt.list_ne_lengthsAt l b xs ys m n none none #[] #[] ne prog w A _ s ⟨e1, e2, (fun z => nomatch z), q⟩
end
section
variable {X : Cx} {n : Nat} {D : Eqv}
/-- lists as they are compared: c: are they the same -/
def rLstQ (D : Eqv) (c : Bool) : R2 := fun x y H Q => ∃ a b xs ys, x = .ref a ∧ y = .ref b ∧ H a = some (.lst xs) ∧ H b = some (.lst ys) ∧ ((xs.length ≠ ys.length ∧ Q (.bl (!c)) H) ∨ (Prs D xs ys H ∧ ∀ H', Ext H H' → Q (.bl c) H'))
theorem lst_unlike {c : Bool} {pins : List (Addr × Obj)} {σ : L2.St} {H : Hp} {s : Shared} {a b : Addr} {xs ys : List V} {Q : VK} (hu : X.A.units < cLine) (I : Inv X pins σ H s) (ha : H a = some (.lst xs)) (hb : H b = some (.lst ys)) (ne : xs.length ≠ ys.length) (q : Q (.bl (!c)) H) :
    wpAny (model X.prog X.w) X.A (richCompare (if c then .Eq else .NotEq) (.ref a) (.ref b)) (EP X pins σ Q) X.xe s := by
  obtain ⟨_, i1, k1, r1, e1⟩ := I.hok a _ ha
  obtain ⟨_, i2, k2, r2, e2⟩ := I.hok b _ hb
  refine rc_listLen hu e1 e2 ?_ ⟨.bl (!c), H, I, rfl, q⟩
  rw [bne_iff_ne, List.size_toArray, List.size_toArray, ← r1.length, ← r2.length]
  exact ne
theorem op_eqLst (hD : Mon D) (h : EqG X n D) (hr : Room (n + 1) X.A) : OpR X (compareOp .Eq) (rLstQ D true) := by
  intro pins s σ H x y v u Q I rx ry hq
  obtain ⟨a, b, xs, ys, ex, ey, ha, hb, hq⟩ := hq
  rcases hq with ⟨ne, q⟩ | ⟨p, q⟩
  · subst ex ey
    cases rx
    cases ry
    exact lst_unlike (c := true) hr.units0 I ha hb ne q
  · exact op_eqG (rcG_list hD h) hr pins s σ H x y v u Q I rx ry ⟨⟨a, b, xs, ys, ex, ey, ha, hb, p⟩, q⟩
theorem op_neLst (hD : Mon D) (h : EqG X n D) (hr : Room (n + 1) X.A) : OpR X (compareOp .NotEq) (rLstQ D false) := by
  intro pins s σ H x y v u Q I rx ry hq
  obtain ⟨a, b, xs, ys, ex, ey, ha, hb, hq⟩ := hq
  subst ex ey
  cases rx
  cases ry
  rcases hq with ⟨ne, q⟩ | ⟨p, q⟩
  · exact lst_unlike (c := false) hr.units0 I ha hb ne q
  · have sb : Sub X (n + 1) X.A := ⟨hr, rfl⟩
    refine rc_listNe (N := xs.length) hr.units0 (fun _ t => LoopI X pins σ H t) (fun i t k => ?_) (fun t k => ?_) ⟨H, I, Ext.rfl'⟩
    · obtain ⟨H1, I1, x1⟩ := id k
      obtain ⟨_, i1, k1, r1, e1⟩ := I1.hok a _ (x1 _ _ ha)
      obtain ⟨_, i2, k2, r2, e2⟩ := I1.hok b _ (x1 _ _ hb)
      exact ⟨_, _, k1, k2, e1, e2, by rw [List.size_toArray, ← r1.length], by rw [List.size_toArray, ← r2.length, ← p.1], fun j1 j2 => turnG hD h sb p r1 r2 i j1 j2 t k⟩
    · obtain ⟨H', I', x'⟩ := k
      exact ⟨.bl false, H', I', rfl, q H' x'⟩
end
end Rd
set_option maxHeartbeats 2000000
namespace Rd
open PySem PySem.Spec PyProof.Rows L2
open Classical
/-! ## sorted(list of tuples of texts), fewer than 64 -/
/-- the order of tuples of texts -/
def ltT : List Str → List Str → Bool
  | [], [] => false
  | [], _ :: _ => true
  | _ :: _, [] => false
  | x :: xs, y :: ys => if x = y then ltT xs ys else decide (x.cps.toList < y.cps.toList)
/-- v is a tuple of these texts -/
def TupT (h : Heap) (v : Value) (zs : List Str) : Prop := ∃ (a : Addr) (xs : List Value), v = .ref a ∧ IsTup h a xs.toArray ∧ Vals (zs.map V.str) xs
theorem vals_str : ∀ {zs ws : List Str} {xs : List Value}, Vals (zs.map V.str) xs → Vals (ws.map V.str) xs → zs = ws
  | [], [], _, _, _ => rfl
  | [], _ :: _, _, a, b => by cases a; cases b
  | _ :: _, [], _, a, b => by cases b; cases a
  | z :: zs, w :: ws, _, .cons a1 a2, .cons b1 b2 => by
    obtain ⟨t, e⟩ := a1
    obtain ⟨t', e'⟩ := b1
    rw [e] at e'
    cases e'
    rw [vals_str a2 b2]
theorem TupT.eq {h : Heap} {v : Value} {zs ws : List Str} (a : TupT h v zs) (b : TupT h v ws) : zs = ws := by
  obtain ⟨p, xs, rfl, ⟨o, e, c, n, d⟩, r⟩ := a
  obtain ⟨p', ys, ep, ⟨o', e', c', n', d'⟩, r'⟩ := b
  cases ep
  rw [e] at e'
  cases e'
  rw [d] at d'
  have z := (Data.seq.inj d').1
  have z2 : xs = ys := by simpa using congrArg Array.toList z
  subst z2
  exact vals_str r r'
theorem TupT.keep {h h' : Heap} {v : Value} {zs : List Str} (a : TupT h v zs) (k : ∀ b o, h.get? b = some o → o.cls = .type "tuple" → h'.get? b = some o) : TupT h' v zs := by
  obtain ⟨p, xs, e, ⟨o, e1, c, n, d⟩, r⟩ := a
  exact ⟨p, xs, e, ⟨o, k _ _ e1 c, c, n, d⟩, r⟩
section
variable {prog : Program} {w : World} {A : Around} {E : Value → Shared → Prop} {s : Shared}
theorem oneLt_txt (c : Bool) {p q : Str} {t u : Tok} {Q : Bool → Shared → Prop} (h : Q (decide (p.cps.toList < q.cps.toList)) s) : wpAny (model prog w) A (oneLt' c (.str p t) (.str q u)) Q E s := by
  cases c with
  | true => exact oneLt_str h
  | false => exact PySem.W.kat_one _ _ (lt_str (Q := PySem.W.BoolBack Q) h)
theorem lex_txts {b : Bool} {Q : Bool → Shared → Prop} : ∀ {xs ys : List Value} {zs ws : List Str} (i : Nat), Vals (zs.map V.str) xs → Vals (ws.map V.str) ys → Q (ltT zs ws) s → PySem.W.KatLex prog w A b (decide (xs.length < ys.length)) Q (xs.zip ys) i s
  | _, _, [], [], i, r, r', h => by
    cases r
    cases r'
    exact PySem.W.kat_nil h
  | _, _, [], _ :: _, i, r, r', h => by
    cases r
    cases r' with
    | cons r1 r2 =>
      refine PySem.W.kat_nil ?_
      simpa [ltT] using h
  | _, _, _ :: _, [], i, r, r', h => by
    cases r'
    cases r with
    | cons r1 r2 => exact PySem.W.kat_nil h
  | _, _, z :: zs, w' :: ws, i, .cons r1 r2, .cons r3 r4, h => by
    obtain ⟨t, e⟩ := r1
    obtain ⟨t', e'⟩ := r3
    subst e e'
    rename_i xs ys
    have el : decide ((Value.str z t :: xs).length < (Value.str w' t' :: ys).length) = decide (xs.length < ys.length) := by
      simp only [List.length_cons, Nat.add_lt_add_iff_right]
    rw [el]
    show PySem.W.KatLex prog w A b _ Q ((Value.str z t, Value.str w' t') :: xs.zip ys) i s
    refine PySem.W.kat_cons (wpAny_eqBool_str ?_)
    by_cases ez : z = w'
    · subst ez
      rw [decide_eq_true rfl]
      refine PySem.W.kat_yes (lex_txts (i + 1) r2 r4 ?_)
      have : ltT (z :: zs) (z :: ws) = ltT zs ws := if_pos rfl
      rw [this] at h
      exact h
    · rw [decide_eq_false ez]
      refine PySem.W.kat_no (oneLt_txt _ ?_)
      have : ltT (z :: zs) (w' :: ws) = decide (z.cps.toList < w'.cps.toList) := if_neg ez
      rw [this] at h
      exact h
theorem firstsT {h : Heap} : ∀ vs : List Value, (∀ v ∈ vs, ∃ z zs, TupT h v (z :: zs)) → ∃ fs, PySem.W.KatTups h vs fs ∧ fs.length = vs.length ∧ ∀ f ∈ fs, ∃ n t, f = Value.str n t
  | [], _ => ⟨[], PySem.W.KatTups.nil, rfl, fun f hf => by simp at hf⟩
  | v :: vs, x => by
    obtain ⟨fs, k, hl, hi⟩ := firstsT vs fun u hu => x u (List.mem_cons_of_mem _ hu)
    obtain ⟨z, zs, a, xs, rfl, ⟨o, ho, hc, n, hd⟩, r⟩ := x v List.mem_cons_self
    cases r with
    | cons r1 r2 =>
      obtain ⟨t, rfl⟩ := r1
      refine ⟨_ :: fs, PySem.W.KatTups.cons (f := .str z t) ho hc hd (by simp) k, by simp [hl], fun f hf => ?_⟩
      rcases List.mem_cons.mp hf with rfl | hf
      · exact ⟨z, t, rfl⟩
      · exact hi f hf
theorem kind_txts {vs : List Value} (h2 : 2 ≤ vs.length) (x : ∀ v ∈ vs, ∃ z zs, TupT s.heap v (z :: zs)) (r : Value → Int) (R : List Str → Int) (hr : ∀ v ∈ vs, ∀ zs, TupT s.heap v zs → r v = R zs)
    (hR : ∀ v ∈ vs, ∀ u ∈ vs, ∀ zs ws, TupT s.heap v zs → TupT s.heap u ws → decide (R zs < R ws) = ltT zs ws) (Q : SortKind → Shared → Prop) (h : ∀ κ, TS.Cmp prog w A s κ (pairsOf vs) r → Q κ s) : wpAny (model prog w) A (keyKind' vs.toArray) Q E s := by
  obtain ⟨fs, k, hl, hi⟩ := firstsT vs x
  refine PySem.W.kat_kind (T := Value.type "str") k (by omega) (fun f hf => ?_) rfl (h _ fun p q hp hq Q' E' hQ => ?_)
  · obtain ⟨n, t, rfl⟩ := hi f hf
    exact PySem.W.Looks.of_pure rfl
  · rw [pairsOf_toList] at hp hq
    have mp := (mem_zip_self hp).2
    have mq := (mem_zip_self hq).2
    obtain ⟨z1, zs1, tp⟩ := x _ mp
    obtain ⟨z2, zs2, tq⟩ := x _ mq
    have e := hR _ mp _ mq _ _ tp tq
    rw [hr _ mp _ tp, hr _ mq _ tq, e] at hQ
    obtain ⟨a, xs, e1, ⟨o, ho, hc, n, hdt⟩, rx⟩ := tp
    obtain ⟨a', ys, e2, ⟨o', ho', hc', n', hdt'⟩, ry⟩ := tq
    rw [e1, e2]
    refine PySem.W.kat_lt ho hdt ho' hdt' ?_
    have z := lex_txts (prog := prog) (w := w) (A := A) (b := (Value.type "str" != Value.type "tuple")) 0 rx ry hQ
    simpa using z
/-- sorted of such a list, R its rank -/
theorem sorted_txts {l : Addr} {vs : List Value} {R : List Str → Int} {Q : Value → Shared → Prop} (hl : s.heap.IsList l vs.toArray) (h64 : vs.length < 64) (x : ∀ v ∈ vs, ∃ z zs, TupT s.heap v (z :: zs))
    (hR : ∀ v ∈ vs, ∀ u ∈ vs, ∀ zs ws, TupT s.heap v zs → TupT s.heap u ws → decide (R zs < R ws) = ltT zs ws)
    (h : ∀ out : Array Value, out.toList.Perm vs → out.toList.Pairwise (fun u v => ∀ zs ws, TupT s.heap u zs → TupT s.heap v ws → R zs ≤ R ws) → Q (.ref (s.heap.objs.size + 1)) { s with heap := sortedAll s.heap vs out }) :
    wpAny (model prog w) A (call (.builtin "sorted") [.ref l]) Q E s := by
  -- the rank of a value
  let r : Value → Int := fun v => if hv : ∃ zs, TupT s.heap v zs then R hv.choose else 0
  have rv : ∀ v zs, TupT s.heap v zs → r v = R zs := fun v zs t => by
    have hv : ∃ zs, TupT s.heap v zs := ⟨zs, t⟩
    show (if hv : ∃ zs, TupT s.heap v zs then R hv.choose else 0) = R zs
    rw [dif_pos hv, hv.choose_spec.eq t]
  refine Calls.call_function_entry kind_sorted plain_sorted entry_sorted (args_sorted1 _) ?_
  unfold Builtin.«sorted»
  refine wpAny_bind (m := checkCount "sorted" 1 1 _) (wpAny_pure (wpAny_bind (collect_list hl ?_ (by rw [sizeLine_eq]; omega))))
  refine wpAny_bind (wpAny_newList ?_ (by rw [sizeLine_eq]; omega))
  generalize eG : (s.heap.push (seqObj "list" #[] 0)).update s.heap.objs.size (Obj.mapSeq (· ++ vs.toArray)) = G
  have zG : G.objs.size = s.heap.objs.size + 1 := by rw [← eG, Heap.size_update, size_push']
  have kG : ∀ b o, s.heap.get? b = some o → (G.push (seqObj "list" vs.toArray 0)).get? b = some o := fun b o q => by
    have lb := Heap.lt_size q
    refine Heap.get?_push_of_some _ ?_
    rw [← eG, Heap.get?_update_ne _ _ _ _ (Nat.ne_of_lt lb)]
    exact Heap.get?_push_of_some _ q
  have oG : (G.push (seqObj "list" vs.toArray 0)).get? (s.heap.objs.size + 1) = some (seqObj "list" vs.toArray 0) := by rw [← zG]; exact Heap.get?_push_size _ rfl
  show wpAny _ _ _ _ _ { s with heap := G.push (seqObj "list" vs.toArray 0) }
  rw [zG]
  have kM : ∀ b o, (G.push (seqObj "list" vs.toArray 0)).get? b = some o → o.cls = .type "tuple" → (TS.midHeap (G.push (seqObj "list" vs.toArray 0)) (s.heap.objs.size + 1) vs).get? b = some o := fun b o e hc => by
    refine TS.midHeap_old (fun z => ?_) e
    subst z
    have z := Option.some.inj (e.symm.trans oG)
    rw [z] at hc
    exact absurd (Value.type.inj hc) (by decide)
  have up : ∀ v zs, TupT s.heap v zs → TupT (TS.midHeap (G.push (seqObj "list" vs.toArray 0)) (s.heap.objs.size + 1) vs) v zs := fun v zs t => t.keep fun b o e hc => kM b o (kG b o e) hc
  refine wpAny_bind (wpAny_holding (wpAny_call_entry slot_list_sort ⟨_, oG, rfl⟩ entry_list_sort (SK.plain_sort (r := r) oG h64 (fun h2 Q' hQ => ?_) fun ps out a1 a2 a3 => ⟨_, rfl, ?_⟩) (args_list_sort _)))
  · refine kind_txts (s := { s with heap := TS.midHeap (G.push (seqObj "list" vs.toArray 0)) (s.heap.objs.size + 1) vs }) h2 (fun v hv => ?_) r R (fun v hv zs t => ?_) (fun v hv u hu zs ws t1 t2 => ?_) Q' hQ
    · obtain ⟨z, zs, t⟩ := x v hv
      exact ⟨z, zs, up v _ t⟩
    · obtain ⟨z0, zs0, t0⟩ := x v hv
      rw [t.eq (up v _ t0)]
      exact rv v _ t0
    · obtain ⟨z0, zs0, t0⟩ := x v hv
      obtain ⟨z3, zs3, t3⟩ := x u hu
      rw [t1.eq (up v _ t0), t2.eq (up u _ t3)]
      exact hR v hv u hu _ _ t0 t3
  · obtain ⟨p, o⟩ := TS.out_rank a1 a2 a3
    have fin := h out p (o.imp fun {u v} le zs ws t1 t2 => by rw [rv u zs t1, rv v ws t2] at le; exact le)
    unfold sortedAll at fin
    rw [eG] at fin
    exact wpAny_pure ⟨_, rfl, fin⟩
end
section
variable {X : Cx}
/-- x is a tuple of these texts -/
def TupS (K : PySem.W.Frag) (H : Hp) (x : V) (zs : List Str) : Prop := ∃ t, x = .ref t ∧ SqT K H t (zs.map V.str)
theorem tupS_raw {pins : List (Addr × Obj)} {σ : L2.St} {H : Hp} {s : Shared} (I : Inv X pins σ H s) {t : Addr} {zs : List Str} (h : SqT X.K H t (zs.map V.str)) : TupT s.heap (.ref t) zs := by
  obtain ⟨its, rv, hT, _⟩ := I.tuple h
  exact ⟨t, its, rfl, hT, rv⟩
def rSortTT (K : PySem.W.Frag) : List V → Hp → VK → Prop := fun vs H Q => ∃ (a : Addr) (xs : List V) (R : List Str → Int) (key : V → List Str), vs = [V.ref a] ∧ SqL K H a xs ∧ xs.length < 64 ∧ (∀ x ∈ xs, TupS K H x (key x) ∧ key x ≠ []) ∧
  (∀ x ∈ xs, ∀ y ∈ xs, decide (R (key x) < R (key y)) = ltT (key x) (key y)) ∧
  ∀ (ys : List V) (p : Addr), ys.Perm xs → ys.Pairwise (fun x y => R (key x) ≤ R (key y)) → H p = none → Q (.ref p) (upd H p (.lst ys))
theorem cr_sortTT : CallR X (.builtin "sorted") (rSortTT X.K) := by
  intro pins s σ H vs us Q I r h
  obtain ⟨a, xs, R, key, rfl, hs, h64, hx, hR, q⟩ := h
  obtain ⟨its, rv, hl, hz⟩ := I.list hs
  rw [Vals.ref1 r]
  obtain ⟨e1, e2⟩ := bkV_refs rv fun x m => by
    obtain ⟨⟨t, e, _⟩, _⟩ := hx x m
    exact ⟨t, e⟩
  have back : ∀ v ∈ its, ∃ t, v = Value.ref t ∧ V.ref t ∈ xs := fun v hv => by
    obtain ⟨t, rfl⟩ := e2 v hv
    exact ⟨t, rfl, by rw [e1]; exact List.mem_map.mpr ⟨_, hv, rfl⟩⟩
  have raw : ∀ {t : Addr}, V.ref t ∈ xs → TupT s.heap (.ref t) (key (.ref t)) := fun {t} m => by
    obtain ⟨⟨t', e, k⟩, _⟩ := hx _ m
    cases e
    exact tupS_raw I k
  refine sorted_txts (R := R) hl.isList (by rw [← rv.length]; exact h64) (fun v hv => ?_) (fun v hv u hu zs ws k1 k2 => ?_) fun out h1 h2 => ?_
  · obtain ⟨t, rfl, m⟩ := back v hv
    have k := raw m
    cases e : key (.ref t) with
    | nil => exact absurd e (hx _ m).2
    | cons z zs => rw [e] at k; exact ⟨z, zs, k⟩
  · obtain ⟨t, rfl, m⟩ := back v hv
    obtain ⟨t', rfl, m'⟩ := back u hu
    rw [k1.eq (raw m), k2.eq (raw m')]
    exact hR _ m _ m'
  · obtain ⟨ep, he'⟩ := sortedAll_at s.heap its out
    have h3 : ∀ u ∈ out.toList, ∃ a, u = Value.ref a := fun u hu => e2 u (h1.mem_iff.mp hu)
    have hp : (out.toList.map bkV).Perm xs := by rw [e1]; exact h1.map bkV
    refine ⟨.ref _, _, I.laid (t' := s.toks) (o := .lst (out.toList.map bkV)) (fun _ _ => sortedAll_old) (Nat.le_succ _) ⟨by rw [hp.length_eq]; exact hz, out.toList, ep, bkV_vals h3, he'⟩, rfl, q _ _ hp ?_ (I.hok.fresh (Nat.le_succ _))⟩
    rw [List.pairwise_map]
    refine List.Pairwise.imp_of_mem (fun {u v} mu mv huv => ?_) h2
    obtain ⟨t, rfl, m⟩ := back u (h1.mem_iff.mp mu)
    obtain ⟨t', rfl, m'⟩ := back v (h1.mem_iff.mp mv)
    exact huv _ _ (raw m) (raw m')
end
end Rd
set_option maxHeartbeats 2000000
namespace Rd
open PySem PySem.Spec PyProof.Rows L2
/-! ## lambdas that stand in a list and are called later: the cells they hold are set fast while the call runs -/
/-- the objects at cs are known as they stand -/
def FzC (H : Hp) (cs : List Addr) : Prop := ∀ c ∈ cs, ∃ oc, H c = some (.frz oc (.own c))
/-- H without cs -/
def offC (H : Hp) (cs : List Addr) : Hp := fun b => if b ∈ cs then none else H b
/-- H' with what H has at cs -/
def mixC (H H' : Hp) (cs : List Addr) : Hp := fun b => if b ∈ cs then H b else H' b
section
variable {P : Program} {w : World} {H H' : Hp} {h h' B : Heap} {cs fs : List Addr} {b : Addr} {o : HO}
theorem offC_in (m : b ∈ cs) : offC H cs b = none := if_pos m
theorem offC_out (m : b ∉ cs) : offC H cs b = H b := if_neg m
theorem mixC_in (m : b ∈ cs) : mixC H H' cs b = H b := if_pos m
theorem mixC_out (m : b ∉ cs) : mixC H H' cs b = H' b := if_neg m
theorem FzC.noOwn (z : FzC H cs) {y : Addr} (e : H b = some (.own y)) : b ∉ cs := fun m => by
  obtain ⟨oc, q⟩ := z b m
  rw [e] at q
  cases q
theorem FzC.noTup (z : FzC H cs) {xs : List V} (e : H b = some (.tup xs)) : b ∉ cs := fun m => by
  obtain ⟨oc, q⟩ := z b m
  rw [e] at q
  cases q
theorem FzC.noTbl (z : FzC H cs) {ps : Array Value} (e : H b = some (.tbl ps)) : b ∉ cs := fun m => by
  obtain ⟨oc, q⟩ := z b m
  rw [e] at q
  cases q
theorem FzC.noFree (z : FzC H cs) (e : H b = none) : b ∉ cs := fun m => by
  obtain ⟨oc, q⟩ := z b m
  rw [e] at q
  cases q
/-- forgetting them -/
theorem hok_off (x : HOk P w H h) (z : FzC H cs) : HOk P w (offC H cs) h := fun a o e => by
  by_cases m : a ∈ cs
  · rw [offC_in m] at e
    cases e
  · rw [offC_out m] at e
    refine (x a o e).stay (fun b u _ q => q) (fun b q => ?_) fun b xs q => ?_
    · rw [offC_out (z.noOwn q)]; exact q
    · rw [offC_out (z.noTup q)]; exact q
/-- they are known again -/
theorem hok_mix (x : HOk P w H' h) (z : FzC H cs) (hn : ∀ c ∈ cs, H' c = none) (hg : ∀ c ∈ cs, ∀ oc u, H c = some (.frz oc u) → h.get? c = some oc) : HOk P w (mixC H H' cs) h := fun a o e => by
  by_cases m : a ∈ cs
  · rw [mixC_in m] at e
    obtain ⟨oc, q⟩ := z a m
    rw [q] at e
    cases e
    have g := hg a m oc _ q
    exact ⟨g, oc, g⟩
  · rw [mixC_out m] at e
    refine (x a o e).stay (fun b u _ q => q) (fun b q => ?_) fun b xs q => ?_
    · rw [mixC_out (fun k => by rw [hn b k] at q; cases q)]; exact q
    · rw [mixC_out (fun k => by rw [hn b k] at q; cases q)]; exact q
/-- a call that ran without them, told with them -/
theorem un_mix (u : Un fs [] (offC H cs) H' h h') (z : FzC H cs) : Un fs [] H (mixC H H' cs) h h' where
  keep := fun b o q n hb hx => u.keep b o q (by rw [offC_out (z.noFree n)]; exact n) hb hx
  slot := fun b o q n hb hx => u.slot b o q (by rw [offC_out (z.noFree n)]; exact n) hb hx
  free := fun b o q n hx => by
    rw [mixC_out (z.noFree n)]
    exact u.free b o q (by rw [offC_out (z.noFree n)]; exact n) hx
  there := fun b o q hx => u.there b o q hx
  tups := fun b xs q => by
    rw [mixC_out (z.noTup q)]
    exact u.tups b xs (by rw [offC_out (z.noTup q)]; exact q)
  frzs := fun b o xs q => by
    by_cases m : b ∈ cs
    · rw [mixC_in m]; exact q
    · rw [mixC_out m]
      exact u.frzs b o xs (by rw [offC_out m]; exact q)
  tbls := fun b ps q => by
    rw [mixC_out (z.noTbl q)]
    exact u.tbls b ps (by rw [offC_out (z.noTbl q)]; exact q)
theorem ub_mix (u : UB fs (offC H cs) H' h B h') (z : FzC H cs) : UB fs H (mixC H H' cs) h B h' where
  keep := fun b o q n hb => u.keep b o q (by rw [offC_out (z.noFree n)]; exact n) hb
  slot := fun b o q hb => u.slot b o q hb
  free := fun b o q n => by
    rw [mixC_out (z.noFree n)]
    exact u.free b o q (by rw [offC_out (z.noFree n)]; exact n)
  there := fun b o q hb => u.there b o q hb
  tups := fun b xs q => by
    rw [mixC_out (z.noTup q)]
    exact u.tups b xs (by rw [offC_out (z.noTup q)]; exact q)
  frzs := fun b o xs q => by
    by_cases m : b ∈ cs
    · rw [mixC_in m]; exact q
    · rw [mixC_out m]
      exact u.frzs b o xs (by rw [offC_out m]; exact q)
  tbls := fun b ps q => by
    rw [mixC_out (z.noTbl q)]
    exact u.tbls b ps (by rw [offC_out (z.noTbl q)]; exact q)
/-- from the caller's side: Hz is H with cs known beside -/
structure FzOf (H Hz : Hp) (cs : List Addr) : Prop where
  out : ∀ b, b ∉ cs → Hz b = H b
  non : ∀ c ∈ cs, H c = none
  fz : FzC Hz cs
theorem un_off {Hz : Hp} (u : Un fs [] Hz H' h h') (f : FzOf H Hz cs) (ok : HOk P w Hz h) (ok' : HOk P w H' h') : Un fs [] H (offC H' cs) h h' where
  keep := fun b o q n hb hx => by
    by_cases m : b ∈ cs
    · obtain ⟨oc, e⟩ := f.fz b m
      obtain ⟨g, _⟩ := ok b _ e
      obtain ⟨g', _⟩ := ok' b _ (u.frzs b _ _ e)
      rw [q] at g
      cases g
      exact g'
    · exact u.keep b o q (by rw [f.out b m]; exact n) hb hx
  slot := fun b o q n hb hx => by
    by_cases m : b ∈ cs
    · obtain ⟨oc, e⟩ := f.fz b m
      obtain ⟨g, _⟩ := ok b _ e
      obtain ⟨g', _⟩ := ok' b _ (u.frzs b _ _ e)
      rw [q] at g
      cases g
      exact ⟨o.slots, g'⟩
    · exact u.slot b o q (by rw [f.out b m]; exact n) hb hx
  free := fun b o q n hx => by
    by_cases m : b ∈ cs
    · exact offC_in m
    · rw [offC_out m]
      exact u.free b o q (by rw [f.out b m]; exact n) hx
  there := fun b o q hx => u.there b o q hx
  tups := fun b xs q => by
    have m : b ∉ cs := fun m => by rw [f.non b m] at q; cases q
    rw [offC_out m]
    exact u.tups b xs (by rw [f.out b m]; exact q)
  frzs := fun b o xs q => by
    have m : b ∉ cs := fun m => by rw [f.non b m] at q; cases q
    rw [offC_out m]
    exact u.frzs b o xs (by rw [f.out b m]; exact q)
  tbls := fun b ps q => by
    have m : b ∉ cs := fun m => by rw [f.non b m] at q; cases q
    rw [offC_out m]
    exact u.tbls b ps (by rw [f.out b m]; exact q)
/-- ahead of the call: the cells at cs are set fast as the heap has them -/
def onC (H : Hp) (h : Heap) (cs : List Addr) : Hp := fun b => if b ∈ cs then (h.get? b).map (fun o => .frz o (.own b)) else H b
theorem onC_of (hn : ∀ c ∈ cs, H c = none) (hg : ∀ c ∈ cs, ∃ o, h.get? c = some o) : FzOf H (onC H h cs) cs :=
  ⟨fun b m => if_neg m, hn, fun c m => by
    obtain ⟨o, e⟩ := hg c m
    exact ⟨o, by unfold onC; rw [if_pos m, e]; rfl⟩⟩
theorem onC_at {c : Addr} {o : Obj} (m : c ∈ cs) (e : h.get? c = some o) : onC H h cs c = some (.frz o (.own c)) := by
  unfold onC
  rw [if_pos m, e]
  rfl
theorem hok_on (x : HOk P w H h) (hn : ∀ c ∈ cs, H c = none) (hg : ∀ c ∈ cs, ∃ o, h.get? c = some o) : HOk P w (onC H h cs) h := fun a o e => by
  by_cases m : a ∈ cs
  · obtain ⟨oc, q⟩ := hg a m
    rw [onC_at m q] at e
    cases e
    exact ⟨q, oc, q⟩
  · have e' : H a = some o := by rw [← e]; exact (if_neg m).symm
    have out : ∀ {b u}, H b = some u → onC H h cs b = some u := fun {b u} q => by
      rw [← q]
      exact if_neg fun k => by rw [hn b k] at q; cases q
    exact (x a o e').stay (fun b u _ q => q) (fun b q => out q) fun b xs q => out q
end
/-- what a lambda promises in every state that keeps what is known: called with nothing -/
def Keeps (H H' : Hp) : Prop := (∀ a o u, H a = some (.frz o u) → H' a = some (.frz o u)) ∧ ∀ a xs, H a = some (.tup xs) → H' a = some (.tup xs)
theorem Keeps.refl {H : Hp} : Keeps H H := ⟨fun _ _ _ e => e, fun _ _ e => e⟩
theorem Keeps.trans {H H1 H2 : Hp} (a : Keeps H H1) (b : Keeps H1 H2) : Keeps H H2 := ⟨fun c o u e => b.1 c o u (a.1 c o u e), fun c xs e => b.2 c xs (a.2 c xs e)⟩
theorem Keeps.same {H H' : Hp} (s : ∀ a o, H a = some o → H' a = some o) : Keeps H H' := ⟨fun a _ _ e => s a _ e, fun a _ e => s a _ e⟩
def Act (P : Program) (w : World) (K : PySem.W.Frag) (mg : Str → Option Value) (base : Heap) (k : Nat) (H : Hp) (f : Addr) (spf : Hp → VK → XK → Prop) : Prop :=
  ∀ (A : Around) (outer : List Env) (s : Shared) (H' : Hp) (Q : VK) (E : XK), Keeps H H' → Room k A → Env0 P w K mg base A outer s H' → spf H' Q E → codeAny (model P w) A (.call (.ref f) ⟨[], []⟩) (CR (L2N.CX P w) outer P w H' s Q E) s
theorem Act.mono {P : Program} {w : World} {K : PySem.W.Frag} {mg : Str → Option Value} {base : Heap} {k : Nat} {H H1 : Hp} {f : Addr} {spf : Hp → VK → XK → Prop} (a : Act P w K mg base k H f spf) (e : Keeps H H1) : Act P w K mg base k H1 f spf :=
  fun A outer s H' Q E e' hr e0 h => a A outer s H' Q E (e.trans e') hr e0 h
theorem Act.le {P : Program} {w : World} {K : PySem.W.Frag} {mg : Str → Option Value} {base : Heap} {k j : Nat} {H : Hp} {f : Addr} {spf : Hp → VK → XK → Prop} (a : Act P w K mg base k H f spf) (e : k ≤ j) : Act P w K mg base j H f spf :=
  fun A outer s H' Q E e' hr e0 h => a A outer s H' Q E e' (hr.mono e) e0 h
end Rd
set_option maxHeartbeats 2000000
namespace Rd
open PySem PySem.Spec PyProof.Rows L2
/-! ## a lambda is made: its code object and itself are known from then on -/
/-- a code object of the name q, known -/
def CodeF (q : Str) (c : Addr) (u : HO) : Prop := ∃ (oc : Obj) (vs : Array Value) (t : Tok), u = .frz oc (.own c) ∧ oc.data = .fields vs ∧ vs[1]? = some (.str q t)
/-- the maker's table: every code object in it is known -/
def TabF (H : Hp) (P : Addr) (q : Str) : Prop := ∃ ps : Array Value, H P = some (.tbl ps) ∧ TriplesOk ps.toList ∧ ∀ (pos : Pos) (cv : Value), codeAmong pos ps.toList = some cv → ∃ c u, cv = .ref c ∧ H c = some u ∧ CodeF q c u
/-- all but tables stay -/
def KeepT (H H' : Hp) : Prop := ∀ b o, H b = some o → (∀ ps, o ≠ .tbl ps) → H' b = some o
theorem KeepT.refl {H : Hp} : KeepT H H := fun _ _ e _ => e
theorem KeepT.trans {H H1 H2 : Hp} (a : KeepT H H1) (b : KeepT H1 H2) : KeepT H H2 := fun c o h n => b c o (a c o h n) n
theorem KeepT.keeps {H H' : Hp} (a : KeepT H H') : Keeps H H' := ⟨fun c o u e => a c _ e fun _ z => (by cases z), fun c xs e => a c _ e fun _ z => (by cases z)⟩
theorem TabF.same {H H' : Hp} {P : Addr} {q : Str} (t : TabF H P q) (s : ∀ a o, H a = some o → H' a = some o) : TabF H' P q := by
  obtain ⟨ps, e1, e2, e3⟩ := t
  exact ⟨ps, s _ _ e1, e2, fun pos cv h => let ⟨c, u, a1, a2, a3⟩ := e3 pos cv h; ⟨c, u, a1, s _ _ a2, a3⟩⟩
theorem TabF.nil {H : Hp} {P : Addr} {q : Str} (h : H P = some (.tbl #[])) : TabF H P q := ⟨#[], h, True.intro, fun pos cv hc => by
  rw [show (#[] : Array Value).toList = [] from rfl] at hc
  simp [codeAmong] at hc⟩
theorem CodeF.ne {q : Str} {c : Addr} {u : HO} (h : CodeF q c u) (ps : Array Value) : u ≠ .tbl ps := fun z => by
  obtain ⟨oc, vs, t, e, _⟩ := h
  rw [e] at z
  cases z
section
variable {X : Cx} {pins : List (Addr × Obj)} {σ : L2.St} {H : Hp} {s : Shared}
/-- the table's object is written, the new code object is known -/
theorem inv_tabF {P c : Addr} {oc : Obj} {ps more : Array Value} {h' : Heap} {t' : Nat} (I : Inv X pins σ H s) (hP : H P = some (.tbl ps))
    (kp : ∀ b o, b ≠ P → s.heap.get? b = some o → h'.get? b = some o) (hm : h'.get? P = some { cls := .none, data := .fields (ps ++ more) }) (hc : s.heap.objs.size ≤ c) (ho : h'.get? c = some oc) :
    Inv X pins σ (upd (upd H P (.tbl (ps ++ more))) c (.frz oc (.own c))) { s with heap := h', toks := t' } := by
  have cN : H c = none := I.hok.fresh hc
  have pC : P ≠ c := ne_of_none hP cN
  have look : ∀ b, b ≠ P → b ≠ c → upd (upd H P (.tbl (ps ++ more))) c (.frz oc (.own c)) b = H b := fun b n1 n2 => by rw [upd_ne n2, upd_ne n1]
  have lookP : upd (upd H P (.tbl (ps ++ more))) c (.frz oc (.own c)) P = some (.tbl (ps ++ more)) := by rw [upd_ne pC, upd_same]
  have notP : ∀ b u, H b = some u → (∀ r, u ≠ .tbl r) → b ≠ P := fun b u e n z => by
    subst z
    rw [hP] at e
    exact n ps (Option.some.inj e).symm
  have freeP : ∀ b, H b = none → b ≠ P := fun b e z => by
    subst z
    rw [hP] at e
    cases e
  have oldC : ∀ b o, s.heap.get? b = some o → b ≠ c := fun b o e z => by
    subst z
    exact Nat.lt_irrefl _ (Nat.lt_of_lt_of_le (Heap.lt_size e) hc)
  have hadC : ∀ b u, H b = some u → b ≠ c := fun b u e => ne_of_none e cN
  refine I.step (g' := s.gens) (d' := s.drawn) (ch := []) ?_ ?_ ?_ ?_ ?_ ?_ ?_ ?_ ?_ ?_ I.bare
  · exact fun b hb => absurd hb (by simp)
  · exact fun b o _ _ _ e n => kp b o (freeP b n) e
  · exact fun b o _ _ _ e n => ⟨o.slots, kp b o (freeP b n) e⟩
  · exact fun b o _ e n => by rw [look b (freeP b n) (oldC b o e)]; exact n
  · intro b o _ e
    by_cases hb : b = P
    · rw [hb]; exact ⟨_, hm⟩
    · exact ⟨o, kp b o hb e⟩
  · exact fun b xs e => by rw [look b (notP b _ e fun r z => by cases z) (hadC b _ e)]; exact e
  · exact fun b o u e => by rw [look b (notP b _ e fun r z => by cases z) (hadC b _ e)]; exact e
  · intro b qs e
    by_cases hb : b = P
    · subst hb
      rw [hP] at e
      cases e
      exact ⟨more, lookP⟩
    · exact ⟨#[], by rw [look b hb (hadC b _ e), e]; simp⟩
  · intro m hn
    obtain ⟨ob, es, ep, e, r⟩ := hn
    exact ⟨ob, es, ep, kp _ ob (freeP _ I.free) e, r⟩
  · intro b u e
    by_cases hb : b = c
    · subst hb
      rw [upd_same] at e
      cases e
      exact ⟨ho, oc, ho⟩
    · by_cases hb2 : b = P
      · subst hb2
        rw [lookP] at e
        cases e
        exact hm
      · rw [look b hb2 hb] at e
        refine (I.hok b u e).stay (fun d v hd r => kp d v ?_ r) (fun d r => by rw [look d (notP d _ r fun _ z => by cases z) (hadC d _ r)]; exact r) fun d xs r => by rw [look d (notP d _ r fun _ z => by cases z) (hadC d _ r)]; exact r
        rcases hd with z | z
        · rw [z]; exact hb2
        · exact notP d _ z fun _ z => by cases z
theorem amongF {pos p' : Pos} {c cv : Value} : ∀ (l : List Value), TriplesOk l → codeAmong p' (l ++ [rawInt pos.line, rawInt pos.col, c]) = some cv → codeAmong p' l = some cv ∨ cv = c := fun l a b => LamX.among_app l a b
/-- a lambda as it stands: the table and the code object, the defaults' tuple -/
def LamAt (H : Hp) (f : Addr) (q : Str) (params : Arguments) (body : Expr) (scope : Scope) (cl : List (Str × Addr)) (ds : List V) : Prop :=
  ∃ (dV doc pm : Value) (c' : Addr) (ctv : Value) (u : HO), H f = some (.frz (PySem.W.kdv_obj "<lambda>" q params (.expr body) scope cl dV doc pm c' ctv) (.own f)) ∧ H c' = some u ∧ CodeF q c' u ∧
    ((ds = [] ∧ dV = .none) ∨ (ds ≠ [] ∧ ∃ T, dV = .ref T ∧ H T = some (.tup ds)))
theorem LamAt.keep {H H' : Hp} {f : Addr} {q : Str} {params : Arguments} {body : Expr} {scope : Scope} {cl : List (Str × Addr)} {ds : List V} (a : LamAt H f q params body scope cl ds) (k : Keeps H H') : LamAt H' f q params body scope cl ds := by
  obtain ⟨dV, doc, pm, c', ctv, u, h1, h2, h3, h4⟩ := a
  obtain ⟨oc, vs, t, e, h5, h6⟩ := h3
  subst e
  refine ⟨dV, doc, pm, c', ctv, _, k.1 _ _ _ h1, k.1 _ _ _ h2, ⟨oc, vs, t, rfl, h5, h6⟩, ?_⟩
  rcases h4 with h4 | ⟨n, T, e, h⟩
  · exact .inl h4
  · exact .inr ⟨n, T, e, k.2 _ _ h⟩
/-- behind the defaults: the tail of the making -/
theorem lam_tail {P c : Addr} {params : Arguments} {body : Expr} {scope : Scope} {pos : Pos} {dV : Value} {ds : List V} {E : Value → Shared → Prop} {Q : Value → Shared → Prop} (I : Inv X pins σ H s) (TB : LamX.TabB X.base X.mg c P) (hcode : X.env.code = .ref c)
    (hT : TabF H P (X.env.qual ++ "<lambda>")) (hfree : ∀ y ∈ scope.names, y.2 = .free → ∃ c, X.env.cells.lookup y.1 = some c) (hd : (ds = [] ∧ dV = .none) ∨ (ds ≠ [] ∧ ∃ T, dV = .ref T ∧ H T = some (.tup ds)))
    (h : ∀ (f : Addr) (H1 : Hp) (s' : Shared), Inv X pins σ H1 s' → KeepT H H1 → TabF H1 P (X.env.qual ++ "<lambda>") → H f = none → LamAt H1 f (X.env.qual ++ "<lambda>") params body scope (cloFrom X.env.cells scope.names []) ds → Q (.ref f) s') :
    wpAny (model X.prog X.w) X.A (makeTail "<lambda>" (X.env.qual ++ "<lambda>") params (.expr body) scope X.env dV .none none pos pos.line) Q E s := by
  obtain ⟨ps, hP, ht, ha⟩ := hT
  have bP : s.heap.BuiltinsAt X.mg P := TB.bm.keeps I.bk
  have gP : s.heap.get? P = some { cls := .none, data := .fields ps } := I.hok P _ hP
  cases hc : codeAmong pos ps.toList with
  | none =>
    refine PySem.W.kdv_makeTail (mg := X.mg) (c := c) (P := P) (ps := ps) (closure_ok hfree) I.ok.glob (I.mod.glob.keeps I.bk) hcode (TB.code.keeps I.bk) gP ht hc TB.gP bP fun c' ctv doc h' tk hx hge hlt hrec htb => ?_
    obtain ⟨c2, oc, vs, t, e2, hoc, hdt, hv⟩ := hrec
    cases e2
    have hsz : s.heap.objs.size ≤ h'.objs.size := Nat.le_trans hge (Nat.le_of_lt hlt)
    have cN : H c' = none := I.hok.fresh hge
    have I1 := inv_tabF (t' := tk) (more := #[rawInt pos.line, rawInt pos.col, .ref c']) (h' := h') I hP hx htb hge hoc
    have kT : KeepT H (upd (upd H P (.tbl (ps ++ #[rawInt pos.line, rawInt pos.col, .ref c']))) c' (.frz oc (.own c'))) := fun b o e n => by
      rw [upd_ne (ne_of_none e cN), upd_ne fun z => by subst z; rw [hP] at e; exact n ps (Option.some.inj e).symm]
      exact e
    have tF : TabF (upd (upd H P (.tbl (ps ++ #[rawInt pos.line, rawInt pos.col, .ref c']))) c' (.frz oc (.own c'))) P (X.env.qual ++ "<lambda>") := by
      have eL : (ps ++ #[rawInt pos.line, rawInt pos.col, .ref c']).toList = ps.toList ++ [rawInt pos.line, rawInt pos.col, .ref c'] := by simp
      refine ⟨_, by rw [upd_ne (ne_of_none hP cN), upd_same], by rw [eL]; exact PySem.TriplesOk_snoc _ _ _ _ ht, fun p' cv hcv => ?_⟩
      rw [eL] at hcv
      rcases amongF _ ht hcv with z | z
      · obtain ⟨c0, u0, e1, e2, e3⟩ := ha p' cv z
        exact ⟨c0, u0, e1, kT _ _ e2 e3.ne, e3⟩
      · exact ⟨c', _, z, upd_same, oc, vs, t, rfl, hdt, hv⟩
    have fN : upd (upd H P (.tbl (ps ++ #[rawInt pos.line, rawInt pos.col, .ref c']))) c' (.frz oc (.own c')) h'.objs.size = none := by
      rw [upd_ne (Nat.ne_of_gt hlt), upd_ne (Nat.ne_of_gt (Nat.lt_of_lt_of_le (Heap.lt_size gP) hsz))]
      exact I.hok.fresh hsz
    have same1 := fun b o (e : upd (upd H P (.tbl (ps ++ #[rawInt pos.line, rawInt pos.col, .ref c']))) c' (.frz oc (.own c')) b = some o) => ne_of_none e fN
    have gN : (h'.push (PySem.W.kdv_obj "<lambda>" (X.env.qual ++ "<lambda>") params (.expr body) scope (cloFrom X.env.cells scope.names []) dV doc ((X.mg "__name__").getD .none) c' ctv)).get? h'.objs.size = some _ := Heap.get?_push_size _ rfl
    have I2 := I1.laid (t' := tk) (a := h'.objs.size) (o := .frz (PySem.W.kdv_obj "<lambda>" (X.env.qual ++ "<lambda>") params (.expr body) scope (cloFrom X.env.cells scope.names []) dV doc ((X.mg "__name__").getD .none) c' ctv) (.own h'.objs.size))
      (fun b u e => Heap.get?_push_of_some _ e) (Nat.le_refl _) ⟨gN, _, gN⟩
    refine h h'.objs.size _ _ I2 (kT.trans fun b o e _ => by rw [upd_ne (same1 b o e)]; exact e) (tF.same fun b o e => by rw [upd_ne (same1 b o e)]; exact e) (I.hok.fresh hsz)
      ⟨dV, doc, _, c', ctv, _, upd_same, by rw [upd_ne (Nat.ne_of_lt hlt), upd_same], ⟨oc, vs, t, rfl, hdt, hv⟩, ?_⟩
    rcases hd with hd | ⟨n, T, e, hT⟩
    · exact .inl hd
    · have e1 := kT _ _ hT fun _ z => by cases z
      exact .inr ⟨n, T, e, by rw [upd_ne (same1 _ _ e1)]; exact e1⟩
  | some cv =>
    obtain ⟨c', u', e, hu, hco⟩ := ha pos cv hc
    subst e
    refine PySem.W.kdv_makeTailHit (mg := X.mg) (c := c) (P := P) (ps := ps) (closure_ok hfree) I.ok.glob (I.mod.glob.keeps I.bk) hcode (TB.code.keeps I.bk) gP ht hc bP fun ctv doc h' tk hx hsz => ?_
    have I1 : Inv X pins σ H { s with heap := h', toks := tk } := I.kept hx
    have fN : H h'.objs.size = none := I.hok.fresh hsz
    have gN : (h'.push (PySem.W.kdv_obj "<lambda>" (X.env.qual ++ "<lambda>") params (.expr body) scope (cloFrom X.env.cells scope.names []) dV doc ((X.mg "__name__").getD .none) c' ctv)).get? h'.objs.size = some _ := Heap.get?_push_size _ rfl
    have I2 := I1.laid (t' := tk) (a := h'.objs.size) (o := .frz (PySem.W.kdv_obj "<lambda>" (X.env.qual ++ "<lambda>") params (.expr body) scope (cloFrom X.env.cells scope.names []) dV doc ((X.mg "__name__").getD .none) c' ctv) (.own h'.objs.size))
      (fun b u e => Heap.get?_push_of_some _ e) (Nat.le_refl _) ⟨gN, _, gN⟩
    have same1 : ∀ b o, H b = some o → upd H h'.objs.size (.frz (PySem.W.kdv_obj "<lambda>" (X.env.qual ++ "<lambda>") params (.expr body) scope (cloFrom X.env.cells scope.names []) dV doc ((X.mg "__name__").getD .none) c' ctv) (.own h'.objs.size)) b = some o := fun b o e => by
      rw [upd_ne (ne_of_none e fN)]; exact e
    refine h h'.objs.size _ _ I2 (fun b o e _ => same1 b o e) (TabF.same ⟨ps, hP, ht, ha⟩ same1) fN ⟨dV, doc, _, c', ctv, u', upd_same, same1 _ _ hu, hco, ?_⟩
    rcases hd with hd | ⟨n, T, e, hT⟩
    · exact .inl hd
    · exact .inr ⟨n, T, e, same1 _ _ hT⟩
end
/-- lambda: e, without parameters -/
def tLam0 (P : Addr) (q : Str) (params : Arguments) (body : Expr) (scope : Scope) (cl : List (Str × Addr)) : TE := fun _ H Q => TabF H P q ∧ ∀ (f : Addr) (H1 : Hp), KeepT H H1 → TabF H1 P q → H f = none → LamAt H1 f q params body scope cl [] → Q (.ref f) H1
/-- lambda x = i: e -/
def tLam1 (P : Addr) (q : Str) (params : Arguments) (body : Expr) (scope : Scope) (cl : List (Str × Addr)) (i : Int) : TE := fun _ H Q => TabF H P q ∧ ∀ (f : Addr) (H1 : Hp), KeepT H H1 → TabF H1 P q → H f = none → LamAt H1 f q params body scope cl [.int i] → Q (.ref f) H1
section
variable {X : Cx} {P c : Addr} {params : Arguments} {body : Expr} {scope : Scope} {pos dpos : Pos} {i : Int} {j : Nat}
theorem pe_lam0 (TB : LamX.TabB X.base X.mg c P) (hcode : X.env.code = .ref c) (hfree : X.Ok → ∀ y ∈ scope.names, y.2 = .free → ∃ c, X.env.cells.lookup y.1 = some c) (hdef : defaultsOf params X.env = ([], []) := by rfl) :
    PE X (.Lambda params body scope pos) (tLam0 P (X.env.qual ++ "<lambda>") params body scope (cloFrom X.env.cells scope.names [])) := by
  refine ⟨fun pins s σ H Q I h => ?_⟩
  obtain ⟨hT, h⟩ := h
  refine PySem.W.kla_eval hdef ?_
  rw [makeFunction_eq]
  simp only [List.zip_nil_right, List.filterMap_nil, List.isEmpty_nil, if_true, pure_bind]
  exact lam_tail I TB hcode hT (hfree I.ok) (.inl ⟨rfl, rfl⟩) fun f H1 s' I1 k1 t1 n1 l1 => ⟨.ref f, H1, I1, rfl, h f H1 k1 t1 n1 l1⟩
theorem pe_lam1 (TB : LamX.TabB X.base X.mg c P) (hcode : X.env.code = .ref c) (hfree : X.Ok → ∀ y ∈ scope.names, y.2 = .free → ∃ c, X.env.cells.lookup y.1 = some c) (hd : params.defaults = [.Constant (.int i) j dpos] := by rfl) (hk : params.kw_defaults = [] := by rfl) :
    PE X (.Lambda params body scope pos) (tLam1 P (X.env.qual ++ "<lambda>") params body scope (cloFrom X.env.cells scope.names []) i) := by
  refine ⟨fun pins s σ H Q I h => ?_⟩
  obtain ⟨hT, h⟩ := h
  refine PySem.W.kdv_lam (by rw [hd]; rfl) hk ?_
  rw [hd]
  refine PySem.W.kdv_all1 (thn ((pe_int (X := X) (i := i) (j := j) (pos := dpos)).run pins s σ H (fun v H1 => v = .int i ∧ H1 = H) I ⟨rfl, rfl⟩) fun u s1 ⟨v, H1, I1, r1, e1, e2⟩ => ?_)
  subst e1
  rw [e2] at I1
  refine PySem.W.kdv_all0 ?_
  rw [makeFunction_eq]
  simp only [List.zip_nil_right, List.filterMap_nil, List.isEmpty_nil, if_true, pure_bind, List.isEmpty_cons, Bool.false_eq_true, if_false]
  refine wpAny_bind (wpAny_newTextTuple ?_)
  have hN : H s1.heap.objs.size = none := I1.hok.fresh (Nat.le_refl _)
  have I2 := I1.laid (t' := s1.toks) (a := s1.heap.objs.size) (o := .tup [.int i]) (h' := s1.heap.push (PySem.W.kdv_tup [u])) (fun b u e => Heap.get?_push_of_some _ e) (Nat.le_refl _)
    ⟨by show 1 ≤ sizeLine; decide, [u], .cons r1 .nil, ⟨_, Heap.get?_push_size _ rfl, rfl, _, rfl⟩⟩
  have s1k : ∀ b o, H b = some o → upd H s1.heap.objs.size (.tup [.int i]) b = some o := fun b o e => by rw [upd_ne (ne_of_none e hN)]; exact e
  exact lam_tail I2 TB hcode (hT.same s1k) (hfree I2.ok) (.inr ⟨by simp, _, rfl, upd_same⟩) fun f H1 s' I3 k1 t1 n1 l1 => ⟨.ref f, H1, I3, rfl, h f H1 (fun b o e n => k1 b o (s1k b o e) n) t1 (by
    cases e : H f with
    | none => rfl
    | some o => rw [s1k _ _ e] at n1; cases n1) l1⟩
end
end Rd
set_option maxHeartbeats 2000000
namespace Rd
open PySem PySem.Spec PyProof.Rows L2
/-! ## a lambda's body runs where the lambda is called -/
abbrev lEnv (q : Str) (scope : Scope) (L f c' : Addr) (cl : List (Str × Addr)) : Env := PySem.W.envX q scope L f (.ref c') cl
def lCx (P : Program) (w : World) (K : PySem.W.Frag) (mg : Str → Option Value) (base : Heap) (N : List Str) (q : Str) (scope : Scope) (cl : List (Str × Addr)) (f c' : Addr) (A : Around) (outer : List Env) (s : Shared) (H : Hp) (E : XK) : Cx where
  prog := P
  w := w
  K := K
  mg := mg
  base := base
  A := A.deeper (lEnv q scope s.heap.objs.size f c' cl)
  N := N
  s_0 := s
  H_0 := H
  env := lEnv q scope s.heap.objs.size f c' cl
  outer := outer
  stack := lEnv q scope s.heap.objs.size f c' cl :: outer
  ex := []
  fn := fun _ => false
  calm := true
  pn := []
  xe := fun e s' => wpAny (model P w) (A.deeper (lEnv q scope s.heap.objs.size f c' cl)) (leaving (lEnv q scope s.heap.objs.size f c' cl) e) (fun _ s'' => L2N.CX P w outer H s E e s'') (fun e' s'' => L2N.CX P w outer H s E e' s'') s'
/-- the lambda's names: captured ones and globals, and parameters that nothing reads -/
structure LScope (N ps : List Str) (scope : Scope) : Prop where
  kind : scope.kind = .function
  co : scope.isCoroutine = false
  gen : scope.isGenerator = false
  nocell : ∀ y ∈ scope.names, y.2 ≠ .cell
  noloc : ∀ y ∈ scope.names, y.2 = .local → y.1 ∉ N
  par : ∀ x ∈ ps, scope.names.lookup x = some .local
theorem frz_get {P : Program} {w : World} {H : Hp} {h : Heap} {a : Addr} {o : Obj} {u : HO} (ok : HOk P w H h) (e : H a = some (.frz o u)) : h.get? a = some o := (ok a _ e).1
section
variable {P : Program} {w : World} {K : PySem.W.Frag} {mg : Str → Option Value} {base : Heap} {k : Nat} {H : Hp} {f : Addr} {q : Str} {params : Arguments} {body : Expr} {scope : Scope} {cl : List (Str × Addr)} {ds : List V} {N ps : List Str} {σ : L2.St} {tb : XK → TE} {spf : Hp → VK → XK → Prop}
theorem lam_act (hL : LamAt H f q params body scope cl ds) (S : LScope N ps scope) (inj : ∀ x y c, cl.lookup x = some c → cl.lookup y = some c → x = y) (has : ∀ y ∈ scope.names, y.2 = .free → ∃ c, cl.lookup y.1 = some c)
    (cell : ∀ p ∈ cl, ∃ oc v, H p.2 = some (.frz oc (.own p.2)) ∧ oc.data = .cell v)
    (val : ∀ (i : Nat) (x : Str) (v : V), N[i]? = some x → σ[i]? = some (some v) → scope.names.lookup x = some .free → ∃ c oc u, cl.lookup x = some c ∧ H c = some (.frz oc (.own c)) ∧ oc.data = .cell (some u) ∧ RelV v u)
    (hlen : σ.length = N.length)
    (hb0 : ds = [] → ps = [] ∧ ∀ doc pm cv ctv, bindArgs (PySem.W.kdv_fn "<lambda>" q params (.expr body) scope cl .none doc pm cv ctv) ⟨[], []⟩ = pure [])
    (hb1 : ds ≠ [] → ∀ (T : Addr) doc pm cv ctv (its : List Value), its.length = ds.length → ∃ kk, bindArgs (PySem.W.kdv_fn "<lambda>" q params (.expr body) scope cl (.ref T) doc pm cv ctv) ⟨[], []⟩ = seqItems? (.ref T) >>= kk ∧ kk (some its.toArray) = pure (ps.zip its))
    (hbody : ∀ (c' : Addr) (A : Around) (outer : List Env) (s : Shared) (H' : Hp) (E : XK), Room k (lCx P w K mg base N q scope cl f c' A outer s H' E).A → PE (lCx P w K mg base N q scope cl f c' A outer s H' E) body (tb E))
    (hsp : ∀ H' Q E, Keeps H H' → spf H' Q E → tb (fun cls d H2 => (∀ c ∈ cl.map (·.2), H2 c = none) → E cls d (mixC H' H2 (cl.map (·.2)))) σ (offC H' (cl.map (·.2))) (fun v H2 => (∀ c ∈ cl.map (·.2), H2 c = none) → Q v (mixC H' H2 (cl.map (·.2))))) :
    Act P w K mg base (k + 1) H f spf := by
  intro A outer s H' Q E kp hr e0 h
  have cell' : ∀ p ∈ cl, ∃ oc v, H' p.2 = some (.frz oc (.own p.2)) ∧ oc.data = .cell v := fun p hp => by
    obtain ⟨oc, v, e1, e2⟩ := cell p hp
    exact ⟨oc, v, kp.1 _ _ _ e1, e2⟩
  have fz : FzC H' (cl.map (·.2)) := fun c hc => by
    obtain ⟨p, hp, e⟩ := List.mem_map.mp hc
    subst e
    obtain ⟨oc, v, e1, _⟩ := cell' p hp
    exact ⟨oc, e1⟩
  obtain ⟨dV, doc, pm, c', ctv, u, h1, h2, ⟨oc, vs, t, eu, hdc, hvc⟩, h4⟩ := hL.keep kp
  subst eu
  have gf := frz_get e0.hok h1
  have gc := frz_get e0.hok h2
  have hm : ∀ b o, base.get? b = some o → s.heap.get? b = some o ∧ offC H' (cl.map (·.2)) b = none := fun b o e => ⟨(e0.bs b o e).1, by
    by_cases m : b ∈ cl.map (·.2)
    · exact offC_in m
    · rw [offC_out m]; exact (e0.bs b o e).2⟩
  have e1 : Env0 P w K mg base A outer s (offC H' (cl.map (·.2))) := ⟨e0.frames, e0.mod, hm, e0.bsz, e0.funs, fun b hb => by
    by_cases m : b ∈ cl.map (·.2)
    · exact offC_in m
    · rw [offC_out m]; exact e0.frf b hb, hok_off e0.hok fz, e0.bare⟩
  have lim : s.heap.NoLimit := e0.mod.nolimit.keeps fun b o e => (e0.bs b o e).1
  obtain ⟨us, hus, hbind⟩ : ∃ us : List Value, us.length = ds.length ∧ BindsTo s (PySem.W.kdv_fn "<lambda>" q params (.expr body) scope cl dV doc pm (.ref c') ctv) ⟨[], []⟩ (ps.zip us) := by
    rcases h4 with ⟨e, e2⟩ | ⟨hd, T, e, hT⟩
    · subst e2
      obtain ⟨p0, hb⟩ := hb0 e
      refine ⟨[], by rw [e]; rfl, ?_⟩
      rw [p0]
      exact .of_eq (hb _ _ _ _)
    · subst e
      obtain ⟨hz, its, rv, ob, eo, ec, n, ed⟩ := (show ObjOk P w H' s.heap T (.tup ds) from e0.hok T _ hT)
      obtain ⟨kk, k1, k2⟩ := hb1 hd T doc pm (.ref c') ctv its rv.length.symm
      exact ⟨its, rv.length.symm, .of_defaults rfl eo ed k1 k2⟩
  have hloc : ∀ y ∈ ps.zip us, scope.names.lookup y.1 = some .local := fun ⟨n, v⟩ hy => S.par n (List.of_mem_zip hy).1
  have main : codeAny (model P w) A (.call (.ref f) ⟨[], []⟩) (CR (L2N.CX P w) outer P w (offC H' (cl.map (·.2))) s (fun v H2 => (∀ c ∈ cl.map (·.2), H2 c = none) → Q v (mixC H' H2 (cl.map (·.2)))) (fun cls d H2 => (∀ c ∈ cl.map (·.2), H2 c = none) → E cls d (mixC H' H2 (cl.map (·.2))))) s := by
    refine PySem.W.kla_callFunE hr.depth gf rfl S.co S.gen rfl ⟨c', oc, vs, t, rfl, gc, hdc, hvc⟩ (hbind _ _ _ _ ?_)
    refine wpAny_newFunctionEnv S.nocell hloc (fun h₁ hns hsb => ⟨lim.fresh _ hsb, ?_⟩) S.kind
    show codeAny _ _ (.expr body (lEnv q scope s.heap.objs.size f c' cl)) _ _
    have kp1 : ∀ b o, s.heap.get? b = some o → h₁.get? b = some o := fun b o e => hsb.extBut b o (Nat.ne_of_lt (Heap.lt_size e)) (Heap.get?_push_of_some _ e)
    have J : Inv (lCx P w K mg base N q scope cl f c' A outer s (offC H' (cl.map (·.2))) (fun cls d H2 => (∀ c ∈ cl.map (·.2), H2 c = none) → E cls d (mixC H' H2 (cl.map (·.2))))) [] σ (offC H' (cl.map (·.2))) { s with heap := h₁, toks := s.toks + (ps.zip us).length } := by
      have noA : ∀ b : Addr, b ∉ (lCx P w K mg base N q scope cl f c' A outer s (offC H' (cl.map (·.2))) (fun cls d H2 => (∀ c ∈ cl.map (·.2), H2 c = none) → E cls d (mixC H' H2 (cl.map (·.2))))).ex := fun b z => absurd (show b ∈ ([] : List Addr) from z) (by simp)
      refine ⟨⟨e1.mod, S.kind, rfl, rfl, Nat.le_refl _, inj, fun y hy => ?_, fun y c z _ => ?_, fun _ => hr.hd, Around.frames_deeper e1.frames, .inr ⟨rfl, rfl⟩, fun b z => absurd z (noA b), e1.bs, e1.bsz, fun b _ _ => noA b, fun b z => absurd z (noA b), e1.funs, e1.frf⟩,
        rfl, e1.bare, Un.kept kp1, ⟨_, hns, fun i y v h1 h2 h3 => ?_⟩, fun y c e => ?_, e1.hok.fresh (Nat.le_refl _), fun y c e => ?_, fun q hq => absurd (show q ∈ ([] : List (Addr × Obj)) ++ [] from hq) (by simp), e1.hok.kept kp1, hlen⟩
      · have hy : scope.names.lookup y = some .cell ∨ scope.names.lookup y = some .free := hy
        rcases hy with hy | hy
        · exact absurd rfl (S.nocell _ (PySem.mem_of_lookup hy))
        · exact has _ (PySem.mem_of_lookup hy) rfl
      · have z : false = true := z
        cases z
      · have h3 : Vis scope y := h3
        rcases h3 with z | z | z
        · exact absurd (List.mem_of_getElem? h1) (S.noloc _ (PySem.mem_of_lookup z) rfl)
        · exact absurd rfl (S.nocell _ (PySem.mem_of_lookup z))
        · obtain ⟨c, oc, u, e2, e3, e4, e5⟩ := val i y v h1 h2 z
          exact ⟨u, e5, .inr ⟨.inr z, c, e2, oc, kp1 _ _ (frz_get e0.hok (kp.1 _ _ _ e3)), e4⟩⟩
      · have e : cl.lookup y = some c := e
        obtain ⟨oc, v, e2, e3⟩ := cell' _ (PySem.mem_of_lookup e)
        exact ⟨v, oc, kp1 _ _ (frz_get e0.hok e2), e3⟩
      · have e : cl.lookup y = some c := e
        exact offC_in (List.mem_map.mpr ⟨_, PySem.mem_of_lookup e, rfl⟩)
    refine PySem.W.kla_codeExpr (wpAny_mono ((hbody c' A outer s _ _ (hr.deeper _)).run [] _ _ _ _ J (hsp H' Q E kp h)) (fun v s' hq => ?_) fun e s' hq => hq)
    obtain ⟨w', H2, J2, rv, q⟩ := hq
    exact ⟨w', H2, J2.os, J2.bare, J2.base, J2.hok, rv, q⟩
  have nfr : ∀ c ∈ cl.map (·.2), c ∉ frs outer := fun c hc hf => by
    have z := e0.frf c hf
    obtain ⟨oc, e⟩ := fz c hc
    rw [e] at z
    cases z
  refine codeAny_mono main fun r s' hq => ?_
  cases r with
  | error e =>
    obtain ⟨a, B, H2, cls, d, ea, fl, hok, ub, na, os, ag, hE⟩ := hq
    have hg : ∀ c ∈ cl.map (·.2), ∀ oc u, H' c = some (.frz oc u) → B.get? c = some oc := fun c hc oc u e => ub.keep c oc (frz_get e0.hok e) (offC_in hc) (nfr c hc)
    have hn : ∀ c ∈ cl.map (·.2), H2 c = none := fun c hc => by
      obtain ⟨oc, e⟩ := fz c hc
      exact ub.free c oc (frz_get e0.hok e) (offC_in hc)
    refine ⟨a, B, _, cls, d, ea, fl, hok_mix hok fz hn hg, ub_mix ub fz, ?_, os, ag, hE hn⟩
    rw [mixC_out fun m => by
      obtain ⟨oc, e⟩ := fz a m
      have z := hg a m oc _ e
      rw [fl.2.1] at z
      cases z]
    exact na
  | ok fl =>
    cases fl with
    | ret u =>
      obtain ⟨v, H2, os, bare, un, hok, rv, qv⟩ := hq
      have hg : ∀ c ∈ cl.map (·.2), ∀ oc u, H' c = some (.frz oc u) → s'.heap.get? c = some oc := fun c hc oc u e => un.keep c oc (frz_get e0.hok e) (offC_in hc) (nfr c hc) (by simp)
      have hn : ∀ c ∈ cl.map (·.2), H2 c = none := fun c hc => by
        obtain ⟨oc, e⟩ := fz c hc
        exact un.free c oc (frz_get e0.hok e) (offC_in hc) (by simp)
      exact ⟨v, _, os, bare, un_mix un fz, hok_mix hok fz hn hg, rv, qv hn⟩
    | next => exact False.elim hq
    | brk => exact False.elim hq
    | cont => exact False.elim hq
end
end Rd
set_option maxHeartbeats 4000000
namespace L2N
open PySem PySem.Spec PyProof.Rows L2
/-! ## except (A, B, C) as n -/
theorem flying_push {B h : Heap} {l : List Env} {a : Addr} {Z : Obj → Prop} (x : HandSPX.FlyingZ B l a Z h) (o : Obj) : HandSPX.FlyingZ B l a Z (h.push o) := by
  obtain ⟨k1, k2, k3, oe, vs, T, oT, ts, he, hz, hd, h1, hb, hne, hT, hTd, h3⟩ := x
  have kp : ∀ b u, h.get? b = some u → (h.push o).get? b = some u := fun b u e => Heap.get?_push_of_some _ e
  exact ⟨fun b u e => kp b u (k1 b u e), k2, k3.of_keeps fun b u e _ => ⟨u, kp b u e, rfl⟩, oe, vs, T, oT, ts, kp _ _ he, hz, hd, h1, hb, hne, kp _ _ hT, hTd, h3⟩
def wTup (K : PySem.W.Frag) (cs : List Value) (i : Nat) (ts : Addr → Value → Option Addr → TS) (Wout : WX) (D : Ends) : WX := fun cls d σ H =>
  ∃ b, PySem.W.exmAny K cls cs = some b ∧ (b = true → ∀ a, H a = none → ts a cls d { nx := fun σ' H' => D.nx (σ'.set i none) H', rt := D.rt, bk := fun σ' H' => D.bk (σ'.set i none) H', ct := fun σ' H' => D.ct (σ'.set i none) H' } (σ.set i (some (.ref a))) H) ∧
    (b = false → Wout cls d σ H)
section
variable {X : Cx} {x1 x2 x3 n : Str} {c1 c2 c3 : Value} {i kk : Nat} {body suite : List Stmt} {b₀ : Stmt} {p1 p2 p3 tpos pos pos' : Pos} {tb : WX → TS} {ts : Addr → Value → Option Addr → TS} {Wout : WX}
theorem ps_try_tup3 (hs : X.stack = X.env :: X.outer) (hf : X.env.frame = some X.env.locals) (hN : X.N.Nodup) (hi : X.N[i]? = some n) (hln : X.env.kindOf n = some .local) (n1 : Names X x1 c1) (n2 : Names X x2 c2) (n3 : Names X x3 c3) (tk : Takes X Wout)
    (hb : ∀ (W : WX) (pn : List (Addr × Obj)) (xe : Value → Shared → Prop), Takes (X.tr pn xe) W → PassesOwn (model X.prog X.w) X.A X.env xe → PSs (X.tr pn xe) body (tb W))
    (hsu : ∀ (a : Addr) (oe : Obj) (cls : Value) (d : Option Addr) (pn : List (Addr × Obj)), Zn cls d oe → (∃ vs, oe.data = .fields vs) → X.base.get? a = none → PSs (X.suite a ((a, oe) :: pn)) (b₀ :: suite) (ts a cls d)) :
    PS X (.Try body [.ExceptHandler (some (.Tuple [.Name x1 p1, .Name x2 p2, .Name x3 p3] kk tpos)) (some n) (b₀ :: suite) pos'] [] [] pos) (fun D σ H => tb (wTup X.K [c1, c2, c3] i ts Wout D) D σ H) := by
  refine ⟨fun pins s σ H D I h => ?_⟩
  have ok := I.ok
  have hfr : X.A.frames = some (X.env :: X.outer) := by rw [ok.frames, hs]
  have hloc : Loc X.env.scope n := .inl hln
  refine wpAny_Try_except ?_
  refine wpAny_mono ((hb (wTup X.K [c1, c2, c3] i ts Wout D) (X.pn ++ pins) (fun e s₁ => wpAny (model X.prog X.w) X.A (noteFrame e X.env) (fun _ s₂ => wpAny (model X.prog X.w) X.A (setFlight e none) (fun _ s₃ =>
    wpAny (model X.prog X.w) X.A (handleBy e X.env [.ExceptHandler (some (.Tuple [.Name x1 p1, .Name x2 p2, .Name x3 p3] kk tpos)) (some n) (b₀ :: suite) pos']) (SP X pins D) X.xe s₃) X.xe s₂) X.xe s₁) (fun u s' xx => ?_) PassesOwn.looking).run [] s σ H D (I.toTry _) h) (fun f s1 hsp => ?_) (fun e s1 he => he)
  · obtain ⟨a, B, sI, pins', σ', H', cls, d, rfl, J', nb, up, sky, na, os, ag, b, hb1, hyes, hno⟩ := xx
    have J : Inv X pins σ' H' sI := J'.ofTry ok
    have sky' : Sky B (X.env :: X.outer) a (Zn cls d) X.env.locals s'.heap := by rw [← hs]; exact sky
    show wpAny (model X.prog X.w) X.A (noteFrame (.ref a) X.env) _ _ _
    refine Sky.land Zn.steady hfr hf sky' fun h3 fl3 up3 => ?_
    have J3 : Inv X pins σ' H' { s' with heap := h3 } := J.landed nb fl3.1 (up.trans up3) os ag
    obtain ⟨oe3, vs3, he3, hz3, hd3⟩ := fl3.there
    have notFr : ∀ {h : Heap} {o : Obj} {vs : Array Value}, h.FunFrames B (X.env :: X.outer) → h.get? a = some o → o.data = .fields vs → a ∉ frs (X.env :: X.outer) := fun {h o vs} ff e dd hm => by
      obtain ⟨_, o', e', hnf⟩ := ff.mem hm
      rw [e] at e'; cases e'
      exact hnf _ dd
    have nfr := notFr fl3.2.2.1 he3 hd3
    have nL : a ≠ X.env.locals := fun z => nfr (List.mem_filterMap.mpr ⟨X.env, List.mem_cons_self, by rw [hf, z]⟩)
    have nF : a ∉ X.fs := fun hm => by
      obtain ⟨e, he, q⟩ := List.mem_filterMap.mp hm
      exact nfr (List.mem_filterMap.mpr ⟨e, List.mem_cons_of_mem _ he, q⟩)
    have nbase : X.base.get? a = none := by
      cases e : X.base.get? a with
      | none => rfl
      | some o =>
        have h1 := nb _ _ (J.bs _ _ e).1 (by rw [hs]; exact nfr)
        rw [fl3.2.1] at h1
        cases h1
    have S3 := J3.suite he3 hd3 na nL nF
    have test : ∀ {x : Str} {c : Value} {np : Pos} (hc : Names X x c) {Q : Value → Shared → Prop} {E : Value → Shared → Prop}, Q c { s' with heap := h3 } → wpAny (model X.prog X.w) (X.A.mark (some (.ref a))) (eval (.Name x np) X.env) Q E { s' with heap := h3 } := fun {x c np} hc {Q E} q => by
      obtain ⟨hg, hdbg, hm | ⟨hm, hv, hnn⟩⟩ := hc
      · exact ld_glob (X := X.suite a ((a, oe3) :: (X.pn ++ pins))) S3 hg hm q hdbg
      · exact ld_blt (X := X.suite a ((a, oe3) :: (X.pn ++ pins))) S3 hg hm hv q hnn hdbg
    refine wpAny_handleBy_cons (codeAny_handlers_test ?_) (by intro q; cases q)
    refine Tuple_ (spliced_more (test n1 (spliced_more (test n2 (spliced_more (test n3 (spliced_none ?_)))))))
    refine wpAny_newObj_type ?_
    have fl5 := flying_push fl3 { cls := .type "tuple", dict := none, data := .seq [c1, c2, c3].toArray }
    have up5 : h3.UpToSlots (h3.push { cls := .type "tuple", dict := none, data := .seq [c1, c2, c3].toArray }) := Heap.UpToSlots.of_keeps fun b u e => Heap.get?_push_of_some _ e
    have hp : (h3.push { cls := .type "tuple", dict := none, data := .seq [c1, c2, c3].toArray }).get? h3.objs.size = some { cls := .type "tuple", data := .seq [c1, c2, c3].toArray } := Heap.get?_push_size _ rfl
    have k5 : PySem.W.Frag.In X.K (h3.push { cls := .type "tuple", dict := none, data := .seq [c1, c2, c3].toArray }) := J3.kIn.keeps fun b u e => Heap.get?_push_of_some _ e
    have he5 : (h3.push { cls := .type "tuple", dict := none, data := .seq [c1, c2, c3].toArray }).get? a = some oe3 := Heap.get?_push_of_some _ he3
    have LT : PySem.W.Looks (model X.prog X.w) (h3.push { cls := .type "tuple", dict := none, data := .seq [c1, c2, c3].toArray }) (typeOf (.ref a)) cls := fun A Q E s k q => wpAny_typeOf_ref (k _ _ he5) (by rw [hz3.1]; exact q)
    have LM := PySem.W.exm_tup3 (M := model X.prog X.w) k5 LT hp hb1
    have up35 := (up.trans up3).trans up5
    generalize (h3.push { cls := .type "tuple", dict := none, data := .seq [c1, c2, c3].toArray }) = h5 at fl5 LM up35
    refine LM.here ?_
    cases b with
    | true =>
      refine codeAny_handlers_suite_as ?_
      refine HandSPX.lands_againZ fl5 fun h4 fl4 up4 => ?_
      have J4 : Inv X pins σ' H' { s' with heap := h4 } := J.landed nb fl4.1 (up35.trans up4) os ag
      obtain ⟨oe4, vs4, he4, hz4, hd4⟩ := fl4.there
      have S4 := J4.suite he4 hd4 na nL nF
      refine store_ok (X := X.suite a ((a, oe4) :: (X.pn ++ pins))) (v := .ref a) S4 hN hi hloc rfl (fun s5 S5 => ?_) (.inr hln)
      refine wpAny_mono ((hsu a oe4 cls d (X.pn ++ pins) hz4 ⟨_, hd4⟩ nbase).run [] s5 _ H' _ S5 (hyes rfl a na)) (fun f s6 hsp => ?_) (fun _ _ z => False.elim z)
      have end_ : ∀ {σ6 : L2.St} {H6 : Hp} {Q : Shared → Prop}, Inv (X.suite a ((a, oe4) :: (X.pn ++ pins))) [] σ6 H6 s6 → (∀ s7, Inv X pins (σ6.set i none) H6 s7 → Q s7) →
          wpAny (model X.prog X.w) X.A (do bindName X.env n .none; unbindBehindTheSuite X.env n pos') (fun _ s7 => Q s7) X.xe s6 := fun {σ6 H6 Q} S6 hq => gone_ok (S6.unsuite ok) hN hi hln hq
      cases f with
      | next =>
        obtain ⟨σ6, H6, S6, q6⟩ := hsp
        exact end_ S6 fun s7 J7 => ⟨_, _, J7, q6⟩
      | brk =>
        obtain ⟨σ6, H6, S6, q6⟩ := hsp
        exact end_ S6 fun s7 J7 => ⟨_, _, J7, q6⟩
      | cont =>
        obtain ⟨σ6, H6, S6, q6⟩ := hsp
        exact end_ S6 fun s7 J7 => ⟨_, _, J7, q6⟩
      | ret u =>
        obtain ⟨v6, σ6, H6, S6, r6, q6⟩ := hsp
        exact end_ S6 fun s7 J7 => ⟨_, _, _, J7, r6, q6⟩
    | false =>
      show wpAny _ X.A (handleBy (.ref a) X.env []) _ _ _
      refine wpAny_handleBy_nil ?_
      obtain ⟨k1, k2, k3, oe, vs, T, oT, ts', he, hz, hd, h1, hr⟩ := id fl5
      unfold PySem.passOn
      refine wpAny_bind (wpAny_field he hd h1 ?_)
      rw [if_neg (show ¬ ((Value.ref T == Value.none) = true) from by simp)]
      have fin : wpAny (model X.prog X.w) X.A (setFlight (.ref a) X.env.frame) (fun _ s4 => wpAny (model X.prog X.w) X.A (throw (.ref a) : Sem Flow) (SP X pins D) X.xe s4) X.xe { s' with heap := h5 } := by
        rw [hf]
        refine HandSPX.setFlight_upZ fl5 fun h4 hh4 up4 => wpAny_throw (tk _ _ ?_)
        exact ⟨a, B, sI, pins, σ', H', cls, d, rfl, J, nb, up35.trans up4, .inr (.inr (by rw [hs]; exact hh4)), na, os, ag, hno rfl⟩
      first
        | exact wpAny_bind (wpAny_pure (wpAny_bind fin))
        | exact wpAny_bind fin
  · cases f with
    | next =>
      obtain ⟨σ', H', J', q⟩ := hsp
      exact wpAny_execs_nil ⟨σ', H', J'.ofTry ok, q⟩
    | brk =>
      obtain ⟨σ', H', J', q⟩ := hsp
      exact ⟨σ', H', J'.ofTry ok, q⟩
    | cont =>
      obtain ⟨σ', H', J', q⟩ := hsp
      exact ⟨σ', H', J'.ofTry ok, q⟩
    | ret u =>
      obtain ⟨v, σ', H', J', r, q⟩ := hsp
      exact ⟨v, σ', H', J'.ofTry ok, r, q⟩
end
end L2N
set_option maxHeartbeats 2000000
namespace Rd
open PySem PySem.Spec PyProof.Rows L2 L2H HotX
/-! ## a def called in an except suite, with the handled exception (a, oe) known -/
structure FnE (P : Program) (w : World) (K : PySem.W.Frag) (mg : Str → Option Value) (base : Heap) (CX : CXT) (k : Nat) (f : Addr) (fd : FuncData) (ps : List Str) (sp : Sp) (a : Addr) (oe : Obj) : Prop where
  len : ∀ vs H Q E, sp vs H Q E → vs.length = ps.length
  run : ∀ (A : Around) (outer : List Env) (s : Shared) (H : Hp) (args : Args) (us : List Value) (vs : List V) (Q : VK) (E : XK), RoomH k A → Hot1 A (a, oe) → PinOk outer H s (a, oe) → Env0 P w K mg base A outer s H → BindsTo s fd args (ps.zip us) → Vals vs us → sp vs H Q E →
    codeAny (model P w) A (.call (.ref f) args) (CR CX outer P w H s Q E) s
section
variable {P : Program} {w : World} {K : PySem.W.Frag} {mg : Str → Option Value} {base : Heap} {CX : CXT}
theorem Fun.okE {x qual : Str} {st : Stmt} {f a : Addr} {oe : Obj} {fd : FuncData} {N ps : List Str} {k : Nat} {sp : Sp} (F : L2.Fun K x qual st f fd) (S : FnScope N ps (defScope st)) (len : ∀ vs H Q E, sp vs H Q E → vs.length = ps.length)
    (hbody : ∀ (cdv : Value) (A : Around) (outer : List Env) (s : Shared) (H : Hp) (vs : List V) (Q : VK) (E : XK), Hot1 A (a, oe) → RoomH k (A.deeper (envOfC qual (defScope st) s.heap.objs.size f cdv)) → sp vs H Q E →
      ∃ t, PSs (cxH CX P w K mg base N qual (defScope st) f cdv A outer s H E (a, oe)) (defBody st) t ∧ t { nx := fun _ H' => Q .non H', rt := Q } (L2.start N vs) H) : FnE P w K mg base CX (k + 1) f fd ps sp a oe := by
  obtain ⟨oc, od, kV, doc, pm, an, cdv, ct, osl, rfl, lk, hcd⟩ := F.ex
  refine ⟨len, fun A outer s H args us vs Q E hr hot hpin e0 hb r hsp => ?_⟩
  have hl := len _ _ _ _ hsp
  have KX : K.In s.heap := e0.mod.kin.keeps fun b o e => (e0.bs b o e).1
  have lim : s.heap.NoLimit := e0.mod.nolimit.keeps fun b o e => (e0.bs b o e).1
  have hkind : ∀ y ∈ ps.zip us, (defScope st).names.lookup y.1 = some .local ∨ ((defScope st).names.lookup y.1 = some .cell ∧ ((cellsFrom (s.heap.objs.size + 1) (defScope st).names []).lookup y.1).isSome = true) := fun ⟨n, v⟩ hy => by
    rcases S.par n (List.of_mem_zip hy).1 with q | q
    · exact .inl q
    · exact .inr ⟨q, PySem.W.cellsFrom_some _ _ _ (.inl q)⟩
  refine codeAny_call_function hr.depth (KX _ _ lk) rfl S.co S.gen rfl (PySem.W.codeRec_of KX hcd) (hb _ _ _ _ ?_)
  refine wpAny_newFunctionEnv_cells S.kind hkind fun env he s1 x => ?_
  subst he
  refine ⟨lim.keeps x.toInCall.keep, codeAny_func ?_⟩
  obtain ⟨t, ht, hq⟩ := hbody cdv A outer s H vs Q E hot (hr.deeper _) hsp
  have I : Inv (cxH CX P w K mg base N qual (defScope st) f cdv A outer s H E (a, oe)) [] (L2.start N vs) H s1 := inv_startH S hpin e0 hl r x
  refine wpAny_mono (ht.run [] s1 (L2.start N vs) H _ I hq) (fun fl s' hs => ?_) fun e s' hs => hs
  have fin : ∀ {σ' : L2.St} {H' : Hp} {v : V} {u : Value}, Inv (cxH CX P w K mg base N qual (defScope st) f cdv A outer s H E (a, oe)) [] σ' H' s' → RelV v u → Q v H' → CE outer P w H s Q u s' :=
    fun {σ' H' v u} J rv q => ⟨v, H', J.os, J.bare, J.base, J.hok, rv, q⟩
  cases fl with
  | ret u =>
    obtain ⟨v, σ', H', J, rv, q⟩ := hs
    exact fin J rv q
  | next =>
    obtain ⟨σ', H', J, q⟩ := hs
    exact fin (v := V.non) (u := Value.none) J rfl q
  | brk =>
    obtain ⟨_, _, _, q⟩ := hs
    exact False.elim q
  | cont =>
    obtain ⟨_, _, _, q⟩ := hs
    exact False.elim q
end
section
variable {X : Cx} {CX : CXT} {k : Nat} {f C a dd : Addr} {oe : Obj} {fd : FuncData} {ps : List Str} {sp : Sp} {E : XK} {x n : Str} {q pos : Pos} {e : Expr} {es : List Expr} {te : TE} {t : TA}
theorem pe_callE (F : FnE X.prog X.w X.K X.mg X.base CX k f fd ps sp a oe) (hr : RoomH k X.A) (hot : Hot1 X.A (a, oe)) (hp : (a, oe) ∈ X.pn) (hg : Gl X x) (hm : X.mg x = some (.ref f)) (hk : PySem.W.keepIn X.K (.ref f) = true) (hb : Binds X.K fd ps []) (hx : Passes CX X E)
    (ha : PA X (e :: es) t) (hdb : (x == ("__debug__" : Str)) = false := by decide) (he : starEach (e :: es) X.env = (false, eval e X.env) :: starEach es X.env := by rfl) (hpl : (backTo pos (starEach es X.env)).any (·.1) = false := by rfl) :
    PE X (.Call (.Name x q) (e :: es) [] pos) (tCall sp [] E t) := by
  refine ⟨fun pins s σ H Q I h => ?_⟩
  refine wpAny_Call_Name_kw (ld_glob I hg hm ?_ hdb)
  refine PySem.W.callWith_K (h₀ := X.base) I.ok.mod.kin hk (thn (ha.run pos pins s σ H _ I h) fun us s1 ⟨vs, H1, I1, r, h⟩ => ⟨I1.kIn, ?_⟩) he hpl
  replace h : sp (vs ++ []) H1 Q E := h
  rw [List.append_nil] at h
  have hl : us.length = ps.length := by rw [← r.length]; exact F.len _ _ _ _ h
  have b := hb s1 us I1.kIn (by rw [List.append_nil]; exact hl)
  rw [List.append_nil] at b
  have P1 := I1.pin (a, oe) (List.mem_append_left _ hp)
  have hpin : PinOk X.stack H1 s1 (a, oe) := ⟨P1.1, P1.2.1, fun hm => (List.mem_cons.mp (I1.stkSub a hm)).elim P1.2.2.1 P1.2.2.2.1, P1.2.2.2.2⟩
  refine wpAny_call (codeAny_mono (F.run X.A X.stack s1 H1 ⟨us, []⟩ us vs Q E hr hot hpin I1.env0 b r h) fun r s' hq => ?_)
  cases r with
  | error e => exact hx pins σ H1 s1 e s' I1 hq
  | ok fl =>
    cases fl with
    | ret u => exact I1.after hq
    | next => exact False.elim hq
    | brk => exact False.elim hq
    | cont => exact False.elim hq
/-- e.f of the exception that is handled -/
def tXq (a dd : Addr) (n : Str) (te : TE) : TE := fun σ H Q => te σ H fun x H1 => x = .ref a ∧ ∃ (fs : List (Str × V)) (v : V), H1 dd = some (.xd fs) ∧ fs.lookup n = some v ∧ Q v H1
theorem pe_xq (T : XfC X.K C) (hno : PySem.W.findIn X.K (.ref C) n = some none) (hc : oe.cls = .ref C) (hd : oe.dict = some dd) (hf : ∃ vs, oe.data = .fields vs) (hp : (a, oe) ∈ X.pn) (he : PE X e te) (hb : attributeBase e n X.env (eval e X.env) = eval e X.env := by rfl) :
    PE X (.Attribute e n pos) (tXq a dd n te) where
  run := fun pins s σ H Q I h => attr_of hb (thn (he.run pins s σ H _ I h) fun u s1 hh => by
    obtain ⟨x, H1, I1, rx, ex, fs, v, ea, l, q⟩ := hh
    subst ex
    obtain rfl : u = Value.ref a := rx
    obtain ⟨ha, _⟩ := I1.pin (a, oe) (List.mem_append_left _ hp)
    obtain ⟨vs, hv⟩ := hf
    obtain ⟨mA, hns, hr⟩ := (show ObjOk X.prog X.w H1 s1.heap dd (.xd fs) from I1.hok dd _ ea)
    obtain ⟨od, ho, hl⟩ := lookIn_ns hns
    obtain ⟨u, hu, ru⟩ := RelO.some_of (v := v) (o := mA n) (by rw [← l]; exact hr n)
    have J : PySem.W.InstAt s1.heap a oe C (some od) := ⟨ha, hc, by unfold PySem.W.notCls; rw [hv] <;> rfl, by rw [hd]; exact ho⟩
    exact HandSPX.exc_get I1.kIn J T.ga T.gg T.exC (PySem.W.findObj_own T.hdC hno rfl (by rw [hl, hu])) (handed_of ru) ⟨v, H1, I1.tok _, ru, q⟩)
/-- in the suite of an except clause -/
theorem hot_suite {X : Cx} {a : Addr} {oe : Obj} {pn : List (Addr × Obj)} {cls : Value} {d : Option Addr} (hz : L2N.Zn cls d oe) (hf : ∃ vs, oe.data = .fields vs) : Hot1 (X.suite a ((a, oe) :: pn)).A (a, oe) := by
  obtain ⟨vs, hv⟩ := hf
  exact ⟨rfl, vs, hv, hz.2.2 vs hv⟩
theorem room_suite {X : Cx} {a : Addr} {pn : List (Addr × Obj)} {k : Nat} (hr : Room k X.A) : RoomH k (X.suite a pn).A := ⟨hr.dp, hr.un⟩
end
end Rd
set_option maxHeartbeats 1000000
namespace Rd
open PySem PySem.Spec PyProof.Rows L2
/-! ## raised where a suite calls defs: the context field is told -/
section
variable {X : Cx} {CX : CXT} {pins : List (Addr × Obj)} {σ : L2.St} {H1 : Hp} {s1 : Shared} {C fI : Addr} {k : Nat} {fd : FuncData} {ps ks : List Str} {sp : Sp} {Q : VK} {B newId initId : String} {bmB : List Value} {us ws : List Value} {vs zs : List V} {g : List Value → List Value → List Value} {gV : List V → List V → List V}
/-- C(e, ..) to be raised where the handled one counts -/
theorem mk_raiseN (T : XC X.K C B newId initId bmB) (hR : Raises X (.ref C)) (N : XI X CX k C fI fd ps sp) (hr : Room (k + 1) X.A) (hb : Binds X.K fd ps []) (hx : Passes CX X E0) (I1 : Inv X pins σ H1 s1) (r1 : Vals vs us) (hz : vs.length ≤ 1000) {Q : XK}
    (q1 : MkQ sp C (fun a => a :: vs) H1 (fun v H2 => ∃ (a d : Addr) (fs : List (Str × V)), v = .ref a ∧ H2 a = some (exo a C (some d)) ∧ H2 d = some (exd d fs) ∧ H1 d = none ∧ Q (.ref C) (some d) (upd (del H2 a) d (.xd fs)))) :
    wpAny (model X.prog X.w) X.A (call (.ref C) us) (L2N.MkP X pins σ Q) X.xe s1 := by
  obtain ⟨nm, N', qn, bs, bm, hdct, sn, sub, ab, col, dd, k0, k1, k2, k3, k5, hC, hT⟩ := PySem.W.excInit_of I1.kIn T.ini
  obtain ⟨hp, g, dr, tk, os⟩ := s1
  have hsz : hp.objs.size ≤ hp.objs.size + 1 := Nat.le_succ _
  have hn : H1 (hp.objs.size + 1) = none := I1.hok.fresh hsz
  have hq := q1 (hp.objs.size + 1) hn
  have kk : ∀ b o, hp.get? b = some o → ((hp.push (PySem.W.kdv_tup us)).push (PySem.HandSPX.excO C hp.objs.size)).get? b = some o := fun b o e => Heap.get?_push_of_some _ (Heap.get?_push_of_some _ e)
  have hget : ((hp.push (PySem.W.kdv_tup us)).push (PySem.HandSPX.excO C hp.objs.size)).get? (hp.objs.size + 1) = some (PySem.HandSPX.excO C hp.objs.size) := by heap_get
  have I2 : Inv X pins σ (upd H1 (hp.objs.size + 1) (exo (hp.objs.size + 1) C none)) ⟨(hp.push (PySem.W.kdv_tup us)).push (PySem.HandSPX.excO C hp.objs.size), g, dr, tk, os⟩ :=
    I1.laid (t' := tk) (a := hp.objs.size + 1) (o := exo (hp.objs.size + 1) C none) (h' := (hp.push (PySem.W.kdv_tup us)).push (PySem.HandSPX.excO C hp.objs.size)) kk hsz (exo_ok hget)
  have r2 : Vals (V.ref (hp.objs.size + 1) :: vs) ((Value.ref (hp.objs.size + 1) :: us) ++ []) := by rw [List.append_nil]; exact .cons rfl r1
  have hl : (Value.ref (hp.objs.size + 1) :: us ++ []).length = ps.length := by
    have e := r2.length
    rw [N.F.len _ _ _ _ hq] at e
    exact e.symm
  have hus : us.length ≤ sizeLine := by
    rw [← Paired.length r1, sizeLine_eq]
    omega
  refine wpAny_call (PySem.HandSPX.call_own T.F hT hC (PySem.W.looks_findIn I1.kIn N.iC) (fun self => PySem.W.bind_fn I1.kIn self N.tI) hus
    (codeAny_mono (N.F.run _ X.stack _ _ ⟨Value.ref (hp.objs.size + 1) :: us, []⟩ ((Value.ref (hp.objs.size + 1) :: us) ++ []) _ _ E0 (hr.make C us []) (I2.env0.make C us []) (hb _ (Value.ref (hp.objs.size + 1) :: us) I2.kIn hl) r2 hq) fun r s' hq' => ?_))
  cases r with
  | error er => exact hx pins σ _ _ er s' I2 hq'
  | ok fl =>
    cases fl with
    | ret u =>
      obtain ⟨v, H2, os2, bare2, un2, hok2, rv, ev, a, d, fs, ea0, ea, ed, hd1, q2⟩ := hq'
      subst ev
      cases ea0
      obtain ⟨h2, g2, d2, t2, os'⟩ := s'
      obtain ⟨t0, G, J, kG, ge, hoe, na⟩ := mk_end0 (d2 := d2) (t2 := t2) I1 hsz kk un2 hok2 os2 bare2 ea ed hd1
      refine ⟨rv, hp.objs.size + 1, _, _, ⟨G, g2, d2, t2, os'⟩, _, .ref C, some d, rfl, J, kG, ge, hoe, ⟨rfl, rfl, ?_⟩, rfl, rfl, na, rfl, bare2, hR, q2⟩
      intro vs e
      cases e
      rfl
    | next => exact False.elim hq'
    | brk => exact False.elim hq'
    | cont => exact False.elim hq'
end
section
variable {X : Cx} {CX : CXT} {x : Str} {e : Expr} {es : List Expr} {kws : List Keyword} {ta tk : TA} {p pos : Pos} {C fI : Addr} {k : Nat} {fd : FuncData} {ps ks : List Str} {sp : Sp} {B newId initId : String} {bmB : List Value} {g : List Value → List Value → List Value} {gV : List V → List V → List V}
theorem pmk_VN (T : XC X.K C B newId initId bmB) (hR : Raises X (.ref C)) (N : XI X CX k C fI fd ps sp) (hr : Room (k + 1) X.A) (hb : Binds X.K fd ps []) (hx : Passes CX X E0) (hg : Gl X x) (hm : X.mg x = some (.ref C)) (ha : PA X (e :: es) ta)
    (hdb : (x == ("__debug__" : Str)) = false := by decide) (he : starEach (e :: es) X.env = (false, eval e X.env) :: starEach es X.env := by rfl) (hpl : (backTo pos (starEach es X.env)).any (·.1) = false := by rfl) :
    L2N.PMk X (.Call (.Name x p) (e :: es) [] pos) (tMkR C sp ta) := by
  intro pins s σ H Q I h
  refine wpAny_Call_Name_kw (ld_glob I hg hm ?_ hdb)
  exact PySem.W.callWith_K (h₀ := X.base) I.ok.mod.kin T.kC (thn (ha.run pos pins s σ H _ I h) fun us s1 ⟨vs, H1, I1, r1, hz, q1⟩ => ⟨I1.kIn, mk_raiseN T hR N hr hb hx I1 r1 hz q1⟩) he hpl
theorem pmk_VN0 (T : XC X.K C B newId initId bmB) (hR : Raises X (.ref C)) (N : XI X CX k C fI fd ps sp) (hr : Room (k + 1) X.A) (hb : Binds X.K fd ps []) (hx : Passes CX X E0) (hg : Gl X x) (hm : X.mg x = some (.ref C))
    (hdb : (x == ("__debug__" : Str)) = false := by decide) : L2N.PMk X (.Call (.Name x p) [] [] pos) (tMkR C sp tNil) := by
  intro pins s σ H Q I h
  refine wpAny_Call_Name_kw (ld_glob I hg hm ?_ hdb)
  obtain ⟨hz, q1⟩ := h
  exact PySem.W.callWith_K0 I.kIn T.kC (mk_raiseN (us := []) (vs := []) T hR N hr hb hx I .nil hz q1)
end
theorem passLN {X : Cx} : Passes (L2N.CX X.prog X.w) X E0 := fun _ _ _ _ _ _ _ h => by
  obtain ⟨_, _, _, _, _, _, _, _, _, _, _, _, z⟩ := h
  exact z.elim
theorem takes0N {X : Cx} : L2N.Takes X (fun _ _ _ _ => False) := fun _ _ x => by
  obtain ⟨_, _, _, _, _, _, _, _, _, _, _, _, _, _, _, _, z⟩ := x
  exact z.elim
theorem Fun.okXN {P : Program} {w : World} {K : PySem.W.Frag} {mg : Str → Option Value} {base : Heap} {x qual : Str} {st : Stmt} {f : Addr} {fd : FuncData} {N ps : List Str} {k : Nat} {sp : Sp} (F : L2.Fun K x qual st f fd) (S : FnScope N ps (defScope st)) (len : ∀ vs H Q E, sp vs H Q E → vs.length = ps.length)
    (hbody : ∀ (cdv : Value) (A : Around) (outer : List Env) (s : Shared) (H : Hp) (vs : List V) (Q : VK) (E : XK), Room k (A.deeper (envOfC qual (defScope st) s.heap.objs.size f cdv)) → sp vs H Q E →
      ∃ t, PSs (cxOf (L2N.CX P w) P w K mg base N qual (defScope st) f cdv A outer s H E) (defBody st) t ∧ t { nx := fun _ H' => Q .non H', rt := Q } (L2.start N vs) H) : FnOk P w K mg base (L2N.CX P w) (k + 1) f fd ps sp := by
  obtain ⟨oc, od, kV, doc, pm, an, cdv, ct, osl, rfl, lk, hcd⟩ := F.ex
  exact fn_of lk hcd S len fun A outer s H vs Q E hr hsp => hbody cdv A outer s H vs Q E hr hsp
end Rd
set_option maxHeartbeats 2000000
namespace Rd
open PySem PySem.Spec PyProof.Rows L2
/-! ## calling what a local name holds; calling a def while one's own cells are known -/
section
variable {X : Cx} {k i : Nat} {x : Str} {p pos : Pos} {W : WX}
/-- f is a lambda, known -/
def IsLam (H : Hp) (f : Addr) : Prop := ∃ (dV : Value) (q : Str) (params : Arguments) (body : Expr) (scope : Scope) (cl : List (Str × Addr)) (doc pm : Value) (c' : Addr) (ctv : Value), H f = some (.frz (PySem.W.kdv_obj "<lambda>" q params (.expr body) scope cl dV doc pm c' ctv) (.own f))
theorem IsLam.keep {H H' : Hp} {f : Addr} (h : IsLam H f) (k : Keeps H H') : IsLam H' f := by
  obtain ⟨dV, q, params, body, scope, cl, doc, pm, c', ctv, e⟩ := h
  exact ⟨dV, q, params, body, scope, cl, doc, pm, c', ctv, k.1 _ _ _ e⟩
theorem LamAt.is {H : Hp} {f : Addr} {q : Str} {params : Arguments} {body : Expr} {scope : Scope} {cl : List (Str × Addr)} {ds : List V} (h : LamAt H f q params body scope cl ds) : IsLam H f := by
  obtain ⟨dV, doc, pm, c', ctv, u, e, _⟩ := h
  exact ⟨_, _, _, _, _, _, _, _, _, _, e⟩
/-- x(), x a local name that holds something with a promise -/
def tAsk (P : Program) (w : World) (K : PySem.W.Frag) (mg : Str → Option Value) (base : Heap) (k i : Nat) (W : WX) : TE := fun σ H Q => ∃ (f : Addr) (spf : Hp → VK → XK → Prop), σ[i]? = some (some (.ref f)) ∧ IsLam H f ∧ Act P w K mg base k H f spf ∧ spf H Q (fun cls d H' => W cls d σ H')
theorem callee_ref {pins : List (Addr × Obj)} {σ : L2.St} {H : Hp} {s : Shared} {f : Addr} {Q : VK} {spf : Hp → VK → XK → Prop} (hr : Room k X.A) (tk : L2N.Takes X W) (I : Inv X pins σ H s) (A : Act X.prog X.w X.K X.mg X.base k H f spf) (h : spf H Q (fun cls d H' => W cls d σ H')) :
    wpAny (model X.prog X.w) X.A (call (.ref f) []) (EP X pins σ Q) X.xe s := by
  refine wpAny_call (codeAny_mono (A X.A X.stack s H Q _ .refl hr I.env0 h) fun r s' hq => ?_)
  cases r with
  | error e => exact tk e s' (L2N.XE.of_call I (fun _ _ _ h => h) hq)
  | ok fl =>
    cases fl with
    | ret u => exact I.after hq
    | next => exact False.elim hq
    | brk => exact False.elim hq
    | cont => exact False.elim hq
theorem pe_ask (hr : Room k X.A) (tk : L2N.Takes X W) (hN : X.N[i]? = some x) (hv : Vis X.env.scope x)
    (hd : (x == ("__debug__" : Str)) = false := by decide) (hcd : (x == ("__classdict__" : Str)) = false := by decide) :
    PE X (.Call (.Name x p) [] [] pos) (tAsk X.prog X.w X.K X.mg X.base k i W) := by
  refine ⟨fun pins s σ H Q I h => ?_⟩
  obtain ⟨f, spf, hs, ⟨dV, q, params, body, scope, cl, doc, pm, c', ctv, hF⟩, hA, hq⟩ := h
  refine wpAny_Call_Name_kw (thn ((pe_var (pos := p) (i := i) hN hv hd hcd).run pins s σ H (fun v H1 => v = .ref f ∧ H1 = H) I ⟨.ref f, hs, rfl, rfl⟩) fun u s1 ⟨v, H1, I1, r1, e1, e2⟩ => ?_)
  subst e1
  rw [e2] at I1
  obtain rfl : u = Value.ref f := r1
  exact PySem.W.callWith_F0 ⟨_, _, _, _, frz_get I1.hok hF⟩ (callee_ref hr tk I1 hA hq)
end
/-! ### the cells of the frame that runs, known while a call runs -/
def cellsOf (env : Env) : List Addr := (env.cells.map (·.1)).filterMap fun x => env.cells.lookup x
theorem mem_cellsOf {env : Env} {c : Addr} : c ∈ cellsOf env ↔ ∃ x, env.cells.lookup x = some c := by
  constructor
  · intro h
    obtain ⟨x, _, e⟩ := List.mem_filterMap.mp h
    exact ⟨x, e⟩
  · rintro ⟨x, e⟩
    exact List.mem_filterMap.mpr ⟨x, List.mem_map.mpr ⟨(x, c), PySem.mem_of_lookup e, rfl⟩, e⟩
/-- the frame's cells are known in Hz, with the values of its slots -/
structure FzVal (env : Env) (N : List Str) (σ : L2.St) (Hz : Hp) : Prop where
  cell : ∀ x c, env.cells.lookup x = some c → ∃ oc v, Hz c = some (.frz oc (.own c)) ∧ oc.data = .cell v
  val : ∀ (i : Nat) (x : Str) (v : V) (c : Addr), N[i]? = some x → σ[i]? = some (some v) → env.scope.names.lookup x = some .cell → env.cells.lookup x = some c → ∃ oc u, Hz c = some (.frz oc (.own c)) ∧ oc.data = .cell (some u) ∧ RelV v u
theorem FzVal.keep {env : Env} {N : List Str} {σ : L2.St} {Hz H' : Hp} (z : FzVal env N σ Hz) (k : Keeps Hz H') : FzVal env N σ H' :=
  ⟨fun x c e => let ⟨oc, v, a, b⟩ := z.cell x c e; ⟨oc, v, k.1 _ _ _ a, b⟩, fun i x v c h1 h2 h3 h4 => let ⟨oc, u, a, b⟩ := z.val i x v c h1 h2 h3 h4; ⟨oc, u, k.1 _ _ _ a, b⟩⟩
def tCallZ (env : Env) (N : List Str) (sp : Sp) (t : TA) : TE := fun σ H Q => t σ H fun vs H1 => ∀ Hz, FzOf H1 Hz (cellsOf env) → FzVal env N σ Hz → sp vs Hz (fun v H' => Q v (offC H' (cellsOf env))) E0
section
variable {X : Cx} {CX : CXT} {k : Nat} {f : Addr} {fd : FuncData} {ps : List Str} {sp : Sp} {x : Str} {p pos : Pos} {e : Expr} {es : List Expr} {t : TA}
theorem pe_callZ (F : FnOk X.prog X.w X.K X.mg X.base CX k f fd ps sp) (hr : Room k X.A) (hfn : ∀ y, X.fn y = true) (hg : Gl X x) (hm : X.mg x = some (.ref f)) (hk : PySem.W.keepIn X.K (.ref f) = true) (hb : Binds X.K fd ps [])
    (hx : ∀ (outer : List Env) (H : Hp) (s : Shared) (e : Value) (s' : Shared), CX outer H s E0 e s' → False)
    (ha : PA X (e :: es) t) (hdb : (x == ("__debug__" : Str)) = false := by decide) (he : starEach (e :: es) X.env = (false, eval e X.env) :: starEach es X.env := by rfl) (hpl : (backTo pos (starEach es X.env)).any (·.1) = false := by rfl) :
    PE X (.Call (.Name x p) (e :: es) [] pos) (tCallZ X.env X.N sp t) := by
  refine ⟨fun pins s σ H Q I h => ?_⟩
  refine wpAny_Call_Name_kw (ld_glob I hg hm ?_ hdb)
  refine PySem.W.callWith_K (h₀ := X.base) I.ok.mod.kin hk (thn (ha.run pos pins s σ H _ I h) fun us s1 ⟨vs, H1, I1, r, hq⟩ => ⟨I1.kIn, ?_⟩) he hpl
  have cN : ∀ c ∈ cellsOf X.env, H1 c = none := fun c hc => by
    obtain ⟨y, e⟩ := mem_cellsOf.mp hc
    exact I1.freeC y c e
  have cG : ∀ c ∈ cellsOf X.env, ∃ o, s1.heap.get? c = some o := fun c hc => by
    obtain ⟨y, e⟩ := mem_cellsOf.mp hc
    obtain ⟨v, o, ho, _⟩ := I1.cell y c e
    exact ⟨o, ho⟩
  have cA : ∀ c ∈ cellsOf X.env, X.s_0.heap.objs.size ≤ c := fun c hc => by
    obtain ⟨y, e⟩ := mem_cellsOf.mp hc
    exact I1.ok.cab y c (hfn y) e
  have fz := onC_of (h := s1.heap) cN cG
  have hokz := hok_on I1.hok cN cG
  have env0 := I1.env0
  have outZ : ∀ b, b ∉ cellsOf X.env → onC H1 s1.heap (cellsOf X.env) b = H1 b := fz.out
  have ez : Env0 X.prog X.w X.K X.mg X.base X.A X.stack s1 (onC H1 s1.heap (cellsOf X.env)) := by
    refine ⟨env0.frames, env0.mod, fun b o e => ⟨(env0.bs b o e).1, ?_⟩, env0.bsz, env0.funs, fun b hb => ?_, hokz, env0.bare⟩
    · rw [outZ b fun m => by
        have h1 := Heap.lt_size e
        exact absurd (Nat.lt_of_lt_of_le h1 (Nat.le_trans I1.ok.bsz (cA b m))) (Nat.lt_irrefl _)]
      exact (env0.bs b o e).2
    · rw [outZ b fun m => by
        rcases List.mem_cons.mp (I1.stkSub b hb) with z | z
        · obtain ⟨y, e⟩ := mem_cellsOf.mp m
          exact I1.cne y b e z
        · obtain ⟨_, o, ho, _⟩ := I1.ok.funs.mem z
          exact absurd (Nat.lt_of_lt_of_le (Heap.lt_size ho) (cA b m)) (Nat.lt_irrefl _)]
      exact env0.frf b hb
  have fv : FzVal X.env X.N σ (onC H1 s1.heap (cellsOf X.env)) := by
    refine ⟨fun y c e => ?_, fun i y v c h1 h2 h3 h4 => ?_⟩
    · obtain ⟨v, o, ho, hd⟩ := I1.cell y c e
      exact ⟨o, v, onC_at (mem_cellsOf.mpr ⟨y, e⟩) ho, hd⟩
    · obtain ⟨m, _, hl⟩ := I1.loc
      obtain ⟨u, ru, l⟩ := hl i y v h1 h2 (.inr (.inl h3))
      rcases l with ⟨k1, _⟩ | ⟨_, c2, e2, o, ho, hd⟩
      · have k1 : X.env.scope.names.lookup y = some .local := k1
        rw [h3] at k1
        cases k1
      · rw [h4] at e2
        cases e2
        exact ⟨o, u, onC_at (mem_cellsOf.mpr ⟨y, h4⟩) ho, hd, ru⟩
  have hs := hq _ fz fv
  have hl : us.length = ps.length := by rw [← r.length]; exact F.len _ _ _ _ hs
  have b := hb s1 us I1.kIn (by rw [List.append_nil]; exact hl)
  rw [List.append_nil] at b
  refine wpAny_call (codeAny_mono (F.run X.A X.stack s1 _ ⟨us, []⟩ us vs _ E0 hr ez b r hs) fun r' s' hq' => ?_)
  cases r' with
  | error e => exact (hx _ _ _ _ _ hq').elim
  | ok fl =>
    cases fl with
    | ret u =>
      obtain ⟨v, H', os, bare, un, hok, rv, qv⟩ := hq'
      have fz' : FzC H' (cellsOf X.env) := fun c hc => by
        obtain ⟨oc, e⟩ := fz.fz c hc
        exact ⟨oc, un.frzs c _ _ e⟩
      exact I1.after ⟨v, offC H' (cellsOf X.env), os, bare, un_off un fz hokz hok, hok_off hok fz', rv, qv⟩
    | next => exact False.elim hq'
    | brk => exact False.elim hq'
    | cont => exact False.elim hq'
end
theorem noxN {P : Program} {w : World} (outer : List Env) (H : Hp) (s : Shared) (e : Value) (s' : Shared) (h : L2N.CX P w outer H s E0 e s') : False := by
  obtain ⟨_, _, _, _, _, _, _, _, _, _, _, _, z⟩ := h
  exact z.elim
end Rd
set_option maxHeartbeats 2000000
namespace Rd
open PySem PySem.Spec PyProof.Rows L2
open C8 (pss_cut tCut)
/-! ## a def of the text, where it stands and how it binds -/
structure Def (K : PySem.W.Frag) (mg : Str → Option Value) (x : Str) (st : Stmt) (ps : List Str) where
  f : Addr
  fd : FuncData
  F : Fun K x x st f fd
  g : mg x = some (.ref f)
  b : Binds K fd ps []
/-! ## the bag of drawn numbers -/
def Bag (H : Hp) (b : Addr) : Prop := ∃ (c : Addr) (ns : List Int) (i r m n : Int),
  H b = some (.lst [.ref c, .int i, .int r, .int m, .int n]) ∧ c ≠ b ∧ H c = some (.lst (ns.map V.int)) ∧ 0 ≤ i ∧ 0 ≤ r ∧ 0 ≤ m ∧ m < 2147483587
def Cell (H : Hp) (b c : Addr) : Prop := ∃ r, H b = some (.lst (.ref c :: r))
/-- from one heap to a later one: the bag may have moved on, all else stands -/
structure Go (b : Addr) (H H' : Hp) : Prop where
  bag : Bag H' b
  keep : ∀ a o, a ≠ b → H a = some o → H' a = some o
  cell : ∀ c, Cell H b c → Cell H' b c
theorem Bag.some {H : Hp} {b : Addr} (h : Bag H b) : ∃ xs, H b = some (.lst xs) := let ⟨_, _, _, _, _, _, e, _⟩ := h; ⟨_, e⟩
theorem Go.refl {H : Hp} {b : Addr} (h : Bag H b) : Go b H H := ⟨h, fun _ _ _ e => e, fun _ h => h⟩
theorem Go.trans {H H1 H2 : Hp} {b : Addr} (g : Go b H H1) (k : Go b H1 H2) : Go b H H2 := ⟨k.1, fun a o n e => k.2 a o n (g.2 a o n e), fun c h => k.3 c (g.3 c h)⟩
theorem Bag.new {H : Hp} {b p : Addr} {o : HO} (h : Bag H b) (np : H p = none) : Bag (upd H p o) b := by
  obtain ⟨c, ns, i, r, m, n, e, hc, ec, k⟩ := h
  exact ⟨c, ns, i, r, m, n, by rw [upd_ne (ne_of_none e np)]; exact e, hc, by rw [upd_ne (ne_of_none ec np)]; exact ec, k⟩
theorem Go.new {H H' : Hp} {b p : Addr} {o : HO} (g : Go b H H') (np : H' p = none) : Go b H (upd H' p o) :=
  ⟨g.1.new np, fun a u n e => by rw [upd_ne (ne_of_none (g.2 a u n e) np)]; exact g.2 a u n e, fun c h => by
    obtain ⟨r, e⟩ := g.3 c h
    exact ⟨r, by rw [upd_ne (ne_of_none e np)]; exact e⟩⟩
theorem Bag.same {H H' : Hp} {b : Addr} (h : Bag H b) (s : Same H H') : Bag H' b := by
  obtain ⟨c, ns, i, r, m, n, e, hc, ec, k⟩ := h
  exact ⟨c, ns, i, r, m, n, s _ _ e, hc, s _ _ ec, k⟩
theorem Go.same {H H1 H' : Hp} {b : Addr} (g : Go b H H1) (s : Same H1 H') : Go b H H' := ⟨g.1.same s, fun a o n e => s _ _ (g.2 a o n e), fun c h => let ⟨r, e⟩ := g.3 c h; ⟨r, s _ _ e⟩⟩
/-- an object that is neither the bag nor its list of cells may change -/
theorem Bag.put {H : Hp} {b p c : Addr} {o : HO} (h : Bag H b) (hc : Cell H b c) (n : p ≠ b) (n2 : p ≠ c) : Bag (upd H p o) b := by
  obtain ⟨c', ns, i, r, m, k, e, hc', ec, q⟩ := h
  obtain ⟨r', e'⟩ := hc
  rw [e] at e'
  cases e'
  exact ⟨c, ns, i, r, m, k, by rw [upd_ne (Ne.symm n)]; exact e, hc', by rw [upd_ne (Ne.symm n2)]; exact ec, q⟩
theorem Cell.put {H : Hp} {b p c : Addr} {o : HO} (h : Cell H b c) (n : p ≠ b) : Cell (upd H p o) b c := by
  obtain ⟨r, e⟩ := h
  exact ⟨r, by rw [upd_ne (Ne.symm n)]; exact e⟩
theorem Bag.cell {H : Hp} {b : Addr} (h : Bag H b) : ∃ c, Cell H b c ∧ ∃ o, H c = Option.some o := by
  obtain ⟨c, ns, i, r, m, k, e, hc', ec, q⟩ := h
  exact ⟨c, ⟨_, e⟩, _, ec⟩
/-- what the bag is not -/
theorem Go.back {H H' : Hp} {b p : Addr} (g : Go b H H') (hb : Bag H b) (np : H' p = none) : H p = none := by
  cases e : H p with
  | none => rfl
  | some o =>
    by_cases h : p = b
    · obtain ⟨xs, ex⟩ := g.1.some
      rw [h, ex] at np
      cases np
    · rw [g.2 p o h e] at np
      cases np
theorem Bag.ne {H : Hp} {b p : Addr} (h : Bag H b) (np : H p = none) : p ≠ b := fun e => by
  obtain ⟨xs, ex⟩ := h.some
  rw [e, ex] at np
  cases np
abbrev s_is_name : Stmt := topS 14
abbrev N_is_name : List Str := ["value", "letter"]
theorem sc_is_name : FnScope ["value", "letter"] ["value"] (defScope s_is_name) := ⟨rfl, rfl, rfl, by decide +kernel, rfl, by decide +kernel, by decide +kernel⟩
abbrev s_is_integer : Stmt := topS 16
abbrev N_is_integer : List Str := ["value"]
theorem sc_is_integer : FnScope ["value"] ["value"] (defScope s_is_integer) := ⟨rfl, rfl, rfl, by decide +kernel, rfl, by decide +kernel, by decide +kernel⟩
abbrev s_is_number : Stmt := topS 15
abbrev N_is_number : List Str := ["value", "least", "most"]
theorem sc_is_number : FnScope ["value", "least", "most"] ["value", "least", "most"] (defScope s_is_number) := ⟨rfl, rfl, rfl, by decide +kernel, rfl, by decide +kernel, by decide +kernel⟩
abbrev s_are_times : Stmt := topS 21
abbrev N_are_times : List Str := ["value", "least", "time"]
theorem sc_are_times : FnScope ["value", "least", "time"] ["value"] (defScope s_are_times) := ⟨rfl, rfl, rfl, by decide +kernel, rfl, by decide +kernel, by decide +kernel⟩
abbrev s_refuse_steps : Stmt := topS 22
abbrev N_refuse_steps : List Str := ["steps", "step"]
theorem sc_refuse_steps : FnScope ["steps", "step"] ["steps"] (defScope s_refuse_steps) := ⟨rfl, rfl, rfl, by decide +kernel, rfl, by decide +kernel, by decide +kernel⟩
abbrev s_law_bag : Stmt := topS 24
abbrev N_law_bag : List Str := ["_law_script", "_law_mixed", "_law_cell"]
theorem sc_law_bag : FnScope ["_law_script", "_law_mixed", "_law_cell"] ["_law_script"] (defScope s_law_bag) := ⟨rfl, rfl, rfl, by decide +kernel, rfl, by decide +kernel, by decide +kernel⟩
abbrev s_law_draw : Stmt := topS 25
abbrev N_law_draw : List Str := ["_law_bag_here", "_law_many", "_law_cell", "_law_digit", "_law_seed"]
theorem sc_law_draw : FnScope ["_law_bag_here", "_law_many", "_law_cell", "_law_digit", "_law_seed"] ["_law_bag_here", "_law_many"] (defScope s_law_draw) := ⟨rfl, rfl, rfl, by decide +kernel, rfl, by decide +kernel, by decide +kernel⟩
abbrev s_law_of : Stmt := topS 26
abbrev N_law_of : List Str := ["_law_bag_here", "_law_some"]
theorem sc_law_of : FnScope ["_law_bag_here", "_law_some"] ["_law_bag_here", "_law_some"] (defScope s_law_of) := ⟨rfl, rfl, rfl, by decide +kernel, rfl, by decide +kernel, by decide +kernel⟩
abbrev s_law_same : Stmt := topS 27
abbrev N_law_same : List Str := ["_law_found", "_law_due", "_law_low", "_law_high"]
theorem sc_law_same : FnScope ["_law_found", "_law_due", "_law_low", "_law_high"] ["_law_found", "_law_due"] (defScope s_law_same) := ⟨rfl, rfl, rfl, by decide +kernel, rfl, by decide +kernel, by decide +kernel⟩
abbrev s_law_fields : Stmt := topS 28
abbrev N_law_fields : List Str := ["_law_e"]
theorem sc_law_fields : FnScope ["_law_e"] ["_law_e"] (defScope s_law_fields) := ⟨rfl, rfl, rfl, by decide +kernel, rfl, by decide +kernel, by decide +kernel⟩
abbrev s_law_try : Stmt := topS 29
abbrev N_law_try : List Str := ["_law_ask", "_law_e"]
theorem sc_law_try : FnScope ["_law_ask", "_law_e"] ["_law_ask"] (defScope s_law_try) := ⟨rfl, rfl, rfl, by decide +kernel, rfl, by decide +kernel, by decide +kernel⟩
abbrev s_law_tries : Stmt := topS 30
abbrev N_law_tries : List Str := ["_law_asks", "_law_ask"]
theorem sc_law_tries : FnScope ["_law_asks", "_law_ask"] ["_law_asks"] (defScope s_law_tries) := ⟨rfl, rfl, rfl, by decide +kernel, rfl, by decide +kernel, by decide +kernel⟩
abbrev s_law_words : Stmt := topS 31
abbrev N_law_words : List Str := ["_law_bag_here", "_law_many", "_law_letters", "_law_stem", "_law_k", "_law_at_z", "_law_first", "_law_gap"]
theorem sc_law_words : FnScope ["_law_bag_here", "_law_many", "_law_letters", "_law_stem", "_law_k", "_law_at_z", "_law_first", "_law_gap"] ["_law_bag_here", "_law_many"] (defScope s_law_words) := ⟨rfl, rfl, rfl, by decide +kernel, rfl, by decide +kernel, by decide +kernel⟩
abbrev s_law_odd : Stmt := topS 32
abbrev N_law_odd : List Str := ["_law_bag_here"]
theorem sc_law_odd : FnScope ["_law_bag_here"] ["_law_bag_here"] (defScope s_law_odd) := ⟨rfl, rfl, rfl, by decide +kernel, rfl, by decide +kernel, by decide +kernel⟩
abbrev s_law_rising : Stmt := topS 33
abbrev N_law_rising : List Str := ["_law_bag_here", "_law_many", "_law_found", "_law_now", "_law_k"]
theorem sc_law_rising : FnScope ["_law_bag_here", "_law_many", "_law_found", "_law_now", "_law_k"] ["_law_bag_here", "_law_many"] (defScope s_law_rising) := ⟨rfl, rfl, rfl, by decide +kernel, rfl, by decide +kernel, by decide +kernel⟩
abbrev s_law_step : Stmt := topS 34
abbrev N_law_step : List Str := ["_law_row"]
theorem sc_law_step : FnScope ["_law_row"] ["_law_row"] (defScope s_law_step) := ⟨rfl, rfl, rfl, by decide +kernel, rfl, by decide +kernel, by decide +kernel⟩
abbrev s_law_train : Stmt := topS 35
abbrev N_law_train : List Str := ["_law_car", "_law_word", "_law_size", "_law_rows", "_law_gone", "_law_row"]
theorem sc_law_train : FnScope ["_law_car", "_law_word", "_law_size", "_law_rows", "_law_gone", "_law_row"] ["_law_car"] (defScope s_law_train) := ⟨rfl, rfl, rfl, by decide +kernel, rfl, by decide +kernel, by decide +kernel⟩
abbrev s_law_bad_number : Stmt := topS 36
abbrev N_law_bad_number : List Str := ["_law_bag_here"]
theorem sc_law_bad_number : FnScope ["_law_bag_here"] ["_law_bag_here"] (defScope s_law_bad_number) := ⟨rfl, rfl, rfl, by decide +kernel, rfl, by decide +kernel, by decide +kernel⟩
abbrev s_law_steps_so : Stmt := topS 37
abbrev N_law_steps_so : List Str := ["_law_bag_here", "_law_row", "_law_made", "_law_spans", "_law_again", "_law_told", "_law_base", "_law_late", "_law_rows", "_law_plain", "_law_far"]
theorem sc_law_steps_so : FnScope ["_law_bag_here", "_law_row", "_law_made", "_law_spans", "_law_again", "_law_told", "_law_base", "_law_late", "_law_rows", "_law_plain", "_law_far"] ["_law_bag_here", "_law_row"] (defScope s_law_steps_so) := ⟨rfl, rfl, rfl, by decide +kernel, rfl, by decide +kernel, by decide +kernel⟩
abbrev s_law_trains_so : Stmt := topS 39
abbrev N_law_trains_so : List Str := ["_law_bag_here", "_law_car", "_law_rows", "_law_again", "_law_told", "_law_shown", "_law_far", "_law_more", "_law_same_here", "_law_found", "_law_size", "_law_gap", "_law_made", "_law_odd_here", "_law_row", "_law_k", "_law_one_z"]
theorem sc_law_trains_so : FnScope ["_law_bag_here", "_law_car", "_law_rows", "_law_again", "_law_told", "_law_shown", "_law_far", "_law_more", "_law_same_here", "_law_found", "_law_size", "_law_gap", "_law_made", "_law_odd_here", "_law_row", "_law_k", "_law_one_z"] ["_law_bag_here", "_law_car"] (defScope s_law_trains_so) := ⟨rfl, rfl, rfl, by decide +kernel, rfl, by decide +kernel, by decide +kernel⟩
abbrev s_law_steps_refused_so : Stmt := topS 38
abbrev N_law_steps_refused_so : List Str := ["_law_bag_here", "_law_word", "_law_asks", "_law_due", "_law_bad", "_law_late", "_law_odd_here", "_law_wrong"]
theorem sc_law_steps_refused_so : FnScope ["_law_bag_here", "_law_word", "_law_asks", "_law_due", "_law_bad", "_law_late", "_law_odd_here", "_law_wrong"] ["_law_bag_here", "_law_word"] (defScope s_law_steps_refused_so) := ⟨rfl, rfl, rfl, by decide +kernel, rfl, by decide +kernel, by decide +kernel⟩
abbrev s_law_trains_refused_so : Stmt := topS 40
abbrev N_law_trains_refused_so : List Str := ["_law_bag_here", "_law_word", "_law_row", "_law_late", "_law_asks", "_law_due", "_law_bad", "_law_gone", "_law_odd_here", "_law_s", "_law_strange"]
theorem sc_law_trains_refused_so : FnScope ["_law_bag_here", "_law_word", "_law_row", "_law_late", "_law_asks", "_law_due", "_law_bad", "_law_gone", "_law_odd_here", "_law_s", "_law_strange"] ["_law_bag_here", "_law_word", "_law_row"] (defScope s_law_trains_refused_so) := ⟨rfl, rfl, rfl, by decide +kernel, rfl, by decide +kernel, by decide +kernel⟩
abbrev s_law : Stmt := topS 41
abbrev N_law : List Str := ["_law_script", "_law_bag_here", "_law_turn", "_law_words_here", "_law_legs", "_law_k", "_law_shown", "_law_car", "_law_far", "_law_told", "_law_row"]
theorem sc_law : FnScope ["_law_script", "_law_bag_here", "_law_turn", "_law_words_here", "_law_legs", "_law_k", "_law_shown", "_law_car", "_law_far", "_law_told", "_law_row"] ["_law_script"] (defScope s_law) := ⟨rfl, rfl, rfl, by decide +kernel, rfl, by decide +kernel, by decide +kernel⟩
abbrev s_ms_init : Stmt := inS 19 0
abbrev N_ms_init : List Str := ["self", "route", "times", "stop", "public"]
theorem sc_ms_init : FnScope ["self", "route", "times", "stop", "public"] ["self", "route", "times", "stop", "public"] (defScope s_ms_init) := ⟨rfl, rfl, rfl, by decide +kernel, rfl, by decide +kernel, by decide +kernel⟩
abbrev s_ms_times : Stmt := inS 19 1
abbrev N_ms_times : List Str := ["self"]
theorem sc_ms_times : FnScope ["self"] ["self"] (defScope s_ms_times) := ⟨rfl, rfl, rfl, by decide +kernel, rfl, by decide +kernel, by decide +kernel⟩
abbrev s_ms_arrival : Stmt := inS 19 2
abbrev N_ms_arrival : List Str := ["self"]
theorem sc_ms_arrival : FnScope ["self"] ["self"] (defScope s_ms_arrival) := ⟨rfl, rfl, rfl, by decide +kernel, rfl, by decide +kernel, by decide +kernel⟩
abbrev s_ms_base : Stmt := inS 19 3
abbrev N_ms_base : List Str := ["self"]
theorem sc_ms_base : FnScope ["self"] ["self"] (defScope s_ms_base) := ⟨rfl, rfl, rfl, by decide +kernel, rfl, by decide +kernel, by decide +kernel⟩
abbrev s_ms_eq : Stmt := inS 19 4
abbrev N_ms_eq : List Str := ["self", "other"]
theorem sc_ms_eq : FnScope ["self", "other"] ["self", "other"] (defScope s_ms_eq) := ⟨rfl, rfl, rfl, by decide +kernel, rfl, by decide +kernel, by decide +kernel⟩
abbrev s_ms_repr : Stmt := inS 19 5
abbrev N_ms_repr : List Str := ["self"]
theorem sc_ms_repr : FnScope ["self"] ["self"] (defScope s_ms_repr) := ⟨rfl, rfl, rfl, by decide +kernel, rfl, by decide +kernel, by decide +kernel⟩
abbrev s_mt_init : Stmt := inS 20 2
abbrev N_mt_init : List Str := ["self", "name", "length", "out", "steps"]
theorem sc_mt_init : FnScope ["self", "name", "length", "out", "steps"] ["self", "name", "length", "out", "steps"] (defScope s_mt_init) := ⟨rfl, rfl, rfl, by decide +kernel, rfl, by decide +kernel, by decide +kernel⟩
abbrev s_mt_steps : Stmt := inS 20 3
abbrev N_mt_steps : List Str := ["self"]
theorem sc_mt_steps : FnScope ["self"] ["self"] (defScope s_mt_steps) := ⟨rfl, rfl, rfl, by decide +kernel, rfl, by decide +kernel, by decide +kernel⟩
abbrev s_mt_longer : Stmt := inS 20 4
abbrev N_mt_longer : List Str := ["self", "by"]
theorem sc_mt_longer : FnScope ["self", "by"] ["self", "by"] (defScope s_mt_longer) := ⟨rfl, rfl, rfl, by decide +kernel, rfl, by decide +kernel, by decide +kernel⟩
abbrev s_mt_getitem : Stmt := inS 20 5
abbrev N_mt_getitem : List Str := ["self", "at"]
theorem sc_mt_getitem : FnScope ["self", "at"] ["self", "at"] (defScope s_mt_getitem) := ⟨rfl, rfl, rfl, by decide +kernel, rfl, by decide +kernel, by decide +kernel⟩
abbrev s_mt_len : Stmt := inS 20 7
abbrev N_mt_len : List Str := ["self"]
theorem sc_mt_len : FnScope ["self"] ["self"] (defScope s_mt_len) := ⟨rfl, rfl, rfl, by decide +kernel, rfl, by decide +kernel, by decide +kernel⟩
abbrev s_mt_bool : Stmt := inS 20 8
abbrev N_mt_bool : List Str := ["self"]
theorem sc_mt_bool : FnScope ["self"] ["self"] (defScope s_mt_bool) := ⟨rfl, rfl, rfl, by decide +kernel, rfl, by decide +kernel, by decide +kernel⟩
abbrev s_mt_eq : Stmt := inS 20 9
abbrev N_mt_eq : List Str := ["self", "other"]
theorem sc_mt_eq : FnScope ["self", "other"] ["self", "other"] (defScope s_mt_eq) := ⟨rfl, rfl, rfl, by decide +kernel, rfl, by decide +kernel, by decide +kernel⟩
abbrev s_mt_repr : Stmt := inS 20 10
abbrev N_mt_repr : List Str := ["self"]
theorem sc_mt_repr : FnScope ["self"] ["self"] (defScope s_mt_repr) := ⟨rfl, rfl, rfl, by decide +kernel, rfl, by decide +kernel, by decide +kernel⟩
theorem sc_i_InvalidName : FnScope ["self", "value"] ["self", "value"] (defScope (inS 2 0)) := ⟨rfl, rfl, rfl, by decide +kernel, rfl, by decide +kernel, by decide +kernel⟩
theorem sc_i_InvalidNumber : FnScope ["self", "value"] ["self", "value"] (defScope (inS 3 0)) := ⟨rfl, rfl, rfl, by decide +kernel, rfl, by decide +kernel, by decide +kernel⟩
theorem sc_i_InvalidTimes : FnScope ["self", "value"] ["self", "value"] (defScope (inS 4 0)) := ⟨rfl, rfl, rfl, by decide +kernel, rfl, by decide +kernel, by decide +kernel⟩
theorem sc_i_InvalidStep : FnScope ["self", "value"] ["self", "value"] (defScope (inS 5 0)) := ⟨rfl, rfl, rfl, by decide +kernel, rfl, by decide +kernel, by decide +kernel⟩
theorem sc_i_TooMany : FnScope ["self", "subject", "most"] ["self", "subject", "most"] (defScope (inS 6 0)) := ⟨rfl, rfl, rfl, by decide +kernel, rfl, by decide +kernel, by decide +kernel⟩
theorem sc_i_UnknownEntry : FnScope ["self", "entry"] ["self", "entry"] (defScope (inS 8 0)) := ⟨rfl, rfl, rfl, by decide +kernel, rfl, by decide +kernel, by decide +kernel⟩
/-- an own exception class with an own __init__ -/
structure DX (K : PySem.W.Frag) (mg : Str → Option Value) (x qual : Str) (st : Stmt) (ps nm : List Str) (B newId initId : String) (bmB : List Value) where
  C : Addr
  f : Addr
  fd : FuncData
  g : mg x = some (.ref C)
  T : XC K C B newId initId bmB
  iC : PySem.W.findIn K (.ref C) "__init__" = some (some (.ref f))
  tI : PySem.W.typeIn K (.ref f) = some (.type "function")
  F : Fun K "__init__" qual st f fd
  b : Binds K fd ps []
  xf : XF K C
  no : ∀ n, nm.contains n = true → PySem.W.findIn K (.ref C) n = some none
  ty : PySem.W.typeIn K (.ref C) = some (.type "type")
/-- a class with own instances -/
structure ClsD (K : PySem.W.Frag) (C init : Addr) (fs : List Str) : Prop where
  cls : Cls K C
  made : Mk K C init
  no : ∀ f, fs.contains f = true → NoAttr K C f
  ha : PySem.W.findIn K (.ref C) "__class__" = some (some (.builtin "object.__class__"))
  mo : PySem.W.mroIn K C (.type "object") = some true
  nt : ∀ t, ["NoneType", "str", "int", "bool", "tuple", "list"].contains t = true → PySem.W.notFirst K C (.type t) = true
  self : PySem.W.notFirst K C (.ref C) = true
  is : PySem.W.kitOne K (.ref C) (.ref C) = some true
  nis : ∀ t, ["NoneType", "str", "int", "bool", "tuple", "list"].contains t = true → PySem.W.kitOne K (.type t) (.ref C) = some false
  ne : PySem.W.findIn K (.ref C) "__ne__" = some (some (.builtin "object.__ne__"))
structure MD0 (K : PySem.W.Frag) (m qual : Str) (st : Stmt) (ps : List Str) where
  f : Addr
  fd : FuncData
  F : Fun K m qual st f fd
  b : Binds K fd ps []
structure MD (K : PySem.W.Frag) (C : Addr) (m qual : Str) (st : Stmt) (ps : List Str) extends MD0 K m qual st ps where
  M : MethF K (fun D => D = C) m f
/-- a property: its record, its def -/
structure PD (K : PySem.W.Frag) (C : Addr) (m qual : Str) (st : Stmt) (ps : List Str) extends MD0 K m qual st ps where
  p : Addr
  P : PropOf K C m p f
/-- a def with keyword-only parameters -/
structure KD (K : PySem.W.Frag) (m qual : Str) (st : Stmt) (kws : List (Str × V)) where
  f : Addr
  fd : FuncData
  F : FunD K m qual (defArgs st) (defBody st) (defScope st) [] kws f fd
structure Txt (K : PySem.W.Frag) (mg : Str → Option Value) where
  z_abs : mg "abs" = none
  z_all : mg "all" = none
  z_bool : mg "bool" = none
  z_int : mg "int" = none
  z_isinstance : mg "isinstance" = none
  z_len : mg "len" = none
  z_list : mg "list" = none
  z_range : mg "range" = none
  z_repr : mg "repr" = none
  z_str : mg "str" = none
  z_tuple : mg "tuple" = none
  z_zip : mg "zip" = none
  d_is_name : Def K mg "is_name" s_is_name ["value"]
  d_is_integer : Def K mg "is_integer" s_is_integer ["value"]
  d_is_number : Def K mg "is_number" s_is_number ["value", "least", "most"]
  d_are_times : Def K mg "are_times" s_are_times ["value"]
  d_refuse_steps : Def K mg "refuse_steps" s_refuse_steps ["steps"]
  d__law_bag : Def K mg "_law_bag" s_law_bag ["_law_script"]
  d__law_draw : Def K mg "_law_draw" s_law_draw ["_law_bag_here", "_law_many"]
  d__law_of : Def K mg "_law_of" s_law_of ["_law_bag_here", "_law_some"]
  d__law_same : Def K mg "_law_same" s_law_same ["_law_found", "_law_due"]
  d__law_fields : Def K mg "_law_fields" s_law_fields ["_law_e"]
  d__law_try : Def K mg "_law_try" s_law_try ["_law_ask"]
  d__law_tries : Def K mg "_law_tries" s_law_tries ["_law_asks"]
  d__law_words : Def K mg "_law_words" s_law_words ["_law_bag_here", "_law_many"]
  d__law_odd : Def K mg "_law_odd" s_law_odd ["_law_bag_here"]
  d__law_rising : Def K mg "_law_rising" s_law_rising ["_law_bag_here", "_law_many"]
  d__law_step : Def K mg "_law_step" s_law_step ["_law_row"]
  d__law_train : Def K mg "_law_train" s_law_train ["_law_car"]
  d__law_bad_number : Def K mg "_law_bad_number" s_law_bad_number ["_law_bag_here"]
  d__law_steps_so : Def K mg "_law_steps_so" s_law_steps_so ["_law_bag_here", "_law_row"]
  d__law_trains_so : Def K mg "_law_trains_so" s_law_trains_so ["_law_bag_here", "_law_car"]
  d__law_steps_refused_so : Def K mg "_law_steps_refused_so" s_law_steps_refused_so ["_law_bag_here", "_law_word"]
  d__law_trains_refused_so : Def K mg "_law_trains_refused_so" s_law_trains_refused_so ["_law_bag_here", "_law_word", "_law_row"]
  d_law : Def K mg "law" s_law ["_law_script"]
  tL : Tok
  c_LETTERS : mg "LETTERS" = some (.str "abcdefghijklmnopqrstuvwxyz" tL)
  tM : Tok
  c_MOST_LETTERS : mg "MOST_LETTERS" = some (.int 6 tM)
  tT : Tok
  c_MOST_TIME : mg "MOST_TIME" = some (.int 1000000 tT)
  tS : Tok
  c_MOST_TIMES : mg "MOST_TIMES" = some (.int 24 tS)
  x_InvalidName : DX K mg "InvalidName" "InvalidName.__init__" (inS 2 0) ["self", "value"] ["value", "code"] "ValueError" "ValueError.__new__" "ValueError.__init__" [.type "ValueError", .type "Exception", .type "BaseException", .type "object"]
  x_InvalidNumber : DX K mg "InvalidNumber" "InvalidNumber.__init__" (inS 3 0) ["self", "value"] ["value", "code"] "ValueError" "ValueError.__new__" "ValueError.__init__" [.type "ValueError", .type "Exception", .type "BaseException", .type "object"]
  x_InvalidTimes : DX K mg "InvalidTimes" "InvalidTimes.__init__" (inS 4 0) ["self", "value"] ["value", "code"] "ValueError" "ValueError.__new__" "ValueError.__init__" [.type "ValueError", .type "Exception", .type "BaseException", .type "object"]
  x_InvalidStep : DX K mg "InvalidStep" "InvalidStep.__init__" (inS 5 0) ["self", "value"] ["value", "code"] "ValueError" "ValueError.__new__" "ValueError.__init__" [.type "ValueError", .type "Exception", .type "BaseException", .type "object"]
  x_TooMany : DX K mg "TooMany" "TooMany.__init__" (inS 6 0) ["self", "subject", "most"] ["subject", "most", "code"] "ValueError" "ValueError.__new__" "ValueError.__init__" [.type "ValueError", .type "Exception", .type "BaseException", .type "object"]
  x_UnknownEntry : DX K mg "UnknownEntry" "UnknownEntry.__init__" (inS 8 0) ["self", "entry"] ["entry", "code"] "LookupError" "LookupError.__new__" "LookupError.__init__" [.type "LookupError", .type "Exception", .type "BaseException", .type "object"]
  aDayError : Addr
  c_DayError : mg "DayError" = some (.ref aDayError)
  aMissing : Addr
  c_Missing : mg "Missing" = some (.ref aMissing)
  aNothingLeft : Addr
  c_NothingLeft : mg "NothingLeft" = some (.ref aNothingLeft)
  aStep : Addr
  c_Step : mg "Step" = some (.ref aStep)
  aTrain : Addr
  c_Train : mg "Train" = some (.ref aTrain)
  ms_init : KD K "__init__" "Step.__init__" s_ms_init [("stop", .int 0), ("public", .non)]
  mt_init : KD K "__init__" "Train.__init__" s_mt_init [("out", .int 1)]
  kStep : ClsD K aStep ms_init.f ["route", "stop", "public", "_times"]
  kTrain : ClsD K aTrain mt_init.f ["name", "length", "out", "_steps"]
  cvTrain : ∃ mc, ClX.CRead K aTrain mc ∧ (∃ u, ClX.CVal K aTrain mc "STEPS" (.int 6) u) ∧ ∃ u, ClX.CVal K aTrain mc "LENGTH" (.int 60) u
  ms_times : MD K aStep "times" "Step.times" s_ms_times ["self"]
  ms_arrival : PD K aStep "arrival" "Step.arrival" s_ms_arrival ["self"]
  ms_base : PD K aStep "base" "Step.base" s_ms_base ["self"]
  ms_eq : MD K aStep "__eq__" "Step.__eq__" s_ms_eq ["self", "other"]
  ms_repr : MD K aStep "__repr__" "Step.__repr__" s_ms_repr ["self"]
  mt_steps : MD K aTrain "steps" "Train.steps" s_mt_steps ["self"]
  mt_longer : MD K aTrain "longer" "Train.longer" s_mt_longer ["self", "by"]
  mt_getitem : MD K aTrain "__getitem__" "Train.__getitem__" s_mt_getitem ["self", "at"]
  mt_len : MD K aTrain "__len__" "Train.__len__" s_mt_len ["self"]
  mt_bool : MD K aTrain "__bool__" "Train.__bool__" s_mt_bool ["self"]
  mt_eq : MD K aTrain "__eq__" "Train.__eq__" s_mt_eq ["self", "other"]
  mt_repr : MD K aTrain "__repr__" "Train.__repr__" s_mt_repr ["self"]
  hn : PySem.W.specialIn K (.builtin "object.__class__") "__get__" = some (some (.builtin "getset_descriptor.__get__"))
  htk : PySem.W.takesIn K (.builtin "object.__class__") = some true
  getF : PySem.W.fnIn K mt_getitem.f = true
  ex_InvalidName : ∃ b, PySem.W.exmAny K (.ref x_InvalidName.C) [.ref aDayError, .ref aMissing, .ref aNothingLeft] = some b ∧ b = true
  ex_InvalidNumber : ∃ b, PySem.W.exmAny K (.ref x_InvalidNumber.C) [.ref aDayError, .ref aMissing, .ref aNothingLeft] = some b ∧ b = true
  ex_InvalidTimes : ∃ b, PySem.W.exmAny K (.ref x_InvalidTimes.C) [.ref aDayError, .ref aMissing, .ref aNothingLeft] = some b ∧ b = true
  ex_InvalidStep : ∃ b, PySem.W.exmAny K (.ref x_InvalidStep.C) [.ref aDayError, .ref aMissing, .ref aNothingLeft] = some b ∧ b = true
  ex_TooMany : ∃ b, PySem.W.exmAny K (.ref x_TooMany.C) [.ref aDayError, .ref aMissing, .ref aNothingLeft] = some b ∧ b = true
  ex_UnknownEntry : ∃ b, PySem.W.exmAny K (.ref x_UnknownEntry.C) [.ref aDayError, .ref aMissing, .ref aNothingLeft] = some b ∧ b = true
section
variable {K : PySem.W.Frag} {mg : Str → Option Value} (T : Txt K mg)
abbrev Txt.sS : Addr → Prop := fun D => D = T.aStep
abbrev Txt.sT : Addr → Prop := fun D => D = T.aTrain
theorem Txt.famStep : Fam K T.sS := ⟨fun _ h => h ▸ T.kStep.cls, fun _ h => h ▸ T.kStep.mo⟩
theorem Txt.famTrain : Fam K T.sT := ⟨fun _ h => h ▸ T.kTrain.cls, fun _ h => h ▸ T.kTrain.mo⟩
theorem Txt.eqStep : EqF K T.sS T.ms_eq.f := ⟨fun C h => (T.ms_eq.M C h).at_, fun _ h => h ▸ T.kStep.ne, (T.ms_eq.M _ rfl).fn⟩
theorem Txt.eqTrain : EqF K T.sT T.mt_eq.f := ⟨fun C h => (T.mt_eq.M C h).at_, fun _ h => h ▸ T.kTrain.ne, (T.mt_eq.M _ rfl).fn⟩
theorem Txt.insS {H : Hp} {a d : Addr} {fs : List (Str × V)} (e : H a = some (.ins T.aStep d fs)) : TyX K H (.ref a) (.ref T.aStep) := .base (.ins e T.kStep.cls T.kStep.ha T.hn T.htk T.kStep.mo)
theorem Txt.insT {H : Hp} {a d : Addr} {fs : List (Str × V)} (e : H a = some (.ins T.aTrain d fs)) : TyX K H (.ref a) (.ref T.aTrain) := .base (.ins e T.kTrain.cls T.kTrain.ha T.hn T.htk T.kTrain.mo)
end
def bl (c : Addr) (i r m n : Int) : HO := .lst [.ref c, .int i, .int r, .int m, .int n]
section
variable {P : Program} {w : World} {K : PySem.W.Frag} {mg : Str → Option Value} {base : Heap}
def spDraw : Sp := fun vs H Q _ => ∃ (b : Addr) (k : Int), vs = [.ref b, .int k] ∧ Bag H b ∧ 0 < k ∧ k < 1000000 ∧
  ∀ d H', Go b H H' → 0 ≤ d → d < k → Q (.int d) H'
theorem at0 {α : Type} {x : α} {r : List α} : atI (x :: r) 0 = some x := atI_nat (j := 0) rfl
theorem ok_law_draw (T : Txt K mg) : FnOk P w K mg base CX0 1 T.d__law_draw.f T.d__law_draw.fd ["_law_bag_here", "_law_many"] spDraw := by
  refine T.d__law_draw.F.ok sc_law_draw (fun vs H Q E h => ?_) (fun cdv A outer s H vs Q E hr h => ?_)
  · obtain ⟨b, k, rfl, _⟩ := h
    rfl
  · obtain ⟨b, k, rfl, hB, k0, k1, q⟩ := h
    refine ⟨_, (pss_cut (ps_asg (pe_op op_add (pe_ix ix_list (pv 0) pe_int (fun _ _ => rfl)) pe_int) (pg_sub (pv 0) pe_int set_list))
      (pss_cut (ps_if (PW.pt (pw_and (pt_cmpR op_eq (pe_ix ix_list (pv 0) pe_int (fun _ _ => rfl)) pe_int (nomark _)) (pw_and1 (pt_cmpR op_lt (pe_ix ix_list (pv 0) pe_int (fun _ _ => rfl)) (pe_callB call_len_seq (by rfl) T.z_len (by decide +kernel) (pa_cons (pe_ix ix_list (pv 0) pe_int (fun _ _ => rfl)) pa_nil)) (nomark _))))) (pss_cons (ps_set (i := 2) sc_law_draw.nd rfl (Or.inl rfl) (pe_callB call_abs (by rfl) T.z_abs (by decide +kernel) (pa_cons (pe_ix ix_list (pe_ix ix_list (pv 0) pe_int (fun _ _ => rfl)) (pe_ix ix_list (pv 0) pe_int (fun _ _ => rfl)) (fun _ _ => rfl)) pa_nil)))
      (pss_cons (ps_asg (pe_op op_add (pe_ix ix_list (pv 0) pe_int (fun _ _ => rfl)) pe_int) (pg_sub (pv 0) pe_int set_list))
      (pss_one (ps_if (pt_cmpR op_ge (pv 2) (pe_op op_pow pe_int pe_int) (nomark _)) (pss_one (ps_asg (pv 2) (pg_sub (pv 0) pe_int set_list))) (pss_one (ps_asg (pe_op op_mod (pe_callTy call_int1 (by rfl) T.z_int (by decide +kernel) (pa_cons (pe_op op_add (pe_op op_add (pe_op op_mul (pe_ix ix_list (pv 0) pe_int (fun _ _ => rfl)) pe_int) (pe_op op_mul (pe_op op_mod (pe_callTy call_int1 (by rfl) T.z_int (by decide +kernel) (pa_cons (pv 2) pa_nil)) pe_int) pe_int)) pe_int) pa_nil)) pe_int) (pg_sub (pv 0) pe_int set_list))))))) pss_nil)
      (pss_cut (ps_if (pt_cmpR op_gt (pe_ix ix_list (pv 0) pe_int (fun _ _ => rfl)) pe_int (nomark _)) (pss_cons (ps_set (i := 3) sc_law_draw.nd rfl (Or.inl rfl) (pe_op op_mod (pe_callTy call_int1 (by rfl) T.z_int (by decide +kernel) (pa_cons (pe_ix ix_list (pv 0) pe_int (fun _ _ => rfl)) pa_nil)) (pv 1)))
      (pss_cons (ps_asg (pe_op op_fdiv (pe_ix ix_list (pv 0) pe_int (fun _ _ => rfl)) (pv 1)) (pg_sub (pv 0) pe_int set_list))
      (pss_one (ps_ret (pv 3))))) pss_nil)
      (pss_cons (ps_set (i := 4) sc_law_draw.nd rfl (Or.inl rfl) (pe_op op_mod (pe_callTy call_int1 (by rfl) T.z_int (by decide +kernel) (pa_cons (pe_op op_add (pe_op op_mul (pe_ix ix_list (pv 0) pe_int (fun _ _ => rfl)) (pe_ix ix_list (pv 0) pe_int (fun _ _ => rfl))) (pe_op op_mul (pe_ix ix_list (pv 0) pe_int (fun _ _ => rfl)) pe_int)) pa_nil)) pe_int))
      (pss_cons (ps_asg (pe_op op_mod (pe_callTy call_int1 (by rfl) T.z_int (by decide +kernel) (pa_cons (pe_op op_add (pe_op op_add (pe_op op_mul (pv 4) pe_int) (pe_op op_mul (pe_ix ix_list (pv 0) pe_int (fun _ _ => rfl)) pe_int)) pe_int) pa_nil)) pe_int) (pg_sub (pv 0) pe_int set_list))
      (pss_one (ps_ret (pe_op op_mod (pe_callTy call_int1 (by rfl) T.z_int (by decide +kernel) (pa_cons (pe_op op_add (pe_op op_fdiv (pe_ix ix_list (pv 0) pe_int (fun _ _ => rfl)) pe_int) (pe_op op_mul (pe_op op_mod (pe_callTy call_int1 (by rfl) T.z_int (by decide +kernel) (pa_cons (pe_ix ix_list (pv 0) pe_int (fun _ _ => rfl)) pa_nil)) pe_int) pe_int)) pa_nil)) (pv 1))))))))), ?_⟩
    obtain ⟨c, ns, i, r, m, n, hb, hc, ec, i0, r0, m0, m1⟩ := hB
    have hcb : ∀ o, (upd H b o) c = some (.lst (ns.map V.int)) := fun o => by rw [upd_ne hc]; exact ec
    refine ⟨fun σ H' => σ = [some (.ref b), some (.int k), none, none, none] ∧ H' = upd H b (bl c i r m (n + 1)), ?_, ?_⟩
    · refine ⟨.ref b, rfl, b, _, 4, .int n, rfl, rfl, SqL.of hb, atI_nat (j := 4) rfl, n, 1, rfl, rfl, .ref b, rfl, b, _, 4, 4, rfl, rfl, hb, rfl, rfl, rfl⟩
    rintro σ H' ⟨rfl, rfl⟩
    refine ⟨fun σ H' => ∃ v i r m n, σ = [some (.ref b), some (.int k), v, none, none] ∧ H' = upd H b (bl c i r m n) ∧ 0 ≤ i ∧ 0 ≤ r ∧ 0 ≤ m ∧ m < 2147483587, ?_, ?_⟩
    · refine ⟨.ref b, rfl, b, _, 2, .int r, rfl, rfl, SqL.of upd_same, atI_nat (j := 2) rfl, rfl, _, rfl, ite2 (fun e => ?_) (fun e => ?_)⟩
      · refine ⟨.ref b, rfl, b, _, 1, .int i, rfl, rfl, SqL.of upd_same, atI_nat (j := 1) rfl, .ref b, rfl, b, _, 0, .ref c, rfl, rfl, SqL.of upd_same, atI_nat (j := 0) rfl, c, _, rfl, .inl (SqL.of (hcb _)), i, _, rfl, rfl, _, rfl, ite2 (fun e2 => ?_) (fun e2 => ?_)⟩
        · have hi : i < ns.length := by
            have := of_decide_eq_true e2
            rw [List.length_map] at this
            exact this
          obtain ⟨x, hx⟩ : ∃ x, (ns.map V.int)[i.toNat]? = some (.int x) := by
            have hj : i.toNat < ns.length := by omega
            exact ⟨ns[i.toNat], by rw [List.getElem?_map, List.getElem?_eq_getElem hj]; rfl⟩
          have ha : atI (ns.map V.int) i = some (.int x) := by
            have := atI_nat hx
            rwa [Int.toNat_of_nonneg i0] at this
          refine ⟨.ref b, rfl, b, _, 0, .ref c, rfl, rfl, SqL.of upd_same, atI_nat (j := 0) rfl, .ref b, rfl, b, _, 1, .int i, rfl, rfl, SqL.of upd_same, atI_nat (j := 1) rfl, c, _, i, .int x, rfl, rfl, SqL.of (hcb _), ha, x, rfl, ?_⟩
          generalize ey : (if x < 0 then -x else x) = y
          have y0 : 0 ≤ y := by rw [← ey]; split <;> omega
          refine ⟨.ref b, rfl, b, _, 1, .int i, rfl, rfl, SqL.of upd_same, atI_nat (j := 1) rfl, i, 1, rfl, rfl, .ref b, rfl, b, _, 1, 1, rfl, rfl, upd_same, rfl, ?_⟩
          rw [upd_upd]
          refine ⟨.int y, rfl, 10, 18, rfl, rfl, ⟨by decide, by decide, by decide⟩, y, _, rfl, rfl, _, rfl, ite2 (fun e3 => ?_) (fun e3 => ?_)⟩
          · refine ⟨.int y, rfl, .ref b, rfl, b, _, 2, 2, rfl, rfl, upd_same, rfl, ?_⟩
            rw [upd_upd]
            exact ⟨_, i + 1, y, m, n + 1, rfl, rfl, by omega, y0, m0, m1⟩
          · refine ⟨.ref b, rfl, b, _, 3, .int m, rfl, rfl, SqL.of upd_same, atI_nat (j := 3) rfl, m, _, rfl, rfl, .inr ⟨by decide, by decide⟩, .int y, rfl, .inl ⟨y, rfl, y, _, rfl, rfl, (by show (0 : Int) < 1000033; decide), _, _, rfl, rfl, .inr ⟨by decide, by decide⟩, _, _, rfl, rfl, _, _, rfl, rfl, .inl ⟨_, rfl, ?_⟩⟩⟩
            refine ⟨_, _, rfl, rfl, (by show (0 : Int) < 2147483587; decide), .ref b, rfl, b, _, 3, 3, rfl, rfl, upd_same, rfl, ?_⟩
            rw [upd_upd]
            exact ⟨_, i + 1, r, _, n + 1, rfl, rfl, by omega, r0, Int.emod_nonneg _ (by decide), Int.emod_lt_of_pos _ (by decide)⟩
        · exact ⟨none, i, r, m, n + 1, rfl, rfl, i0, r0, m0, m1⟩
      · exact iteF ⟨none, i, r, m, n + 1, rfl, rfl, i0, r0, m0, m1⟩
    rintro σ H' ⟨v, i, r, m, n, rfl, rfl, i0, r0, m0, m1⟩
    have fin : ∀ i r m n : Int, 0 ≤ i → 0 ≤ r → 0 ≤ m → m < 2147483587 → Go b H (upd H b (bl c i r m n)) := fun i r m n i0 r0 m0 m1 =>
      ⟨⟨c, ns, i, r, m, n, upd_same, hc, hcb _, i0, r0, m0, m1⟩, fun a o na e => by rw [upd_ne na]; exact e, fun c2 h2 => by
        obtain ⟨r2, e2⟩ := h2
        rw [hb] at e2
        cases e2
        exact ⟨_, upd_same⟩⟩
    refine ⟨fun σ H' => σ = [some (.ref b), some (.int k), v, none, none] ∧ H' = upd H b (bl c i r m n), ?_, ?_⟩
    · refine ⟨.ref b, rfl, b, _, 2, .int r, rfl, rfl, SqL.of upd_same, atI_nat (j := 2) rfl, r, _, rfl, rfl, _, rfl, ite2 (fun e => ?_) (fun e => ?_)⟩
      · refine ⟨.ref b, rfl, b, _, 2, .int r, rfl, rfl, SqL.of upd_same, atI_nat (j := 2) rfl, .inl ⟨r, rfl, .int k, rfl, r, k, rfl, rfl, k0, ?_⟩⟩
        refine ⟨.ref b, rfl, b, _, 2, .int r, rfl, rfl, SqL.of upd_same, atI_nat (j := 2) rfl, .int k, rfl, r, k, rfl, rfl, ⟨k0, by omega⟩, .ref b, rfl, b, _, 2, 2, rfl, rfl, upd_same, rfl, ?_⟩
        rw [upd_upd]
        refine ⟨_, rfl, ?_⟩
        exact q _ _ (fin i (r / k) m n i0 (Int.ediv_nonneg r0 (by omega)) m0 m1) (Int.emod_nonneg _ (by omega)) (Int.emod_lt_of_pos _ k0)
      · exact ⟨rfl, rfl⟩
    rintro σ H' ⟨rfl, rfl⟩
    refine ⟨.ref b, rfl, b, _, 3, .int m, rfl, rfl, SqL.of upd_same, atI_nat (j := 3) rfl, .ref b, rfl, b, _, 3, .int m, rfl, rfl, SqL.of upd_same, atI_nat (j := 3) rfl, m, m, rfl, rfl, .inl ⟨by omega, by omega⟩, .ref b, rfl, b, _, 4, .int n, rfl, rfl, SqL.of upd_same, atI_nat (j := 4) rfl, n, _, rfl, rfl, .inr ⟨by decide, by decide⟩, _, _, rfl, rfl, .inl ⟨_, rfl, _, _, rfl, rfl, (by show (0 : Int) < 2147483629; decide), ?_⟩⟩
    dsimp only
    generalize ez : (m * m + n * 10331) % 2147483629 = z
    have z0 : 0 ≤ z := by rw [← ez]; exact Int.emod_nonneg _ (by decide)
    have z1 : z < 2147483629 := by rw [← ez]; exact Int.emod_lt_of_pos _ (by decide)
    refine ⟨.int z, rfl, z, _, rfl, rfl, .inr ⟨by decide, by decide⟩, .ref b, rfl, b, _, 3, .int m, rfl, rfl, SqL.of upd_same, atI_nat (j := 3) rfl, m, _, rfl, rfl, .inr ⟨by decide, by decide⟩, _, _, rfl, rfl, _, _, rfl, rfl, .inl ⟨_, rfl, _, _, rfl, rfl, (by show (0 : Int) < 2147483587; decide), .ref b, rfl, b, _, 3, 3, rfl, rfl, upd_same, rfl, ?_⟩⟩
    rw [upd_upd]
    dsimp only
    generalize ey : (z * 19319 + m * 43037 + 70019) % 2147483587 = y
    have y0 : 0 ≤ y := by rw [← ey]; exact Int.emod_nonneg _ (by decide)
    have y1 : y < 2147483587 := by rw [← ey]; exact Int.emod_lt_of_pos _ (by decide)
    refine ⟨.ref b, rfl, b, _, 3, .int y, rfl, rfl, SqL.of upd_same, atI_nat (j := 3) rfl, y, _, rfl, rfl, ⟨by decide, by decide⟩, .ref b, rfl, b, _, 3, .int y, rfl, rfl, SqL.of upd_same, atI_nat (j := 3) rfl, .inl ⟨y, rfl, y, _, rfl, rfl, (by show (0 : Int) < 7919; decide), _, _, rfl, rfl, .inr ⟨by decide, by decide⟩, _, _, rfl, rfl, .inl ⟨_, rfl, .int k, rfl, _, k, rfl, rfl, k0, ?_⟩⟩⟩
    exact q _ _ (fin i r y n i0 r0 y0 y1) (Int.emod_nonneg _ (by omega)) (Int.emod_lt_of_pos _ k0)
end
end Rd
set_option maxHeartbeats 2000000
namespace Rd
open PySem PySem.Spec PyProof.Rows L2
open C8 (pss_cut tCut)
section
variable {P : Program} {w : World} {K : PySem.W.Frag} {mg : Str → Option Value} {base : Heap}
theorem same_new {H : Hp} {p : Addr} {o : HO} (h : H p = none) : Same H (upd H p o) := fun b x e => by
  rw [upd_ne (ne_of_none e h)]
  exact e
theorem ints_at {ns : List Int} {i : Nat} {y : V} (h : (ns.map V.int)[i]? = some y) : ∃ z, y = V.int z := by
  rw [List.getElem?_map] at h
  cases e : ns[i]? with
  | none => rw [e] at h; cases h
  | some z => rw [e] at h; exact ⟨z, (Option.some.inj h).symm⟩
theorem cut63 (ns : List Int) (h : ns.length ≤ 63) : cutV (ns.map V.int) none (some 63) = ns.map V.int := by
  unfold cutV
  have e1 : HT.sIx (ns.map V.int).length 0 none = 0 := HT.sIx_none _ _
  have e2 : HT.sIx (ns.map V.int).length (ns.map V.int).length (some 63) = min 63 (ns.map V.int).length := HT.sIx_nat _ _ 63
  rw [e1, e2, List.drop_zero, List.length_map]
  exact List.take_of_length_le (by rw [List.length_map]; omega)
def spBag (K : PySem.W.Frag) : Sp := fun vs H Q _ => ∃ (a : Addr) (ns : List Int), vs = [.ref a] ∧ SqL K H a (ns.map V.int) ∧ ns.length ≤ 63 ∧
  ∀ b H', H b = none → Same H H' → Bag H' b → Q (.ref b) H'
theorem ok_law_bag (T : Txt K mg) : FnOk P w K mg base CX0 1 T.d__law_bag.f T.d__law_bag.fd ["_law_script"] (spBag K) := by
  refine T.d__law_bag.F.ok sc_law_bag (fun vs H Q E h => ?_) (fun cdv A outer s H vs Q E hr h => ?_)
  · obtain ⟨b, k, rfl, _⟩ := h
    rfl
  · obtain ⟨a, ns, rfl, hS, hl, q⟩ := h
    refine ⟨_, (pss_cons (ps_set (i := 1) sc_law_bag.nd rfl (Or.inl rfl) pe_int)
      (pss_cons (ps_for PassesOwn.never rfl (pi_list (pe_slice sl_list (pv 0) po_none (po_some pe_int))) (pg_name (i := 2) sc_law_bag.nd rfl (Or.inl rfl)) (pss_one (ps_set (i := 1) sc_law_bag.nd rfl (Or.inl rfl) (pe_op op_mod (pe_callTy call_int1 (by rfl) T.z_int (by decide +kernel) (pa_cons (pe_op op_add (pe_op op_add (pe_op op_mul (pv 1) pe_int) (pe_op op_mul (pe_op op_mod (pe_callTy call_int1 (by rfl) T.z_int (by decide +kernel) (pa_cons (pv 2) pa_nil)) pe_int) pe_int)) pe_int) pa_nil)) pe_int))))
      (pss_one (ps_ret (pe_lst (pa_cons (pe_callTy call_list_of (by rfl) T.z_list (by decide +kernel) (pa_cons (pe_slice sl_list (pv 0) po_none (po_some pe_int)) pa_nil)) (pa_cons pe_int (pa_cons pe_int (pa_cons (pv 1) (pa_cons pe_int pa_nil)))))))))), ?_⟩
    refine ⟨.ref a, rfl, 63, rfl, a, _, rfl, hS, fun p np => ?_⟩
    rw [cut63 ns hl]
    refine ⟨p, rfl, ⟨_, SqL.of upd_same⟩, for_list (K := K) (a := p) (xs := ns.map V.int) (fun i σ H2 => ∃ (m : Int) (v : Option V), σ = [some (.ref a), some (.int m), v] ∧ 0 ≤ m ∧ m < 2147483587 ∧ H2 = upd H p (.lst (ns.map V.int)))
      ⟨12027, none, rfl, by decide, by decide, rfl⟩ (fun i σ H2 _ ⟨_, _, _, _, _, e⟩ => by rw [e]; exact SqL.of upd_same) ?_ ?_⟩
    · rintro i y σ H2 hi ⟨m, v, rfl, m0, m1, rfl⟩
      obtain ⟨z, rfl⟩ := ints_at hi
      refine ⟨.int m, rfl, m, _, rfl, rfl, .inr ⟨by decide, by decide⟩, .int z, rfl, .inl ⟨z, rfl, z, _, rfl, rfl, (by show (0 : Int) < 1000033; decide), _, _, rfl, rfl, .inr ⟨by decide, by decide⟩, _, _, rfl, rfl, _, _, rfl, rfl, .inl ⟨_, rfl, _, _, rfl, rfl, (by show (0 : Int) < 2147483563; decide), ?_⟩⟩⟩
      exact ⟨_, _, rfl, Int.emod_nonneg _ (by decide), Int.lt_of_lt_of_le (Int.emod_lt_of_pos _ (by decide)) (by decide), rfl⟩
    · rintro σ H2 ⟨m, v, rfl, m0, m1, rfl⟩
      refine ⟨.ref a, rfl, 63, rfl, a, _, rfl, (same_new np).seq hS, fun p2 np2 => ?_⟩
      rw [cut63 ns hl]
      refine ⟨p2, _, rfl, .inl (SqL.of upd_same), fun c nc => ⟨.int m, rfl, by show 5 ≤ sizeLine; decide, fun b nb => ?_⟩⟩
      have s1 := same_new (o := .lst (ns.map V.int)) np
      have s2 := s1.trans (same_new (o := .lst (ns.map V.int)) np2)
      have s3 := s2.trans (same_new (o := .lst (ns.map V.int)) nc)
      have ncb : c ≠ b := ne_of_none upd_same nb
      refine q b _ (s3.free nb) (s3.trans (same_new nb)) ⟨c, ns, 0, 0, m, 0, upd_same, ncb, by rw [upd_ne ncb]; exact upd_same, by decide, by decide, m0, m1⟩
/-! ### one of some -/
def spOfL : Sp := fun vs H Q _ => ∃ (b l : Addr) (xs : List V), vs = [.ref b, .ref l] ∧ Bag H b ∧ l ≠ b ∧ H l = some (.lst xs) ∧ 0 < xs.length ∧ xs.length < 1000 ∧
  ∀ v H', Go b H H' → v ∈ xs → Q v H'
theorem sc_of' : FnScope N_law_of ["_law_bag_here", "_law_some"] (defScope s_law_of) := sc_law_of
theorem atI_mem {xs : List V} {d : Int} (h0 : 0 ≤ d) (h1 : d < xs.length) : ∃ v, atI xs d = some v ∧ v ∈ xs := by
  have hj : d.toNat < xs.length := by omega
  refine ⟨xs[d.toNat], ?_, List.getElem_mem hj⟩
  have := atI_nat (xs := xs) (j := d.toNat) (v := xs[d.toNat]) (List.getElem?_eq_getElem hj)
  rwa [Int.toNat_of_nonneg h0] at this
theorem ok_law_ofL (T : Txt K mg) : FnOk P w K mg base CX0 2 T.d__law_of.f T.d__law_of.fd ["_law_bag_here", "_law_some"] spOfL := by
  refine T.d__law_of.F.ok sc_law_of (fun vs H Q E h => ?_) (fun cdv A outer s H vs Q E hr h => ?_)
  · obtain ⟨b, l, xs, rfl, _⟩ := h
    rfl
  · obtain ⟨b, l, xs, rfl, hB, nl, hl, h0, h1, q⟩ := h
    refine ⟨_, (pss_one (ps_ret (pe_ix ix_list (pv 1) (pe_call (ok_law_draw T) (hr.mono (by decide)) (by rfl) T.d__law_draw.g T.d__law_draw.F.kp T.d__law_draw.b .nil pass0 (pa_cons (pv 0) (pa_cons (pe_callB call_len_seq (by rfl) T.z_len (by decide +kernel) (pa_cons (pv 1) pa_nil)) pa_nil))) (fun _ _ => rfl)))), ?_⟩
    refine ⟨.ref l, rfl, .ref b, rfl, .ref l, rfl, l, xs, rfl, .inl (SqL.of hl), b, _, rfl, hB, by omega, by omega, fun d H' g d0 d1 => ?_⟩
    obtain ⟨v, hv, mv⟩ := atI_mem d0 d1
    exact ⟨l, xs, d, v, rfl, rfl, SqL.of (g.2 _ _ nl hl), hv, q v H' g mv⟩
/-- one sign of a text -/
def spOfS : Sp := fun vs H Q _ => ∃ (b : Addr) (z : Str), vs = [.ref b, .str z] ∧ Bag H b ∧ 0 < z.length ∧ z.length < 1000 ∧
  ∀ c H', Go b H H' → c ∈ z.cps.toList → Q (.str ⟨#[c]⟩) H'
theorem ok_law_ofS (T : Txt K mg) : FnOk P w K mg base CX0 2 T.d__law_of.f T.d__law_of.fd ["_law_bag_here", "_law_some"] spOfS := by
  refine T.d__law_of.F.ok sc_law_of (fun vs H Q E h => ?_) (fun cdv A outer s H vs Q E hr h => ?_)
  · obtain ⟨b, z, rfl, _⟩ := h
    rfl
  · obtain ⟨b, z, rfl, hB, h0, h1, q⟩ := h
    refine ⟨_, (pss_one (ps_ret (pe_ix ix_str (pv 1) (pe_call (ok_law_draw T) (hr.mono (by decide)) (by rfl) T.d__law_draw.g T.d__law_draw.F.kp T.d__law_draw.b .nil pass0 (pa_cons (pv 0) (pa_cons (pe_callB call_len_str (by rfl) T.z_len (by decide +kernel) (pa_cons (pv 1) pa_nil)) pa_nil))) (fun _ _ => rfl)))), ?_⟩
    refine ⟨.str z, rfl, .ref b, rfl, .str z, rfl, z, rfl, Nat.le_of_lt (small1000 (by omega)), b, _, rfl, hB, by omega, by omega, fun d H' g d0 d1 => ?_⟩
    have e : z.cps.toList.length = z.length := by simp [Str.length]
    have hj : d.toNat < z.cps.toList.length := by omega
    have ha := atI_nat (xs := z.cps.toList) (j := d.toNat) (List.getElem?_eq_getElem hj)
    rw [Int.toNat_of_nonneg d0] at ha
    exact ⟨z, d, _, rfl, rfl, Nat.le_of_lt (small1000 (by omega)), ha, q _ H' g (List.getElem_mem hj)⟩
end
end Rd
set_option maxHeartbeats 4000000
namespace Rd
open PySem PySem.Spec PyProof.Rows L2
open C8 (pss_cut tCut)
open RZ (ItzT pi_zipA)
/-! ### two values that are the same data -/
def isSc : V → Bool
  | .non => true
  | .bl _ => true
  | .int _ => true
  | .str _ => true
  | _ => false
def Eqv (K : PySem.W.Frag) (H : Hp) : Nat → V → V → Prop
  | 0, x, y => x = y ∧ isSc x = true
  | n + 1, x, y => (x = y ∧ isSc x = true) ∨ ∃ (a b : Addr) (xs ys : List V), x = .ref a ∧ y = .ref b ∧ ((SqL K H a xs ∧ SqL K H b ys) ∨ (SqT K H a xs ∧ SqT K H b ys)) ∧ xs.length = ys.length ∧ xs.length ≤ 1000 ∧
      ∀ (i : Nat) (x y : V), xs[i]? = some x → ys[i]? = some y → Eqv K H n x y
theorem Eqv.sc {K : PySem.W.Frag} {H : Hp} {x : V} (h : isSc x = true) : ∀ n, Eqv K H n x x
  | 0 => ⟨rfl, h⟩
  | _ + 1 => .inl ⟨rfl, h⟩
theorem same_seqT {K : PySem.W.Frag} {H H' : Hp} {a : Addr} {xs : List V} (e : Same H H') (h : SqT K H a xs) : SqT K H' a xs := by
  rcases h with (h | ⟨o, h⟩) | h
  · exact .inl (.inl (e _ _ h))
  · exact .inl (.inr ⟨o, e _ _ h⟩)
  · exact .inr h
theorem Eqv.same {K : PySem.W.Frag} {H H' : Hp} (s : Same H H') : ∀ {n : Nat} {x y : V}, Eqv K H n x y → Eqv K H' n x y
  | 0, _, _, h => h
  | n + 1, _, _, h => by
    rcases h with h | ⟨a, b, xs, ys, e1, e2, hq, l, l2, r⟩
    · exact .inl h
    · refine .inr ⟨a, b, xs, ys, e1, e2, ?_, l, l2, fun i x y h1 h2 => (r i x y h1 h2).same s⟩
      rcases hq with ⟨h1, h2⟩ | ⟨h1, h2⟩
      · exact .inl ⟨s.seq h1, s.seq h2⟩
      · exact .inr ⟨same_seqT s h1, same_seqT s h2⟩
theorem ty_seqL {K : PySem.W.Frag} {H : Hp} {a : Addr} {xs : List V} (h : SqL K H a xs) : TyX K H (.ref a) (.type "list") := by
  rcases h with (h | ⟨o, h⟩) | ⟨o, its, n, h, c, _⟩
  · exact .base (.lst h)
  · exact .base (.frz h)
  · exact .kList h c
theorem ty_seqT {K : PySem.W.Frag} {H : Hp} {a : Addr} {xs : List V} (h : SqT K H a xs) : TyX K H (.ref a) (.type "tuple") := by
  rcases h with (h | ⟨o, h⟩) | ⟨o, its, n, h, c, _⟩
  · exact .base (.tup h)
  · exact .fTuple h
  · exact .kTuple h c
/-- the built-in type of a value that is no object of an own class -/
def tyn : V → String
  | .non => "NoneType"
  | .bl _ => "bool"
  | .int _ => "int"
  | .str _ => "str"
  | _ => "list"
theorem ty_sc {K : PySem.W.Frag} {H : Hp} {x : V} (h : isSc x = true) : TyX K H x (.type (tyn x)) := by
  cases x with
  | non => exact .base .non
  | bl b => exact .base (.bl b)
  | int i => exact .base (.int i)
  | str s => exact .base (.str s)
  | _ => cases h
theorem kit2 {K : PySem.W.Frag} {t c1 c2 : String} {b1 b2 : Bool} (h1 : kitB t c1 = some b1) (h2 : kitB t c2 = some b2) : PySem.W.kitAny K (.type t) [.type c1, .type c2] = some (b1 || b2) := by
  refine kitAny_cons (kit_ty h1) (fun e => kitAny_cons (kit_ty h2) (fun e2 => ?_) fun e2 => ?_) fun e => ?_
  · rw [e, e2]; exact kitAny_nil
  · rw [e, e2]; rfl
  · rw [e]; rfl
section
variable {K : PySem.W.Frag} {a b : Addr} {xs ys : List V}
theorem walk_zipT {n : Nat} (hn : n = min xs.length ys.length) : Walk (ItzT K a b) n (fun H => SqT K H a xs ∧ SqT K H b ys) (YPair (fun i => xs[i]?) (fun i => ys[i]?)) where
  goes := fun i H hi q => by
    have h1 : i < xs.length := by omega
    have h2 : i < ys.length := by omega
    exact ⟨xs, ys, xs[i], ys[i], q.1, q.2, List.getElem?_eq_getElem h1, List.getElem?_eq_getElem h2⟩
  stops := fun H q => ⟨xs, ys, q.1, q.2, by omega⟩
  yields := fun i H v H' hi q y => by
    obtain ⟨T, x, z, h1, h2, h3, h4, h5⟩ := y
    exact ⟨T, x, z, h1, h2, h3, h4 xs q.1, h5 ys q.2⟩
end
section
variable {P : Program} {w : World} {K : PySem.W.Frag} {mg : Str → Option Value} {base : Heap}
def spSame (K : PySem.W.Frag) (n : Nat) : Sp := fun vs H Q _ => ∃ x y, vs = [x, y] ∧ Eqv K H n x y ∧ ∀ H', Same H H' → Q (.bl true) H'
theorem all_true (k : Nat) : (List.replicate k true).all id = true := by
  induction k with
  | zero => rfl
  | succ n ih => rw [List.replicate_succ, List.all_cons, ih]; rfl
theorem ok_law_same (T : Txt K mg) : ∀ n, FnOk P w K mg base CX0 (n + 1) T.d__law_same.f T.d__law_same.fd ["_law_found", "_law_due"] (spSame K n) := by
  -- the way of a value that is no list and no tuple
  have sc : ∀ (n : Nat) (x : V), isSc x = true → ∀ (cdv : Value) (A : Around) (outer : List Env) (s : Shared) (H : Hp) (Q : VK) (E : XK), Room n (A.deeper (envOfC "_law_same" (defScope s_law_same) s.heap.objs.size T.d__law_same.f cdv)) →
      (∀ H', Same H H' → Q (.bl true) H') →
      ∃ t, PSs (cxOf CX0 P w K mg base N_law_same "_law_same" (defScope s_law_same) T.d__law_same.f cdv A outer s H E).nox (defBody s_law_same) t ∧ t { nx := fun _ H' => Q .non H', rt := Q } (start N_law_same [x, x]) H := by
    intro n x hx cdv A outer s H Q E hr q
    refine ⟨_, (pss_cons (ps_if (PW.pt (pw_or (pt_cmpR op_isN (pv 1) pe_non (nomark _)) (pw_or1 (pt_cmpR op_isN (pv 0) pe_non (nomark _))))) (pss_one (ps_ret (pe_and (pe_cmpR op_isN (pv 1) pe_non (nomark _)) (pe_one (pe_cmpR op_isN (pv 0) pe_non (nomark _)))))) pss_nil)
      (pss_cons (ps_if (pt_val (pe_callB call_isiT (by rfl) T.z_isinstance (by decide +kernel) (pa_cons (pv 1) (pa_cons (pe_tup (pa_cons (pe_bltn (v := .ty "list") (by rfl) T.z_list (by decide +kernel) rfl) (pa_cons (pe_bltn (v := .ty "tuple") (by rfl) T.z_tuple (by decide +kernel) rfl) pa_nil))) pa_nil)))) (pss_cons ps_never (pss_one ps_never)) pss_nil)
      (pss_cons (ps_if (PW.pt (pw_or (pt_cmpR op_ne (pe_callB call_isi (by rfl) T.z_isinstance (by decide +kernel) (pa_cons (pv 0) (pa_cons (pe_bltn (v := .ty "bool") (by rfl) T.z_bool (by decide +kernel) rfl) pa_nil))) (pe_callB call_isi (by rfl) T.z_isinstance (by decide +kernel) (pa_cons (pv 1) (pa_cons (pe_bltn (v := .ty "bool") (by rfl) T.z_bool (by decide +kernel) rfl) pa_nil))) (nomark _)) (pw_or1 (pt_cmpR op_ne (pe_callB call_isi (by rfl) T.z_isinstance (by decide +kernel) (pa_cons (pv 0) (pa_cons (pe_bltn (v := .ty "int") (by rfl) T.z_int (by decide +kernel) rfl) pa_nil))) (pe_callB call_isi (by rfl) T.z_isinstance (by decide +kernel) (pa_cons (pv 1) (pa_cons (pe_bltn (v := .ty "int") (by rfl) T.z_int (by decide +kernel) rfl) pa_nil))) (nomark _))))) (pss_one (ps_ret pe_bl)) pss_nil)
      (pss_one (ps_ret (pe_and (pe_cmpR op_eq (pe_callB call_isi (by rfl) T.z_isinstance (by decide +kernel) (pa_cons (pv 0) (pa_cons (pe_bltn (v := .ty "str") (by rfl) T.z_str (by decide +kernel) rfl) pa_nil))) (pe_callB call_isi (by rfl) T.z_isinstance (by decide +kernel) (pa_cons (pv 1) (pa_cons (pe_bltn (v := .ty "str") (by rfl) T.z_str (by decide +kernel) rfl) pa_nil))) (nomark _)) (pe_one (pe_cmpR op_eq (pv 0) (pv 1) (nomark _))))))))), ?_⟩
    by_cases hn : x = .non
    · subst hn
      exact ⟨.non, rfl, rfl, true, rfl, iteT (iteT ⟨.non, rfl, rfl, true, rfl, iteT ⟨.non, rfl, rfl, q H (Same.refl H)⟩⟩)⟩
    · have hd : decide (x = V.non) = false := decide_eq_false hn
      refine ⟨x, rfl, rfl, false, by rw [hd], iteF ⟨x, rfl, rfl, false, by rw [hd], iteF ?_⟩⟩
      have kl : kitB (tyn x) "list" = some false ∧ kitB (tyn x) "tuple" = some false := by
        cases x with
        | non => exact absurd rfl hn
        | bl b => exact ⟨by show kitB "bool" _ = _; decide +kernel, by show kitB "bool" _ = _; decide +kernel⟩
        | int b => exact ⟨by show kitB "int" _ = _; decide +kernel, by show kitB "int" _ = _; decide +kernel⟩
        | str b => exact ⟨by show kitB "str" _ = _; decide +kernel, by show kitB "str" _ = _; decide +kernel⟩
        | _ => cases hx
      obtain ⟨bb, kb⟩ : ∃ bb, kitB (tyn x) "bool" = some bb := by
        cases x with
        | non => exact absurd rfl hn
        | bl b => exact ⟨true, by show kitB "bool" _ = _; decide +kernel⟩
        | int b => exact ⟨false, by show kitB "int" _ = _; decide +kernel⟩
        | str b => exact ⟨false, by show kitB "str" _ = _; decide +kernel⟩
        | _ => cases hx
      obtain ⟨bi, ki⟩ : ∃ bi, kitB (tyn x) "int" = some bi := by
        cases x with
        | non => exact absurd rfl hn
        | bl b => exact ⟨true, by show kitB "bool" _ = _; decide +kernel⟩
        | int b => exact ⟨true, by show kitB "int" _ = _; decide +kernel⟩
        | str b => exact ⟨false, by show kitB "str" _ = _; decide +kernel⟩
        | _ => cases hx
      obtain ⟨bs, ks⟩ : ∃ bs, kitB (tyn x) "str" = some bs := by
        cases x with
        | non => exact absurd rfl hn
        | bl b => exact ⟨false, by show kitB "bool" _ = _; decide +kernel⟩
        | int b => exact ⟨false, by show kitB "int" _ = _; decide +kernel⟩
        | str b => exact ⟨true, by show kitB "str" _ = _; decide +kernel⟩
        | _ => cases hx
      refine ⟨x, rfl, by show 2 ≤ sizeLine; decide, fun p np => ?_⟩
      refine ⟨x, p, [.ty "list", .ty "tuple"], _, _, false, rfl, upd_same, .cons (.ty _) (.cons (.ty _) .nil), ty_sc hx, kit2 kl.1 kl.2, false, rfl, iteF ?_⟩
      refine ⟨x, rfl, x, _, _, _, bb, rfl, .ty _, ty_sc hx, kit_ty kb, x, rfl, x, _, _, _, bb, rfl, .ty _, ty_sc hx, kit_ty kb, rfl, false, by rw [decide_eq_true rfl]; rfl, iteF ?_⟩
      refine ⟨x, rfl, x, _, _, _, bi, rfl, .ty _, ty_sc hx, kit_ty ki, x, rfl, x, _, _, _, bi, rfl, .ty _, ty_sc hx, kit_ty ki, rfl, false, by rw [decide_eq_true rfl]; rfl, iteF ?_⟩
      refine ⟨x, rfl, x, _, _, _, bs, rfl, .ty _, ty_sc hx, kit_ty ks, x, rfl, x, _, _, _, bs, rfl, .ty _, ty_sc hx, kit_ty ks, rfl, true, by rw [decide_eq_true rfl], iteT ?_⟩
      refine ⟨x, rfl, x, rfl, ?_, ?_⟩
      · cases x with
        | non => rfl
        | bl b => rfl
        | int b => rfl
        | str b => rfl
        | _ => cases hx
      · rw [decide_eq_true rfl]
        exact q _ (same_new np)
  intro n
  induction n with
  | zero =>
    refine T.d__law_same.F.ok sc_law_same (fun vs H Q E h => ?_) (fun cdv A outer s H vs Q E hr h => ?_)
    · obtain ⟨x, y, rfl, _⟩ := h
      rfl
    · obtain ⟨x, y, rfl, ⟨rfl, hx⟩, q⟩ := h
      exact sc 0 x hx cdv A outer s H Q E hr q
  | succ n ih =>
    refine T.d__law_same.F.ok sc_law_same (fun vs H Q E h => ?_) (fun cdv A outer s H vs Q E hr h => ?_)
    · obtain ⟨x, y, rfl, _⟩ := h
      rfl
    · obtain ⟨x, y, rfl, h, q⟩ := h
      rcases h with ⟨rfl, hx⟩ | ⟨a, b, xs, ys, rfl, rfl, hq, hl, hm, hr2⟩
      · exact sc (n + 1) x hx cdv A outer s H Q E hr q
      · refine ⟨_, (pss_cons (ps_if (PW.pt (pw_or (pt_cmpR op_isN (pv 1) pe_non (nomark _)) (pw_or1 (pt_cmpR op_isN (pv 0) pe_non (nomark _))))) (pss_one (ps_ret (pe_and (pe_cmpR op_isN (pv 1) pe_non (nomark _)) (pe_one (pe_cmpR op_isN (pv 0) pe_non (nomark _)))))) pss_nil)
      (pss_cons (ps_if (pt_val (pe_callB call_isiT (by rfl) T.z_isinstance (by decide +kernel) (pa_cons (pv 1) (pa_cons (pe_tup (pa_cons (pe_bltn (v := .ty "list") (by rfl) T.z_list (by decide +kernel) rfl) (pa_cons (pe_bltn (v := .ty "tuple") (by rfl) T.z_tuple (by decide +kernel) rfl) pa_nil))) pa_nil)))) (pss_cons (ps_if (PW.pt (pw_or (pt_cmpR op_ne (pe_callB call_isi (by rfl) T.z_isinstance (by decide +kernel) (pa_cons (pv 0) (pa_cons (pe_bltn (v := .ty "list") (by rfl) T.z_list (by decide +kernel) rfl) pa_nil))) (pe_callB call_isi (by rfl) T.z_isinstance (by decide +kernel) (pa_cons (pv 1) (pa_cons (pe_bltn (v := .ty "list") (by rfl) T.z_list (by decide +kernel) rfl) pa_nil))) (nomark _)) (pw_or1 (pt_cmpR op_ne (pe_callB call_isi (by rfl) T.z_isinstance (by decide +kernel) (pa_cons (pv 0) (pa_cons (pe_bltn (v := .ty "tuple") (by rfl) T.z_tuple (by decide +kernel) rfl) pa_nil))) (pe_callB call_isi (by rfl) T.z_isinstance (by decide +kernel) (pa_cons (pv 1) (pa_cons (pe_bltn (v := .ty "tuple") (by rfl) T.z_tuple (by decide +kernel) rfl) pa_nil))) (nomark _))))) (pss_one (ps_ret pe_bl)) pss_nil)
      (pss_one (ps_ret (pe_and (pe_cmpR op_eq (pe_callB call_len_seq (by rfl) T.z_len (by decide +kernel) (pa_cons (pv 0) pa_nil)) (pe_callB call_len_seq (by rfl) T.z_len (by decide +kernel) (pa_cons (pv 1) pa_nil)) (nomark _)) (pe_one (pe_callB (cr_all rfl) (by rfl) T.z_all (by decide +kernel) (pa_cons (pe_lc (own := [("_law_low", 2), ("_law_high", 3)]) (g := gTup K 2 (gCons (gName 2) (gCons (gName 3) gNil))) (tt := tYes) (by rfl) sc_law_same.nd (pi_zipA (by rfl) T.z_zip (pa_cons (pv 0) (pa_cons (pv 1) pa_nil))) (blkOk_by (own := [("_law_low", 2), ("_law_high", 3)]) (N := N_law_same) (sc := defScope s_law_same) (by decide +kernel)) (fun _ _ _ _ _ => (pg_tup rfl (pgs_cons (pg_name (i := 2) sc_law_same.nd rfl (Or.inl rfl)) (pgs_cons (pg_name (i := 3) sc_law_same.nd rfl (Or.inl rfl)) pgs_nil)))) (fun _ _ _ _ _ => pts_nil) (fun _ _ _ _ _ => (pe_call ih (hr.mono (Nat.le_refl _)) (by rfl) T.d__law_same.g T.d__law_same.F.kp T.d__law_same.b .nil pass0 (pa_cons (pv 2) (pa_cons (pv 3) pa_nil))))) pa_nil))))))) pss_nil)
      (pss_cons ps_never (pss_one ps_never)))), ?_⟩
        refine ⟨.ref b, rfl, rfl, false, rfl, iteF ⟨.ref a, rfl, rfl, false, rfl, iteF ?_⟩⟩
        obtain ⟨t, bl', bt, kl, kt, kor, tya, tyb⟩ : ∃ (t : String) (bl' bt : Bool), kitB t "list" = some bl' ∧ kitB t "tuple" = some bt ∧ (bl' || bt) = true ∧ (∀ H', Same H H' → TyX K H' (.ref a) (.type t)) ∧ (∀ H', Same H H' → TyX K H' (.ref b) (.type t)) := by
          rcases hq with ⟨h1, h2⟩ | ⟨h1, h2⟩
          · exact ⟨"list", true, false, by decide +kernel, by decide +kernel, rfl, fun _ s => ty_seqL (s.seq h1), fun _ s => ty_seqL (s.seq h2)⟩
          · exact ⟨"tuple", false, true, by decide +kernel, by decide +kernel, rfl, fun _ s => ty_seqT (same_seqT s h1), fun _ s => ty_seqT (same_seqT s h2)⟩
        refine ⟨.ref b, rfl, by show 2 ≤ sizeLine; decide, fun p np => ?_⟩
        have s1 := same_new (o := .tup [.ty "list", .ty "tuple"]) np
        refine ⟨.ref b, p, [.ty "list", .ty "tuple"], _, _, true, rfl, upd_same, .cons (.ty _) (.cons (.ty _) .nil), tyb _ s1, by rw [← kor]; exact kit2 kl kt, true, rfl, iteT ?_⟩
        refine ⟨.ref a, rfl, .ref a, _, _, _, bl', rfl, .ty _, tya _ s1, kit_ty kl, .ref b, rfl, .ref b, _, _, _, bl', rfl, .ty _, tyb _ s1, kit_ty kl, rfl, false, by rw [decide_eq_true rfl]; rfl, iteF ?_⟩
        refine ⟨.ref a, rfl, .ref a, _, _, _, bt, rfl, .ty _, tya _ s1, kit_ty kt, .ref b, rfl, .ref b, _, _, _, bt, rfl, .ty _, tyb _ s1, kit_ty kt, rfl, false, by rw [decide_eq_true rfl]; rfl, iteF ?_⟩
        have hq1 : (SqL K (upd H p (.tup [.ty "list", .ty "tuple"])) a xs ∧ SqL K (upd H p (.tup [.ty "list", .ty "tuple"])) b ys) ∨ (SqT K (upd H p (.tup [.ty "list", .ty "tuple"])) a xs ∧ SqT K (upd H p (.tup [.ty "list", .ty "tuple"])) b ys) := by
          rcases hq with ⟨h1, h2⟩ | ⟨h1, h2⟩
          · exact .inl ⟨s1.seq h1, s1.seq h2⟩
          · exact .inr ⟨same_seqT s1 h1, same_seqT s1 h2⟩
        generalize upd H p (.tup [.ty "list", .ty "tuple"]) = H1 at s1 hq1
        have hxa : SqL K H1 a xs ∨ SqT K H1 a xs := by rcases hq1 with ⟨h, _⟩ | ⟨h, _⟩; exact .inl h; exact .inr h
        have hyb : SqL K H1 b ys ∨ SqT K H1 b ys := by rcases hq1 with ⟨_, h⟩ | ⟨_, h⟩; exact .inl h; exact .inr h
        refine ⟨.ref a, rfl, a, xs, rfl, hxa, .ref b, rfl, b, ys, rfl, hyb, rfl, true, by rw [hl, decide_eq_true rfl], iteT ?_⟩
        refine ⟨.ref a, rfl, .ref b, rfl, a, b, xs, ys, rfl, ?_⟩
        have fin : ∀ D (H2 : Hp), (Same H1 H2 ∧ H2 D = some (.lst ((List.replicate xs.length true).map V.bl))) → ∃ (a : Addr) (bs : List Bool), [V.ref D] = [V.ref a] ∧ SqL K H2 a (bs.map V.bl) ∧ Q (.bl (bs.all id)) H2 := fun D H2 h => ⟨D, _, rfl, SqL.of h.2, by rw [all_true]; exact q _ (s1.trans h.1)⟩
        have hmin : xs.length = min xs.length ys.length := by omega
        rcases hq1 with ⟨h1, h2⟩ | ⟨h1, h2⟩
        · refine .inl ⟨h1, h2, fun D nD => lc_it (walk_zip (xs := xs) (ys := ys) hmin) (fun i H2 => Same H1 H2 ∧ H2 D = some (.lst ((List.replicate i true).map V.bl))) ⟨same_new nD, upd_same⟩ (fun i H2 _ h => ⟨h.1.seq h1, h.1.seq h2⟩) ?_ (fun H2 h => fin D H2 h)⟩
          rintro i x H2 H3 hi ⟨sm, eD⟩ ⟨T', u, v, rfl, nT, rfl, hu, hv⟩
          have sT := same_new (o := .tup [u, v]) nT
          refine ⟨T', [u, v], rfl, SqT.of upd_same, rfl, u, [v], rfl, v, [], rfl, rfl, rfl, ?_⟩
          refine ⟨u, rfl, v, rfl, u, v, rfl, (hr2 i u v hu hv).same (s1.trans (sm.trans sT)), fun H' s => ?_⟩
          refine ⟨_, s _ _ (sT _ _ eD), ?_, ?_, ?_⟩
          · rw [List.length_map, List.length_replicate]
            exact small1000 (by omega)
          · exact fun z o e => by rw [upd_ne (ne_of_none e nD)]; exact s _ _ (sT _ _ (sm _ _ e))
          · rw [upd_same, List.replicate_succ', List.map_append]
            rfl
        · refine .inr ⟨h1, h2, fun D nD => lc_it (walk_zipT (xs := xs) (ys := ys) hmin) (fun i H2 => Same H1 H2 ∧ H2 D = some (.lst ((List.replicate i true).map V.bl))) ⟨same_new nD, upd_same⟩ (fun i H2 _ h => ⟨same_seqT h.1 h1, same_seqT h.1 h2⟩) ?_ (fun H2 h => fin D H2 h)⟩
          rintro i x H2 H3 hi ⟨sm, eD⟩ ⟨T', u, v, rfl, nT, rfl, hu, hv⟩
          have sT := same_new (o := .tup [u, v]) nT
          refine ⟨T', [u, v], rfl, SqT.of upd_same, rfl, u, [v], rfl, v, [], rfl, rfl, rfl, ?_⟩
          refine ⟨u, rfl, v, rfl, u, v, rfl, (hr2 i u v hu hv).same (s1.trans (sm.trans sT)), fun H' s => ?_⟩
          refine ⟨_, s _ _ (sT _ _ eD), ?_, ?_, ?_⟩
          · rw [List.length_map, List.length_replicate]
            exact small1000 (by omega)
          · exact fun z o e => by rw [upd_ne (ne_of_none e nD)]; exact s _ _ (sT _ _ (sm _ _ e))
          · rw [upd_same, List.replicate_succ', List.map_append]
            rfl
end
end Rd
set_option maxHeartbeats 4000000
namespace Rd
open PySem PySem.Spec PyProof.Rows L2
open C8 (pss_cut tCut)
open RZ (ItzT pi_zipA)
/-! ## the program: names, numbers, ends, entries -/
inductive Kd (K : PySem.W.Frag) (H : Hp) : V → String → Prop
  | sc {x : V} (h : isSc x = true) : Kd K H x (tyn x)
  | lst {a : Addr} {xs : List V} (h : SqL K H a xs) : Kd K H (.ref a) "list"
  | tup {a : Addr} {xs : List V} (h : SqT K H a xs) : Kd K H (.ref a) "tuple"
theorem Kd.ty {K : PySem.W.Frag} {H : Hp} {v : V} {t : String} (h : Kd K H v t) : TyX K H v (.type t) := by
  cases h with
  | sc h => exact ty_sc h
  | lst h => exact ty_seqL h
  | tup h => exact ty_seqT h
theorem Kd.same {K : PySem.W.Frag} {H H' : Hp} {v : V} {t : String} (s : Same H H') (h : Kd K H v t) : Kd K H' v t := by
  cases h with
  | sc h => exact .sc h
  | lst h => exact .lst (s.seq h)
  | tup h => exact .tup (same_seqT s h)
def isS : V → Bool
  | .str _ => true
  | _ => false
def isB : V → Bool
  | .bl _ => true
  | _ => false
def isI : V → Bool
  | .bl _ => true
  | .int _ => true
  | _ => false
section
variable {K : PySem.W.Frag} {H : Hp} {v : V} {t : String}
theorem kd_cases {p : V → String → Prop} (h : Kd K H v t) (h1 : p .non "NoneType") (h2 : ∀ b, p (.bl b) "bool") (h3 : ∀ i, p (.int i) "int") (h4 : ∀ z, p (.str z) "str") (h5 : ∀ a, p (.ref a) "list") (h6 : ∀ a, p (.ref a) "tuple") : p v t := by
  cases h with
  | sc h =>
    cases v with
    | non => exact h1
    | bl b => exact h2 b
    | int i => exact h3 i
    | str z => exact h4 z
    | _ => cases h
  | lst h => exact h5 _
  | tup h => exact h6 _
theorem kd_str (h : Kd K H v t) : kitB t "str" = some (isS v) :=
  kd_cases (p := fun v t => kitB t "str" = some (isS v)) h (by show kitB "NoneType" "str" = some false; decide +kernel) (fun _ => by show kitB "bool" "str" = some false; decide +kernel) (fun _ => by show kitB "int" "str" = some false; decide +kernel) (fun _ => by show kitB "str" "str" = some true; decide +kernel) (fun _ => by show kitB "list" "str" = some false; decide +kernel) (fun _ => by show kitB "tuple" "str" = some false; decide +kernel)
theorem kd_int (h : Kd K H v t) : kitB t "int" = some (isI v) :=
  kd_cases (p := fun v t => kitB t "int" = some (isI v)) h (by show kitB "NoneType" "int" = some false; decide +kernel) (fun _ => by show kitB "bool" "int" = some true; decide +kernel) (fun _ => by show kitB "int" "int" = some true; decide +kernel) (fun _ => by show kitB "str" "int" = some false; decide +kernel) (fun _ => by show kitB "list" "int" = some false; decide +kernel) (fun _ => by show kitB "tuple" "int" = some false; decide +kernel)
theorem kd_bool (h : Kd K H v t) : kitB t "bool" = some (isB v) :=
  kd_cases (p := fun v t => kitB t "bool" = some (isB v)) h (by show kitB "NoneType" "bool" = some false; decide +kernel) (fun _ => by show kitB "bool" "bool" = some true; decide +kernel) (fun _ => by show kitB "int" "bool" = some false; decide +kernel) (fun _ => by show kitB "str" "bool" = some false; decide +kernel) (fun _ => by show kitB "list" "bool" = some false; decide +kernel) (fun _ => by show kitB "tuple" "bool" = some false; decide +kernel)
theorem kd_tuple (h : Kd K H v t) : kitB t "tuple" = some (decide (t = "tuple")) :=
  kd_cases (p := fun v t => kitB t "tuple" = some (decide (t = "tuple"))) h (by decide +kernel) (fun _ => by decide +kernel) (fun _ => by decide +kernel) (fun _ => by decide +kernel) (fun _ => by decide +kernel) (fun _ => by decide +kernel)
end
def low (c : Nat) : Bool := decide (97 ≤ c) && decide (c ≤ 122)
def isNm : V → Bool
  | .str z => (decide (1 ≤ z.length) && decide (z.length ≤ 6)) && z.cps.toList.all low
  | _ => false
theorem isNm_str (z : Str) : isNm (.str z) = ((decide (1 ≤ z.length) && decide (z.length ≤ 6)) && z.cps.toList.all low) := rfl
def isNum : V → Int → Int → Bool
  | .int i, lo, hi => decide (lo ≤ i) && decide (i ≤ hi)
  | _, _, _ => false
theorem letters_low (c : Nat) : decide (c ∈ ("abcdefghijklmnopqrstuvwxyz" : Str).cps.toList) = low c := by
  have e : ("abcdefghijklmnopqrstuvwxyz" : Str).cps.toList = List.range' 97 26 := by decide +kernel
  rw [e]
  unfold low
  rw [← Bool.decide_and]
  exact decide_eq_decide.mpr (by rw [List.mem_range'_1]; omega)
section
variable {P : Program} {w : World} {K : PySem.W.Frag} {mg : Str → Option Value} {base : Heap}
def spName (K : PySem.W.Frag) : Sp := fun vs H Q _ => ∃ v t, vs = [v] ∧ Kd K H v t ∧ (∀ z, v = .str z → z.length ≤ 1000) ∧ ∀ H', Same H H' → Q (.bl (isNm v)) H'
theorem ok_is_name (T : Txt K mg) : FnOk P w K mg base CX0 1 T.d_is_name.f T.d_is_name.fd ["value"] (spName K) := by
  refine T.d_is_name.F.ok sc_is_name (fun vs H Q E h => ?_) (fun cdv A outer s H vs Q E hr h => ?_)
  · obtain ⟨v, t, rfl, _⟩ := h
    rfl
  · obtain ⟨v, t, rfl, hk, hz, q⟩ := h
    refine ⟨_, (pss_cons (ps_if (PW.pt (pw_or (pt_not (pt_val (pe_callB call_isi (by rfl) T.z_isinstance (by decide +kernel) (pa_cons (pv 0) (pa_cons (pe_bltn (v := .ty "str") (by rfl) T.z_str (by decide +kernel) rfl) pa_nil))))) (pw_or1 (pt_not (pt_chain op_le op_le pe_int (pe_callB call_len_str (by rfl) T.z_len (by decide +kernel) (pa_cons (pv 0) pa_nil)) (pe_glob (v := .int 6) rfl T.c_MOST_LETTERS ⟨_, rfl⟩)))))) (pss_one (ps_ret pe_bl)) pss_nil)
      (pss_one (ps_ret (pe_callB (cr_all rfl) (by rfl) T.z_all (by decide +kernel) (pa_cons (pe_lc (own := [("letter", 1)]) (g := gName 1) (tt := tYes) (by rfl) sc_is_name.nd (pi_str (pv 0)) (blkOk_by (own := [("letter", 1)]) (N := N_is_name) (sc := defScope s_is_name) (by decide +kernel)) (fun _ _ _ _ _ => (pg_name (i := 1) sc_is_name.nd rfl (Or.inl rfl))) (fun _ _ _ _ _ => pts_nil) (fun _ _ _ _ _ => (pe_cmpR op_in_sign (pv 1) (pe_glob (v := .str "abcdefghijklmnopqrstuvwxyz") rfl T.c_LETTERS ⟨_, rfl⟩) (by rfl)))) pa_nil))))), ?_⟩
    refine ⟨v, rfl, v, _, _, _, isS v, rfl, .ty _, hk.ty, kit_ty (kd_str hk), _, rfl, ?_⟩
    cases v with
    | str z =>
      have h6 : z.length ≤ sizeLine := Nat.le_of_lt (small1000 (hz z rfl))
      refine iteF ?_
      refine ⟨.str z, rfl, z, rfl, h6, 1, _, rfl, rfl, _, rfl, ?_⟩
      refine ite2 (fun e1 => ?_) (fun e1 => ?_)
      · have l1 : 1 ≤ z.length := by have := of_decide_eq_true e1; omega
        refine ⟨_, 6, rfl, rfl, _, rfl, ?_⟩
        show if (!decide ((z.length : Int) ≤ 6)) = true then _ else _
        by_cases h2 : z.length ≤ 6
        · refine iteNS (by omega) ?_
          refine ⟨.str z, rfl, z, rfl, fun D nD => lc_it walk_str (fun i H2 => Same H H2 ∧ H2 D = some (.lst ((((z.cps.toList.take i).map low)).map V.bl))) ⟨same_new nD, upd_same⟩ (fun _ _ _ _ => trivial) ?_ ?_⟩
          · rintro i x H2 H3 hi ⟨sm, eD⟩ ⟨rfl, c, hc, rfl⟩
            refine ⟨rfl, ?_⟩
            refine ⟨.str ⟨#[c]⟩, rfl, c, _, rfl, rfl, ?_⟩
            rw [letters_low]
            have hc' : z.cps.toList[i]? = some c := by rw [Array.getElem?_toList]; exact hc
            refine ⟨_, eD, ?_, fun b o e => by rw [upd_ne (ne_of_none e nD)]; exact sm _ _ e, ?_⟩
            · rw [List.length_map, List.length_map, List.length_take]
              have : z.cps.toList.length = z.length := by simp [Str.length]
              exact small1000 (by omega)
            · rw [upd_same, List.take_add_one, hc', List.map_append, List.map_append]
              rfl
          · rintro H2 ⟨sm, eD⟩
            refine ⟨D, _, rfl, SqL.of eD, ?_⟩
            have e : ((z.cps.toList.take z.cps.size).map low).all id = z.cps.toList.all low := by
              rw [List.take_of_length_le (by simp), List.all_map]
              rfl
            rw [e]
            have := q H2 sm
            rw [isNm_str] at this
            rw [decide_eq_true l1, decide_eq_true h2] at this
            exact this
        · rw [decide_eq_false (by omega)]
          refine iteT ?_
          have := q H (Same.refl H)
          rw [isNm_str] at this
          rw [decide_eq_false h2, Bool.and_false] at this
          exact this
      · refine ⟨_, rfl, iteT ?_⟩
        have := q H (Same.refl H)
        have l1 : ¬ 1 ≤ z.length := fun z => e1 (decide_eq_true (by omega))
        rw [isNm_str] at this
        rw [decide_eq_false l1] at this
        exact this
    | _ => exact iteT (q H (Same.refl H))
def spNumber (K : PySem.W.Frag) : Sp := fun vs H Q _ => ∃ v t lo hi, vs = [v, .int lo, .int hi] ∧ Kd K H v t ∧ Q (.bl (isNum v lo hi)) H
def spInteger (K : PySem.W.Frag) : Sp := fun vs H Q _ => ∃ v t, vs = [v] ∧ Kd K H v t ∧ Q (.bl (isI v && !isB v)) H
theorem ok_is_integer (T : Txt K mg) : FnOk P w K mg base CX0 1 T.d_is_integer.f T.d_is_integer.fd ["value"] (spInteger K) := by
  refine T.d_is_integer.F.ok sc_is_integer (fun vs H Q E h => ?_) (fun cdv A outer s H vs Q E hr h => ?_)
  · obtain ⟨v, t, rfl, _⟩ := h
    rfl
  · obtain ⟨v, t, rfl, hk, q⟩ := h
    refine ⟨_, (pss_one (ps_ret (pe_and (pe_callB call_isi (by rfl) T.z_isinstance (by decide +kernel) (pa_cons (pv 0) (pa_cons (pe_bltn (v := .ty "int") (by rfl) T.z_int (by decide +kernel) rfl) pa_nil))) (pe_one (pe_not (pe_callB call_isi (by rfl) T.z_isinstance (by decide +kernel) (pa_cons (pv 0) (pa_cons (pe_bltn (v := .ty "bool") (by rfl) T.z_bool (by decide +kernel) rfl) pa_nil)))))))), ?_⟩
    refine ⟨v, rfl, v, _, _, _, isI v, rfl, .ty _, hk.ty, kit_ty (kd_int hk), _, rfl, ?_⟩
    by_cases hi' : isI v = true
    · rw [hi'] at q ⊢
      exact iteT ⟨v, rfl, v, _, _, _, isB v, rfl, .ty _, hk.ty, kit_ty (kd_bool hk), _, rfl, q⟩
    · rw [Bool.eq_false_iff.mpr hi'] at q ⊢
      exact iteF q
theorem ok_is_number (T : Txt K mg) : FnOk P w K mg base CX0 2 T.d_is_number.f T.d_is_number.fd ["value", "least", "most"] (spNumber K) := by
  refine T.d_is_number.F.ok sc_is_number (fun vs H Q E h => ?_) (fun cdv A outer s H vs Q E hr h => ?_)
  · obtain ⟨v, t, lo, hi, rfl, _⟩ := h
    rfl
  · obtain ⟨v, t, lo, hi, rfl, hk, q⟩ := h
    refine ⟨_, (pss_one (ps_ret (pe_and (pe_call (ok_is_integer T) (hr.mono (by decide)) (by rfl) T.d_is_integer.g T.d_is_integer.F.kp T.d_is_integer.b .nil pass0 (pa_cons (pv 0) pa_nil)) (pe_one (pe_chain op_le op_le (pv 1) (pv 0) (pv 2)))))), ?_⟩
    refine ⟨v, rfl, v, t, rfl, hk, _, rfl, ?_⟩
    cases v with
    | bl b => exact iteF q
    | int i =>
      refine iteT ⟨.int lo, rfl, .int i, rfl, lo, i, rfl, rfl, _, rfl, ?_⟩
      have q' : Q (.bl (decide (lo ≤ i) && decide (i ≤ hi))) H := q
      refine ite2 (fun e => ?_) (fun e => ?_)
      · rw [e] at q'
        exact ⟨.int hi, rfl, i, hi, rfl, rfl, q'⟩
      · rw [Bool.eq_false_iff.mpr e] at q'
        exact q'
    | _ => exact iteF q
end
end Rd
set_option maxHeartbeats 4000000
namespace Rd
open PySem PySem.Spec PyProof.Rows L2
open C8 (pss_cut tCut)
open RZ (ItzT pi_zipA)
/-! ## shapes of values: a constant, a value of some kind, a list, a tuple -/
inductive Sh where
  | c (x : V)
  | is (p : V → Prop)
  | l (xs : List Sh)
  | t (xs : List Sh)
  | o (xs : List Sh)
  | m (C : Addr) (ns : List Str) (ss : List Sh)
mutual
def Is (b : Addr) (H : Hp) : Sh → V → Prop
  | .c x, v => v = x
  | .is p, v => p v
  | .l xs, v => ∃ p vs, v = .ref p ∧ p ≠ b ∧ H p = some (.lst vs) ∧ IsAll b H xs vs
  | .t xs, v => ∃ p vs, v = .ref p ∧ p ≠ b ∧ H p = some (.tup vs) ∧ IsAll b H xs vs
  | .o xs, v => IsOne b H xs v
  | .m C ns ss, v => ∃ a d vs, v = .ref a ∧ a ≠ b ∧ H a = some (.ins C d (ns.zip vs)) ∧ vs.length = ns.length ∧ IsAll b H ss vs
def IsAll (b : Addr) (H : Hp) : List Sh → List V → Prop
  | [], vs => vs = []
  | s :: r, vs => ∃ v ws, vs = v :: ws ∧ Is b H s v ∧ IsAll b H r ws
def IsOne (b : Addr) (H : Hp) : List Sh → V → Prop
  | [], _ => False
  | s :: r, v => Is b H s v ∨ IsOne b H r v
end
mutual
theorem Is.go {b : Addr} {H H' : Hp} (g : Go b H H') : ∀ {s : Sh} {v : V}, Is b H s v → Is b H' s v
  | .c x, v, h => h
  | .is p, v, h => h
  | .l xs, v, h => by
    obtain ⟨p, vs, e, n, o, r⟩ := h
    exact ⟨p, vs, e, n, g.2 _ _ n o, IsAll.go g r⟩
  | .t xs, v, h => by
    obtain ⟨p, vs, e, n, o, r⟩ := h
    exact ⟨p, vs, e, n, g.2 _ _ n o, IsAll.go g r⟩
  | .o xs, v, h => IsOne.go g (show IsOne b H xs v from h)
  | .m C ns ss, v, h => by
    obtain ⟨a, d, vs, e, n1, o1, l, r⟩ := h
    exact ⟨a, d, vs, e, n1, g.2 _ _ n1 o1, l, IsAll.go g r⟩
theorem IsAll.go {b : Addr} {H H' : Hp} (g : Go b H H') : ∀ {ss : List Sh} {vs : List V}, IsAll b H ss vs → IsAll b H' ss vs
  | [], _, h => h
  | _ :: _, _, h => by
    obtain ⟨v, ws, e, r, q⟩ := h
    exact ⟨v, ws, e, Is.go g r, IsAll.go g q⟩
theorem IsOne.go {b : Addr} {H H' : Hp} (g : Go b H H') : ∀ {ss : List Sh} {v : V}, IsOne b H ss v → IsOne b H' ss v
  | [], _, h => h
  | _ :: _, _, h => by
    rcases h with h | h
    · exact .inl (Is.go g h)
    · exact .inr (IsOne.go g h)
end
theorem IsOne.mem {b : Addr} {H : Hp} : ∀ {ss : List Sh} {v : V}, IsOne b H ss v → ∃ s, s ∈ ss ∧ Is b H s v
  | [], _, h => by cases h
  | s :: _, _, h => by
    rcases h with h | h
    · exact ⟨s, List.mem_cons_self, h⟩
    · obtain ⟨s', m, k⟩ := h.mem
      exact ⟨s', List.mem_cons_of_mem _ m, k⟩
theorem IsOne.of {b : Addr} {H : Hp} : ∀ {ss : List Sh} {v : V} {s : Sh}, s ∈ ss → Is b H s v → IsOne b H ss v
  | s' :: _, _, _, m, h => by
    rcases List.mem_cons.mp m with rfl | m
    · exact .inl h
    · exact .inr (IsOne.of m h)
/-- one of some constants, of all of which p holds -/
theorem one_c {b : Addr} {H : Hp} {v : V} (p : V → Bool) : ∀ {ys : List V}, ys.all p = true → IsOne b H (ys.map Sh.c) v → p v = true
  | [], _, h => by cases h
  | y :: ys, a, h => by
    rw [List.all_cons, Bool.and_eq_true] at a
    rcases h with h | h
    · rw [show v = y from h]; exact a.1
    · exact one_c p a.2 h
theorem IsAll.length {b : Addr} {H : Hp} : ∀ {ss : List Sh} {vs : List V}, IsAll b H ss vs → vs.length = ss.length
  | [], _, h => by rw [show _ = [] from h]; rfl
  | _ :: _, _, h => by
    obtain ⟨v, ws, rfl, _, q⟩ := h
    rw [List.length_cons, List.length_cons, q.length]
theorem IsAll.append {b : Addr} {H : Hp} : ∀ {ss rr : List Sh} {vs ws : List V}, IsAll b H ss vs → IsAll b H rr ws → IsAll b H (ss ++ rr) (vs ++ ws)
  | [], _, _, _, h, k => by rw [show _ = [] from h]; exact k
  | _ :: _, _, _, _, h, k => by
    obtain ⟨v, us, rfl, r, q⟩ := h
    exact ⟨v, us ++ _, rfl, r, q.append k⟩
theorem IsAll.mem {b : Addr} {H : Hp} : ∀ {ss : List Sh} {vs : List V} {v : V}, IsAll b H ss vs → v ∈ vs → ∃ s, s ∈ ss ∧ Is b H s v
  | [], _, _, h, m => by rw [show _ = [] from h] at m; cases m
  | s :: _, _, _, h, m => by
    obtain ⟨u, us, rfl, r, q⟩ := h
    rcases List.mem_cons.mp m with rfl | m
    · exact ⟨s, List.mem_cons_self, r⟩
    · obtain ⟨s', h1, h2⟩ := q.mem m
      exact ⟨s', List.mem_cons_of_mem _ h1, h2⟩
theorem IsAll.at {b : Addr} {H : Hp} : ∀ {ss : List Sh} {vs : List V} {i : Nat} {v : V}, IsAll b H ss vs → vs[i]? = some v → ∃ s, ss[i]? = some s ∧ Is b H s v
  | [], _, _, _, h, m => by rw [show _ = [] from h] at m; cases m
  | s :: _, _, 0, _, h, m => by
    obtain ⟨u, us, rfl, r, q⟩ := h
    cases m
    exact ⟨s, rfl, r⟩
  | s :: _, _, i + 1, _, h, m => by
    obtain ⟨u, us, rfl, r, q⟩ := h
    exact q.at (i := i) m
/-- a shape that leaves no choice, at most n deep -/
def det : Nat → Sh → Bool
  | _, .c x => isSc x
  | _, .is _ => false
  | _, .o _ => false
  | _, .m _ _ _ => false
  | 0, _ => false
  | n + 1, .l xs => decide (xs.length ≤ 1000) && xs.all (det n)
  | n + 1, .t xs => decide (xs.length ≤ 1000) && xs.all (det n)
theorem eqv_det {K : PySem.W.Frag} {b : Addr} {H : Hp} : ∀ {n : Nat} {s : Sh} {v w : V}, det n s = true → Is b H s v → Is b H s w → Eqv K H n v w
  | n, .c x, v, w, d, h, k => by
    rw [show v = x from h, show w = x from k]
    exact .sc (by cases n <;> exact d) n
  | n, .is p, v, w, d, h, k => by cases n <;> cases d
  | n, .o p, v, w, d, h, k => by cases n <;> cases d
  | n, .m _ _ _, v, w, d, h, k => by cases n <;> cases d
  | 0, .l xs, v, w, d, h, k => by cases d
  | 0, .t xs, v, w, d, h, k => by cases d
  | n + 1, .l xs, v, w, d, h, k => by
    obtain ⟨p, vs, rfl, _, o1, r1⟩ := h
    obtain ⟨q, ws, rfl, _, o2, r2⟩ := k
    obtain ⟨d1, d2⟩ := Bool.and_eq_true_iff.mp (show (decide (xs.length ≤ 1000) && xs.all (det n)) = true from d)
    have l1 := r1.length
    have l2 := r2.length
    refine .inr ⟨p, q, vs, ws, rfl, rfl, .inl ⟨SqL.of o1, SqL.of o2⟩, by omega, by have := of_decide_eq_true d1; omega, fun i x y h1 h2 => ?_⟩
    obtain ⟨s, e1, i1⟩ := r1.at h1
    obtain ⟨s', e2, i2⟩ := r2.at h2
    cases e1.symm.trans e2
    exact eqv_det (List.all_eq_true.mp d2 s (List.mem_of_getElem? e1)) i1 i2
  | n + 1, .t xs, v, w, d, h, k => by
    obtain ⟨p, vs, rfl, _, o1, r1⟩ := h
    obtain ⟨q, ws, rfl, _, o2, r2⟩ := k
    obtain ⟨d1, d2⟩ := Bool.and_eq_true_iff.mp (show (decide (xs.length ≤ 1000) && xs.all (det n)) = true from d)
    have l1 := r1.length
    have l2 := r2.length
    refine .inr ⟨p, q, vs, ws, rfl, rfl, .inr ⟨SqT.of o1, SqT.of o2⟩, by omega, by have := of_decide_eq_true d1; omega, fun i x y h1 h2 => ?_⟩
    obtain ⟨s, e1, i1⟩ := r1.at h1
    obtain ⟨s', e2, i2⟩ := r2.at h2
    cases e1.symm.trans e2
    exact eqv_det (List.all_eq_true.mp d2 s (List.mem_of_getElem? e1)) i1 i2
/-! ### what an expression comes to, while the bag moves on -/
def Ev1 (b : Addr) (te : TE) (σ : L2.St) (H0 : Hp) (s : Sh) : Prop := ∀ H, Go b H0 H → ∀ Q : VK, (∀ v H', Go b H H' → Is b H' s v → Q v H') → te σ H Q
def EvN (b : Addr) (ta : TA) (σ : L2.St) (H0 : Hp) (ss : List Sh) : Prop := ∀ H, Go b H0 H → ∀ Q : List V → Hp → Prop, (∀ vs H', Go b H H' → IsAll b H' ss vs → Q vs H') → ta σ H Q
section
variable {b : Addr} {σ : L2.St} {H0 : Hp} {te ta tb : TE} {tr : TA} {s s1 s2 : Sh} {ss : List Sh} {K : PySem.W.Frag}
theorem e_var {i : Nat} {v : V} (h : σ[i]? = some (some v)) (k : Is b H0 s v) : Ev1 b (tVar i) σ H0 s := fun H g Q q => ⟨v, h, q v H (.refl g.1) (k.go g)⟩
theorem e_c {v : V} : Ev1 b (tC v) σ H0 (.c v) := fun H g Q q => q v H (.refl g.1) rfl
theorem n_nil : EvN b tNil σ H0 [] := fun H g Q q => q [] H (.refl g.1) rfl
theorem n_cons (h : Ev1 b te σ H0 s) (k : EvN b tr σ H0 ss) : EvN b (tCons te tr) σ H0 (s :: ss) := fun H g Q q =>
  h H g _ fun v H1 g1 i1 => k H1 (g.trans g1) _ fun vs H2 g2 i2 => q (v :: vs) H2 (g1.trans g2) ⟨v, vs, rfl, i1.go g2, i2⟩
theorem e_lst (h : EvN b tr σ H0 ss) (l : ss.length ≤ 1000) : Ev1 b (tLst tr) σ H0 (.l ss) := fun H g Q q =>
  h H g _ fun vs H1 g1 i1 => ⟨by rw [i1.length]; exact Nat.le_of_lt (small1000 l), fun p np => q _ _ (g1.new np) ⟨p, vs, rfl, g1.1.ne np, upd_same, i1.go ((Go.refl g1.1).new np)⟩⟩
theorem e_tup (h : EvN b tr σ H0 ss) (l : ss.length ≤ 1000) : Ev1 b (tTup tr) σ H0 (.t ss) := fun H g Q q =>
  h H g _ fun vs H1 g1 i1 => ⟨by rw [i1.length]; exact Nat.le_of_lt (small1000 l), fun p np => q _ _ (g1.new np) ⟨p, vs, rfl, g1.1.ne np, upd_same, i1.go ((Go.refl g1.1).new np)⟩⟩
/-- xs + ys -/
theorem e_cat {xs ys : List Sh} (h : Ev1 b ta σ H0 (.l xs)) (k : Ev1 b tb σ H0 (.l ys)) (l : xs.length + ys.length ≤ 1000) : Ev1 b (tOp rCat ta tb) σ H0 (.l (xs ++ ys)) := fun H g Q q =>
  h H g _ fun v H1 g1 i1 => k H1 (g.trans g1) _ fun w H2 g2 i2 => by
    obtain ⟨p1, vs, rfl, n1, o1, r1⟩ := i1.go g2
    obtain ⟨p2, ws, rfl, n2, o2, r2⟩ := i2
    refine ⟨p1, p2, vs, ws, rfl, rfl, o1, o2, by rw [r1.length, r2.length]; exact Nat.le_of_lt (small1000 l), fun p np => ?_⟩
    exact q _ _ ((g1.trans g2).new np) ⟨p, vs ++ ws, rfl, (g1.trans g2).1.ne np, upd_same, (r1.append r2).go ((Go.refl g2.1).new np)⟩
theorem e_add {i j : Int} (h : Ev1 b ta σ H0 (.c (.int i))) (k : Ev1 b tb σ H0 (.c (.int j))) : Ev1 b (tOp (rI0 fun i j => .int (i + j)) ta tb) σ H0 (.c (.int (i + j))) := fun H g Q q =>
  h H g _ fun v H1 g1 i1 => k H1 (g.trans g1) _ fun w H2 g2 i2 => ⟨i, j, i1, i2, q _ H2 (g1.trans g2) rfl⟩
theorem e_sub {i j : Int} (h : Ev1 b ta σ H0 (.c (.int i))) (k : Ev1 b tb σ H0 (.c (.int j))) : Ev1 b (tOp (rI0 fun i j => .int (i - j)) ta tb) σ H0 (.c (.int (i - j))) := fun H g Q q =>
  h H g _ fun v H1 g1 i1 => k H1 (g.trans g1) _ fun w H2 g2 i2 => ⟨i, j, i1, i2, q _ H2 (g1.trans g2) rfl⟩
theorem e_le {i j : Int} (h : Ev1 b ta σ H0 (.c (.int i))) (k : Ev1 b tb σ H0 (.c (.int j))) : Ev1 b (tOp (rI0 fun i j => .bl (decide (i ≤ j))) ta tb) σ H0 (.c (.bl (decide (i ≤ j)))) := fun H g Q q =>
  h H g _ fun v H1 g1 i1 => k H1 (g.trans g1) _ fun w H2 g2 i2 => ⟨i, j, i1, i2, q _ H2 (g1.trans g2) rfl⟩
theorem e_pow {i j : Int} (h : Ev1 b ta σ H0 (.c (.int i))) (k : Ev1 b tb σ H0 (.c (.int j))) (hc : CPow i j) : Ev1 b (tOp (rI CPow fun i j => .int (i ^ j.toNat)) ta tb) σ H0 (.c (.int (i ^ j.toNat))) := fun H g Q q =>
  h H g _ fun v H1 g1 i1 => k H1 (g.trans g1) _ fun w H2 g2 i2 => ⟨i, j, i1, i2, hc, q _ H2 (g1.trans g2) rfl⟩
theorem e_neg {i : Int} (h : Ev1 b ta σ H0 (.c (.int i))) : Ev1 b (tUn (rU fun i => .int (-i)) ta) σ H0 (.c (.int (-i))) := fun H g Q q =>
  h H g _ fun v H1 g1 i1 => ⟨i, i1, q _ H1 g1 rfl⟩
/-- a and b of bools -/
theorem e_and {x y : Bool} (h : Ev1 b ta σ H0 (.c (.bl x))) (k : x = true → Ev1 b tb σ H0 (.c (.bl y))) : Ev1 b (tAndV ta tb) σ H0 (.c (.bl (x && y))) := fun H g Q q =>
  h H g _ fun v H1 g1 i1 => ⟨x, i1, by
    cases x with
    | true => exact k rfl H1 (g.trans g1) _ fun w H2 g2 i2 => q w H2 (g1.trans g2) i2
    | false => exact q _ H1 g1 rfl⟩
/-- text + text -/
theorem e_cats {x y : Str} (h : Ev1 b ta σ H0 (.c (.str x))) (k : Ev1 b tb σ H0 (.c (.str y))) (l : x.length + y.length ≤ 1000) : Ev1 b (tOp (fun x y H Q => ∃ i j, x = .str i ∧ y = .str j ∧ i.length + j.length ≤ sizeLine ∧ Q (.str (i ++ j)) H) ta tb) σ H0 (.c (.str (x ++ y))) := fun H g Q q =>
  h H g _ fun v H1 g1 i1 => k H1 (g.trans g1) _ fun w H2 g2 i2 => ⟨x, y, i1, i2, Nat.le_of_lt (small1000 l), q _ H2 (g1.trans g2) rfl⟩
theorem e_lens {x : Str} (h : Ev1 b te σ H0 (.c (.str x))) (l : x.length ≤ 1000) : Ev1 b (tCB (fun xs H Q => ∃ z, xs = [.str z] ∧ z.length ≤ sizeLine ∧ Q (.int z.length) H) (tCons te tNil)) σ H0 (.c (.int x.length)) := fun H g Q q =>
  h H g _ fun v H1 g1 i1 => ⟨x, by rw [show v = _ from i1], Nat.le_of_lt (small1000 l), q _ H1 g1 rfl⟩
/-- 1 <= n <= 6 -/
theorem e_chain {i j k : Int} {tc : TE} (h1 : Ev1 b ta σ H0 (.c (.int i))) (h2 : Ev1 b tb σ H0 (.c (.int j))) (h3 : Ev1 b tc σ H0 (.c (.int k))) :
    Ev1 b (tChain (rI0 fun i j => .bl (decide (i ≤ j))) (rI0 fun i j => .bl (decide (i ≤ j))) ta tb tc) σ H0 (.c (.bl (decide (i ≤ j) && decide (j ≤ k)))) := fun H g Q q =>
  h1 H g _ fun v H1 g1 i1 => h2 H1 (g.trans g1) _ fun w H2 g2 i2 => by
    refine ⟨i, j, i1, i2, _, rfl, ?_⟩
    by_cases e : i ≤ j
    · rw [decide_eq_true e]
      refine iteT (h3 H2 (g.trans (g1.trans g2)) _ fun u H3 g3 i3 => ⟨j, k, i2, i3, ?_⟩)
      exact q _ H3 ((g1.trans g2).trans g3) (by rw [decide_eq_true e]; rfl)
    · rw [decide_eq_false e]
      exact iteF (q _ H2 (g1.trans g2) (by rw [decide_eq_false e]; rfl))
/-- a call by a promise -/
theorem e_call {sp : Sp} {E : XK} (h : EvN b tr σ H0 ss) (k : ∀ vs H, Go b H0 H → IsAll b H ss vs → ∀ Q : VK, (∀ v H', Go b H H' → Is b H' s v → Q v H') → sp (vs ++ []) H Q E) : Ev1 b (tCall sp [] E tr) σ H0 s := fun H g Q q =>
  h H g _ fun vs H1 g1 i1 => k vs H1 (g.trans g1) i1 Q fun v H2 g2 i2 => q v H2 (g1.trans g2) i2
theorem Go.of_same {H H' : Hp} (h : Bag H b) (s : Same H H') : Go b H H' := (Go.refl h).same s
end
theorem is1 {b : Addr} {H : Hp} {s : Sh} {vs : List V} (h : IsAll b H [s] vs) : ∃ v, vs = [v] ∧ Is b H s v := by
  obtain ⟨v, ws, rfl, r, rfl⟩ := h
  exact ⟨v, rfl, r⟩
theorem is2 {b : Addr} {H : Hp} {s t : Sh} {vs : List V} (h : IsAll b H [s, t] vs) : ∃ v w, vs = [v, w] ∧ Is b H s v ∧ Is b H t w := by
  obtain ⟨v, ws, rfl, r, h⟩ := h
  obtain ⟨w, rfl, r2⟩ := is1 h
  exact ⟨v, w, rfl, r, r2⟩
theorem is3 {b : Addr} {H : Hp} {s t u : Sh} {vs : List V} (h : IsAll b H [s, t, u] vs) : ∃ v w x, vs = [v, w, x] ∧ Is b H s v ∧ Is b H t w ∧ Is b H u x := by
  obtain ⟨v, ws, rfl, r, h⟩ := h
  obtain ⟨w, x, rfl, r2, r3⟩ := is2 h
  exact ⟨v, w, x, rfl, r, r2, r3⟩
mutual
theorem Is.keep {b : Addr} {H H' : Hp} (g : ∀ a o, a ≠ b → H a = some o → H' a = some o) : ∀ {s : Sh} {v : V}, Is b H s v → Is b H' s v
  | .c x, v, h => h
  | .is p, v, h => h
  | .l xs, v, h => by
    obtain ⟨p, vs, e, n, o, r⟩ := h
    exact ⟨p, vs, e, n, g _ _ n o, IsAll.keep g r⟩
  | .t xs, v, h => by
    obtain ⟨p, vs, e, n, o, r⟩ := h
    exact ⟨p, vs, e, n, g _ _ n o, IsAll.keep g r⟩
  | .o xs, v, h => IsOne.keep g (show IsOne b H xs v from h)
  | .m C ns ss, v, h => by
    obtain ⟨a, d, vs, e, n1, o1, l, r⟩ := h
    exact ⟨a, d, vs, e, n1, g _ _ n1 o1, l, IsAll.keep g r⟩
theorem IsAll.keep {b : Addr} {H H' : Hp} (g : ∀ a o, a ≠ b → H a = some o → H' a = some o) : ∀ {ss : List Sh} {vs : List V}, IsAll b H ss vs → IsAll b H' ss vs
  | [], _, h => h
  | _ :: _, _, h => by
    obtain ⟨v, ws, e, r, q⟩ := h
    exact ⟨v, ws, e, Is.keep g r, IsAll.keep g q⟩
theorem IsOne.keep {b : Addr} {H H' : Hp} (g : ∀ a o, a ≠ b → H a = some o → H' a = some o) : ∀ {ss : List Sh} {v : V}, IsOne b H ss v → IsOne b H' ss v
  | [], _, h => h
  | _ :: _, _, h => by
    rcases h with h | h
    · exact .inl (Is.keep g h)
    · exact .inr (IsOne.keep g h)
end
theorem Is.same {b : Addr} {H H' : Hp} (g : Same H H') {s : Sh} {v : V} (h : Is b H s v) : Is b H' s v := h.keep fun a o _ e => g a o e
mutual
/-- no list in it -/
def noL : Sh → Bool
  | .c _ => true
  | .is _ => true
  | .t xs => noLs xs
  | .m _ _ xs => noLs xs
  | .l _ => false
  | .o _ => false
def noLs : List Sh → Bool
  | [] => true
  | s :: r => noL s && noLs r
end
theorem noLs_map {α : Type} (f : α → Sh) (h : ∀ x, noL (f x) = true) : ∀ l : List α, noLs (l.map f) = true
  | [] => rfl
  | x :: l => by rw [List.map_cons]; show (noL (f x) && noLs (l.map f)) = true; rw [h x, noLs_map f h l]; rfl
mutual
/-- a list changes that is no part of it -/
theorem Is.put {b D : Addr} {H H' : Hp} {ys : List V} (e : H D = some (.lst ys)) (g : ∀ a o, a ≠ D → H a = some o → H' a = some o) : ∀ {s : Sh} {v : V}, noL s = true → Is b H s v → Is b H' s v
  | .c x, v, _, h => h
  | .is p, v, _, h => h
  | .l xs, v, d, h => by cases d
  | .t xs, v, d, h => by
    obtain ⟨p, vs, e1, n, o, r⟩ := h
    exact ⟨p, vs, e1, n, g _ _ (fun z => by rw [z, e] at o; cases o) o, IsAll.put e g (show noLs xs = true from d) r⟩
  | .o xs, v, d, h => by cases d
  | .m C ns ss, v, d, h => by
    obtain ⟨a, d', vs, e1, n1, o1, l, r⟩ := h
    exact ⟨a, d', vs, e1, n1, g _ _ (fun z => by rw [z, e] at o1; cases o1) o1, l, IsAll.put e g (show noLs ss = true from d) r⟩
theorem IsAll.put {b D : Addr} {H H' : Hp} {ys : List V} (e : H D = some (.lst ys)) (g : ∀ a o, a ≠ D → H a = some o → H' a = some o) : ∀ {ss : List Sh} {vs : List V}, noLs ss = true → IsAll b H ss vs → IsAll b H' ss vs
  | [], _, _, h => h
  | s :: r, _, d, h => by
    obtain ⟨v, ws, e1, i, q⟩ := h
    obtain ⟨d1, d2⟩ := Bool.and_eq_true_iff.mp (show (noL s && noLs r) = true from d)
    exact ⟨v, ws, e1, Is.put e g d1 i, IsAll.put e g d2 q⟩
end
/-- the data of a shape -/
def datOf : Sh → PyData
  | .c .non => .none
  | .c (.bl b) => .bool b
  | .c (.int i) => .int i
  | .c (.str s) => .str s
  | .l xs => .list (xs.attach.map fun ⟨x, _⟩ => datOf x)
  | .t xs => .tuple (xs.attach.map fun ⟨x, _⟩ => datOf x)
  | _ => .none
theorem datOf_l (xs : List Sh) : datOf (.l xs) = .list (xs.map datOf) := by rw [datOf]; congr 1; exact List.attach_map_subtype_val xs ▸ (by simp [List.map_attach_eq_pmap, List.pmap_eq_map])
theorem datOf_t (xs : List Sh) : datOf (.t xs) = .tuple (xs.map datOf) := by rw [datOf]; congr 1; exact List.attach_map_subtype_val xs ▸ (by simp [List.map_attach_eq_pmap, List.pmap_eq_map])
mutual
theorem Is.dp {K : PySem.W.Frag} {b : Addr} {H : Hp} : ∀ {n : Nat} {s : Sh} {v : V}, det n s = true → Is b H s v → Dp K H v (datOf s)
  | n, .c x, v, d, h => by
    rw [show v = x from h]
    cases x with
    | non => rw [datOf]; exact .non
    | bl y => rw [datOf]; exact .bl y
    | int y => rw [datOf]; exact .int y
    | str y => rw [datOf]; exact .str y
    | _ => cases n <;> cases d
  | n, .is p, v, d, h => by cases n <;> cases d
  | n, .o p, v, d, h => by cases n <;> cases d
  | n, .m _ _ _, v, d, h => by cases n <;> cases d
  | 0, .l xs, v, d, h => by cases d
  | 0, .t xs, v, d, h => by cases d
  | n + 1, .l xs, v, d, h => by
    obtain ⟨p, vs, e, _, o, r⟩ := h
    obtain ⟨_, d2⟩ := Bool.and_eq_true_iff.mp (show (decide (xs.length ≤ 1000) && xs.all (det n)) = true from d)
    rw [e, datOf_l]
    exact .lst (SqL.of o) (IsAll.dp d2 r)
  | n + 1, .t xs, v, d, h => by
    obtain ⟨p, vs, e, _, o, r⟩ := h
    obtain ⟨_, d2⟩ := Bool.and_eq_true_iff.mp (show (decide (xs.length ≤ 1000) && xs.all (det n)) = true from d)
    rw [e, datOf_t]
    exact .tup (SqT.of o) (IsAll.dp d2 r)
theorem IsAll.dp {K : PySem.W.Frag} {b : Addr} {H : Hp} : ∀ {n : Nat} {ss : List Sh} {vs : List V}, ss.all (det n) = true → IsAll b H ss vs → DpAll K H vs (ss.map datOf)
  | n, [], _, _, h => by rw [show _ = [] from h]; exact .nil
  | n, s :: r, _, d, h => by
    obtain ⟨v, ws, e, i, q⟩ := h
    rw [List.all_cons, Bool.and_eq_true] at d
    rw [e]
    exact .cons (Is.dp d.1 i) (IsAll.dp d.2 q)
end
end Rd
set_option maxHeartbeats 2000000
namespace Rd
open PySem PySem.Spec PyProof.Rows L2
/-! ## for x in a list or a tuple -/
def iSeq (K : PySem.W.Frag) (tl : TE) : TI := fun σ H R => tl σ H fun x H1 => ∃ a, x = .ref a ∧ (((∃ xs, SqL K H1 a xs) ∧ R (Itl K a) H1) ∨ ((∃ xs, SqT K H1 a xs) ∧ R (Itt K a) H1))
theorem pi_seq {X : Cx} {tg l : Expr} {tl : TE} (hl : PE X l tl) : PI X tg l (iSeq X.K tl) := by
  constructor
  intro pins s σ H R I h
  refine thn (hl.run pins s σ H _ I h) fun v s1 z => ?_
  obtain ⟨x, H1, I1, r1, a, e, z⟩ := z
  subst e
  cases r1
  have new : ∀ b, b ∈ [s1.heap.objs.size] → FpOk X pins H1 b := fun b hb => by
    rw [List.mem_singleton.mp hb]
    exact I1.fpOk (Nat.le_refl _) (I1.hok.fresh (Nat.le_refl _))
  rcases z with ⟨⟨xs, hq⟩, q⟩ | ⟨⟨xs, hq⟩, q⟩
  · obtain ⟨its, rv, p, hz⟩ := I1.list hq
    apply wpAny_pyIter_list p.isList
    exact ⟨_, _, _, _, H1, rfl, I1.kept (t' := s1.toks) (fun b o e => Heap.get?_push_of_some _ e), turn_list a s1.heap.objs.size, ⟨_, Heap.get?_push_size _ rfl, rfl, rfl⟩, new, q⟩
  · obtain ⟨its, rv, p, hz⟩ := I1.tuple hq
    apply wpAny_pyIter_tuple (show s1.heap.IsTuple a its.toArray from p)
    exact ⟨_, _, _, _, H1, rfl, I1.kept (t' := s1.toks) (fun b o e => Heap.get?_push_of_some _ e), turn_tuple a s1.heap.objs.size, ⟨_, Heap.get?_push_size _ rfl, rfl, rfl⟩, new, q⟩
end Rd
set_option maxHeartbeats 4000000
namespace Rd
open PySem PySem.Spec PyProof.Rows L2
open C8 (pss_cut tCut)
/-! ## the __init__ of the exceptions -/
/-- from one heap to a later one that has the exception a with the dict d beside -/
structure AtX (H' H : Hp) (a C d : Addr) (fs : List (Str × V)) : Prop where
  da : d ≠ a
  nd : H d = none
  ea : H' a = some (exo a C (some d))
  ed : H' d = some (exd d fs)
  keep : ∀ p, p ≠ a → p ≠ d → H' p = H p
section
variable {K : PySem.W.Frag} {B newId initId : String} {bmB : List Value} {C a d : Addr} {f : Str} {y : V} {fs : List (Str × V)} {σ : L2.St} {H H1 : Hp} {D : Ends} {te : TE}
theorem gst_first (h0 : σ[0]? = some (some (.ref a))) (T : XC K C B newId initId bmB) (n : PySem.W.findIn K (.ref C) f = some none) (e : H a = some (exo a C none)) (ht : ∀ Q : VK, Q y H → te σ H Q) (q : ∀ d H', AtX H' H a C d [(f, y)] → D.nx σ H') : tGst K f (tVar 0) te D σ H :=
  ht _ ⟨.ref a, h0, a, C, B, newId, initId, bmB, rfl, T, n, .inl ⟨e, fun dx nd da => q dx _ ⟨da, nd, upd_same, by rw [upd_ne da, upd_same], fun p pa pd => by rw [upd_ne pa, upd_ne pd]⟩⟩⟩
theorem gst_next (h0 : σ[0]? = some (some (.ref a))) (T : XC K C B newId initId bmB) (n : PySem.W.findIn K (.ref C) f = some none) (A : AtX H1 H a C d fs) (hl : fs.length ≤ 900) (ht : ∀ Q : VK, Q y H1 → te σ H1 Q) (q : ∀ H', AtX H' H a C d ((f, y) :: fs) → D.nx σ H') : tGst K f (tVar 0) te D σ H1 :=
  ht _ ⟨.ref a, h0, a, C, B, newId, initId, bmB, rfl, T, n, .inr ⟨d, fs, A.ea, A.ed, hl, q _ ⟨A.da, A.nd, by rw [upd_ne (Ne.symm A.da)]; exact A.ea, upd_same, fun p pa pd => by rw [upd_ne pd]; exact A.keep p pa pd⟩⟩⟩
end
def spInit (C : Addr) (nm : List Str) (code : Str) : Sp := fun vs H Q _ => ∃ (a : Addr) (ws : List V), vs = .ref a :: ws ∧ ws.length = nm.length ∧ H a = some (exo a C none) ∧
  ∀ d H', AtX H' H a C d (("code", .str code) :: (nm.zip ws).reverse) → Q .non H'
theorem spInit_len {C : Addr} {nm ps : List Str} {code : Str} {vs : List V} {H : Hp} {Q : VK} {E : XK} (e : ps.length = nm.length + 1) (h : spInit C nm code vs H Q E) : vs.length = ps.length := by
  obtain ⟨a, ws, rfl, l, _⟩ := h
  rw [List.length_cons, l, e]
theorem vals_rev {zs : List V} {ws : List Value} (h : Vals zs ws) : Vals zs.reverse ws.reverse := by
  induction h with
  | nil => exact .nil
  | cons h t ih => rw [List.reverse_cons, List.reverse_cons]; exact ih.append (.cons h .nil)
section
variable {P : Program} {w : World} {K : PySem.W.Frag} {mg : Str → Option Value} {base : Heap}
theorem DX.kw {x qual : Str} {st : Stmt} {ps nm : List Str} {B newId initId : String} {bmB : List Value} (D : DX K mg x qual st ps nm B newId initId bmB) (ks : List Str)
    (h : ∀ (kV doc pm : Value) (an : Option Addr) (cdv ct : Value) (us ws : List Value), us.length = 1 → ws.length = ks.length → bindArgs (PySem.W.fnOf "__init__" qual (defArgs st) (defBody st) (defScope st) .none kV doc pm an cdv ct) ⟨us, ks.zip ws⟩ = pure (ps.zip (us ++ ws.reverse))) :
    KBn K D.fd ps 1 ks (fun us ws => us ++ ws.reverse) (fun vs zs => vs ++ zs.reverse) where
  to := fun s us ws _ l1 l2 => by
    obtain ⟨oc, od, kV, doc, pm, an, cdv, ct, osl, e, lk, hcd⟩ := D.F.ex
    rw [e]
    exact .of_eq (h kV doc pm an cdv ct us ws l1 l2)
  rel := fun r rz => r.append (vals_rev rz)
theorem ok_init_InvalidName (T : Txt K mg) : FnOk P w K mg base CX0 1 T.x_InvalidName.f T.x_InvalidName.fd ["self", "value"] (spInit T.x_InvalidName.C ["value"] "InvalidName") := by
  refine T.x_InvalidName.F.ok sc_i_InvalidName (fun vs H Q E h => spInit_len rfl h) (fun cdv A outer s H vs Q E hr h => ?_)
  obtain ⟨a, ws, rfl, l, e, q⟩ := h
  match ws, l with
  | [y0], _ =>
    refine ⟨_, (pss_cons (ps_gst (pv 0) (pv 1)) (pss_one (ps_gst (pv 0) pe_str))), ?_⟩
    refine gst_first (a := a) rfl T.x_InvalidName.T (T.x_InvalidName.no "value" (by decide +kernel)) e (fun Q q => ⟨y0, rfl, q⟩) fun d H1 A1 => ?_
    dsimp only
    refine gst_next (a := a) rfl T.x_InvalidName.T (T.x_InvalidName.no "code" (by decide +kernel)) A1 (Nat.le_of_ble_eq_true rfl) (fun Q q => q) fun H2 A2 => ?_
    exact q d _ A2
theorem ok_init_InvalidNumber (T : Txt K mg) : FnOk P w K mg base CX0 1 T.x_InvalidNumber.f T.x_InvalidNumber.fd ["self", "value"] (spInit T.x_InvalidNumber.C ["value"] "InvalidNumber") := by
  refine T.x_InvalidNumber.F.ok sc_i_InvalidNumber (fun vs H Q E h => spInit_len rfl h) (fun cdv A outer s H vs Q E hr h => ?_)
  obtain ⟨a, ws, rfl, l, e, q⟩ := h
  match ws, l with
  | [y0], _ =>
    refine ⟨_, (pss_cons (ps_gst (pv 0) (pv 1)) (pss_one (ps_gst (pv 0) pe_str))), ?_⟩
    refine gst_first (a := a) rfl T.x_InvalidNumber.T (T.x_InvalidNumber.no "value" (by decide +kernel)) e (fun Q q => ⟨y0, rfl, q⟩) fun d H1 A1 => ?_
    dsimp only
    refine gst_next (a := a) rfl T.x_InvalidNumber.T (T.x_InvalidNumber.no "code" (by decide +kernel)) A1 (Nat.le_of_ble_eq_true rfl) (fun Q q => q) fun H2 A2 => ?_
    exact q d _ A2
theorem ok_init_InvalidTimes (T : Txt K mg) : FnOk P w K mg base CX0 1 T.x_InvalidTimes.f T.x_InvalidTimes.fd ["self", "value"] (spInit T.x_InvalidTimes.C ["value"] "InvalidTimes") := by
  refine T.x_InvalidTimes.F.ok sc_i_InvalidTimes (fun vs H Q E h => spInit_len rfl h) (fun cdv A outer s H vs Q E hr h => ?_)
  obtain ⟨a, ws, rfl, l, e, q⟩ := h
  match ws, l with
  | [y0], _ =>
    refine ⟨_, (pss_cons (ps_gst (pv 0) (pv 1)) (pss_one (ps_gst (pv 0) pe_str))), ?_⟩
    refine gst_first (a := a) rfl T.x_InvalidTimes.T (T.x_InvalidTimes.no "value" (by decide +kernel)) e (fun Q q => ⟨y0, rfl, q⟩) fun d H1 A1 => ?_
    dsimp only
    refine gst_next (a := a) rfl T.x_InvalidTimes.T (T.x_InvalidTimes.no "code" (by decide +kernel)) A1 (Nat.le_of_ble_eq_true rfl) (fun Q q => q) fun H2 A2 => ?_
    exact q d _ A2
theorem ok_init_InvalidStep (T : Txt K mg) : FnOk P w K mg base CX0 1 T.x_InvalidStep.f T.x_InvalidStep.fd ["self", "value"] (spInit T.x_InvalidStep.C ["value"] "InvalidStep") := by
  refine T.x_InvalidStep.F.ok sc_i_InvalidStep (fun vs H Q E h => spInit_len rfl h) (fun cdv A outer s H vs Q E hr h => ?_)
  obtain ⟨a, ws, rfl, l, e, q⟩ := h
  match ws, l with
  | [y0], _ =>
    refine ⟨_, (pss_cons (ps_gst (pv 0) (pv 1)) (pss_one (ps_gst (pv 0) pe_str))), ?_⟩
    refine gst_first (a := a) rfl T.x_InvalidStep.T (T.x_InvalidStep.no "value" (by decide +kernel)) e (fun Q q => ⟨y0, rfl, q⟩) fun d H1 A1 => ?_
    dsimp only
    refine gst_next (a := a) rfl T.x_InvalidStep.T (T.x_InvalidStep.no "code" (by decide +kernel)) A1 (Nat.le_of_ble_eq_true rfl) (fun Q q => q) fun H2 A2 => ?_
    exact q d _ A2
theorem ok_init_TooMany (T : Txt K mg) : FnOk P w K mg base CX0 1 T.x_TooMany.f T.x_TooMany.fd ["self", "subject", "most"] (spInit T.x_TooMany.C ["subject", "most"] "TooMany") := by
  refine T.x_TooMany.F.ok sc_i_TooMany (fun vs H Q E h => spInit_len rfl h) (fun cdv A outer s H vs Q E hr h => ?_)
  obtain ⟨a, ws, rfl, l, e, q⟩ := h
  match ws, l with
  | [y0, y1], _ =>
    refine ⟨_, (pss_cons (ps_gst (pv 0) (pv 1)) (pss_cons (ps_gst (pv 0) (pv 2)) (pss_one (ps_gst (pv 0) pe_str)))), ?_⟩
    refine gst_first (a := a) rfl T.x_TooMany.T (T.x_TooMany.no "subject" (by decide +kernel)) e (fun Q q => ⟨y0, rfl, q⟩) fun d H1 A1 => ?_
    dsimp only
    refine gst_next (a := a) rfl T.x_TooMany.T (T.x_TooMany.no "most" (by decide +kernel)) A1 (Nat.le_of_ble_eq_true rfl) (fun Q q => ⟨y1, rfl, q⟩) fun H2 A2 => ?_
    dsimp only
    refine gst_next (a := a) rfl T.x_TooMany.T (T.x_TooMany.no "code" (by decide +kernel)) A2 (Nat.le_of_ble_eq_true rfl) (fun Q q => q) fun H3 A3 => ?_
    exact q d _ A3
theorem ok_init_UnknownEntry (T : Txt K mg) : FnOk P w K mg base CX0 1 T.x_UnknownEntry.f T.x_UnknownEntry.fd ["self", "entry"] (spInit T.x_UnknownEntry.C ["entry"] "UnknownEntry") := by
  refine T.x_UnknownEntry.F.ok sc_i_UnknownEntry (fun vs H Q E h => spInit_len rfl h) (fun cdv A outer s H vs Q E hr h => ?_)
  obtain ⟨a, ws, rfl, l, e, q⟩ := h
  match ws, l with
  | [y0], _ =>
    refine ⟨_, (pss_cons (ps_gst (pv 0) (pv 1)) (pss_one (ps_gst (pv 0) pe_str))), ?_⟩
    refine gst_first (a := a) rfl T.x_UnknownEntry.T (T.x_UnknownEntry.no "entry" (by decide +kernel)) e (fun Q q => ⟨y0, rfl, q⟩) fun d H1 A1 => ?_
    dsimp only
    refine gst_next (a := a) rfl T.x_UnknownEntry.T (T.x_UnknownEntry.no "code" (by decide +kernel)) A1 (Nat.le_of_ble_eq_true rfl) (fun Q q => q) fun H2 A2 => ?_
    exact q d _ A2
end
def exF (nm : List Str) (code : Str) (ws : List V) : List (Str × V) := ("code", .str code) :: (nm.zip ws).reverse
theorem mkqR {C : Addr} {nm : List Str} {code : Str} {ws : List V} {H1 : Hp} {Q : XK} (l : ws.length = nm.length) (q : ∀ d H', Same H1 H' → H' d = some (.xd (exF nm code ws)) → Q (.ref C) (some d) H') :
    MkQ (spInit C nm code) C (fun a => a :: ws) H1 (fun v H2 => ∃ (a d : Addr) (fs : List (Str × V)), v = .ref a ∧ H2 a = some (exo a C (some d)) ∧ H2 d = some (exd d fs) ∧ H1 d = none ∧ Q (.ref C) (some d) (upd (del H2 a) d (.xd fs))) := fun a na =>
  ⟨a, ws, rfl, l, upd_same, fun d H' A => ⟨rfl, by
    have nd : H1 d = none := by
      have := A.nd
      rw [upd_ne A.da] at this
      exact this
    refine ⟨a, d, _, rfl, A.ea, A.ed, nd, q d _ (fun p o e => ?_) upd_same⟩
    rw [upd_ne (ne_of_none e nd), del_ne (ne_of_none e na), A.keep p (ne_of_none e na) (ne_of_none e nd), upd_ne (ne_of_none e na)]
    exact e⟩⟩
end Rd
set_option maxHeartbeats 4000000
namespace Rd
open PySem PySem.Spec PyProof.Rows L2
open C8 (pss_cut tCut)
/-! ## the times of a step -/
/-- rising numbers, from l on -/
def riseB : Int → List V → Bool
  | _, [] => true
  | l, .int i :: r => (decide (l ≤ i) && decide (i ≤ 1000000)) && riseB (i + 1) r
  | _, _ :: _ => false
def timesB (xs : List V) : Bool := (decide (1 ≤ xs.length) && decide (xs.length ≤ 24)) && riseB 1 xs
theorem riseB_no {l : Int} {x : V} {r : List V} (h : isNum x l 1000000 = false) : riseB l (x :: r) = false := by
  cases x with
  | int i =>
    show ((decide (l ≤ i) && decide (i ≤ 1000000)) && riseB (i + 1) r) = false
    rw [show (decide (l ≤ i) && decide (i ≤ 1000000)) = false from h]
    rfl
  | _ => rfl
theorem riseB_yes {l : Int} {x : V} {r : List V} (h : isNum x l 1000000 = true) : ∃ i, x = .int i ∧ riseB l (x :: r) = riseB (i + 1) r := by
  cases x with
  | int i =>
    refine ⟨i, rfl, ?_⟩
    show ((decide (l ≤ i) && decide (i ≤ 1000000)) && riseB (i + 1) r) = _
    rw [show (decide (l ≤ i) && decide (i ≤ 1000000)) = true from h]
    rfl
  | _ => cases h
/-- what may be handed in for times, and whether they are -/
inductive TimesV (K : PySem.W.Frag) (H : Hp) : V → Bool → List V → Prop
  | sc {x : V} (h : isSc x = true) : TimesV K H x false []
  | lst {a : Addr} {xs : List V} (h : H a = some (.lst xs)) (n : xs.length ≤ 1000) (k : ∀ x, x ∈ xs → ∃ t, Kd K H x t) : TimesV K H (.ref a) (timesB xs) xs
  | tup {a : Addr} {xs : List V} (h : H a = some (.tup xs)) (n : xs.length ≤ 1000) (k : ∀ x, x ∈ xs → ∃ t, Kd K H x t) : TimesV K H (.ref a) (timesB xs) xs
theorem TimesV.same {K : PySem.W.Frag} {H H' : Hp} (s : Same H H') {v : V} {b : Bool} {ys : List V} (h : TimesV K H v b ys) : TimesV K H' v b ys := by
  cases h with
  | sc h => exact .sc h
  | lst h n k => exact .lst (s _ _ h) n fun x m => let ⟨t, q⟩ := k x m; ⟨t, q.same s⟩
  | tup h n k => exact .tup (s _ _ h) n fun x m => let ⟨t, q⟩ := k x m; ⟨t, q.same s⟩
theorem TimesV.items {K : PySem.W.Frag} {H : Hp} {v : V} {ys : List V} (h : TimesV K H v true ys) : ∃ a, v = .ref a ∧ (H a = some (.lst ys) ∨ H a = some (.tup ys)) ∧ ys.length ≤ 1000 ∧ timesB ys = true := by
  generalize e : true = b at h
  cases h with
  | sc h => cases e
  | lst h n k => exact ⟨_, rfl, .inl h, n, rfl⟩
  | tup h n k => exact ⟨_, rfl, .inr h, n, rfl⟩
theorem TimesV.ty {K : PySem.W.Frag} {H : Hp} {v : V} {b : Bool} {ys : List V} (h : TimesV K H v b ys) : ∃ t, Kd K H v t := by
  cases h with
  | sc h => exact ⟨_, .sc h⟩
  | lst h n k => exact ⟨_, .lst (SqL.of h)⟩
  | tup h n k => exact ⟨_, .tup (SqT.of h)⟩
section
variable {P : Program} {w : World} {K : PySem.W.Frag} {mg : Str → Option Value} {base : Heap}
def spAreT (K : PySem.W.Frag) : Sp := fun vs H Q _ => ∃ v b ys, vs = [v] ∧ TimesV K H v b ys ∧ ∀ H', Same H H' → Q (.bl b) H'
theorem sc_not_seq {v : V} (h : isSc v = true) : kitB (tyn v) "list" = some false ∧ kitB (tyn v) "tuple" = some false := by
  cases v with
  | non => exact ⟨by decide +kernel, by decide +kernel⟩
  | bl b => exact ⟨by show kitB "bool" "list" = some false; decide +kernel, by show kitB "bool" "tuple" = some false; decide +kernel⟩
  | int i => exact ⟨by show kitB "int" "list" = some false; decide +kernel, by show kitB "int" "tuple" = some false; decide +kernel⟩
  | str z => exact ⟨by show kitB "str" "list" = some false; decide +kernel, by show kitB "str" "tuple" = some false; decide +kernel⟩
  | _ => cases h
theorem ok_are_times (T : Txt K mg) : FnOk P w K mg base CX0 3 T.d_are_times.f T.d_are_times.fd ["value"] (spAreT K) := by
  refine T.d_are_times.F.ok sc_are_times (fun vs H Q E h => ?_) (fun cdv A outer s H vs Q E hr h => ?_)
  · obtain ⟨v, b, ys, rfl, _⟩ := h
    rfl
  · obtain ⟨v, b, ys, rfl, hv, q⟩ := h
    refine ⟨_, (pss_cons (ps_if (PW.pt (pw_or (pt_not (pt_val (pe_callB call_isiT (by rfl) T.z_isinstance (by decide +kernel) (pa_cons (pv 0) (pa_cons (pe_tup (pa_cons (pe_bltn (v := .ty "list") (by rfl) T.z_list (by decide +kernel) rfl) (pa_cons (pe_bltn (v := .ty "tuple") (by rfl) T.z_tuple (by decide +kernel) rfl) pa_nil))) pa_nil))))) (pw_or1 (pt_not (pt_chain op_le op_le pe_int (pe_callB call_len_seq (by rfl) T.z_len (by decide +kernel) (pa_cons (pv 0) pa_nil)) (pe_glob (v := .int 24) rfl T.c_MOST_TIMES ⟨_, rfl⟩)))))) (pss_one (ps_ret pe_bl)) pss_nil)
      (pss_cons (ps_set (i := 1) sc_are_times.nd rfl (Or.inl rfl) pe_int)
      (pss_cons (ps_for PassesOwn.never rfl (pi_seq (pv 0)) (pg_name (i := 2) sc_are_times.nd rfl (Or.inl rfl)) (pss_cons (ps_if (pt_not (pt_val (pe_call (ok_is_number T) (hr.mono (by decide)) (by rfl) T.d_is_number.g T.d_is_number.F.kp T.d_is_number.b .nil pass0 (pa_cons (pv 2) (pa_cons (pv 1) (pa_cons (pe_glob (v := .int 1000000) rfl T.c_MOST_TIME ⟨_, rfl⟩) pa_nil)))))) (pss_one (ps_ret pe_bl)) pss_nil)
      (pss_one (ps_set (i := 1) sc_are_times.nd rfl (Or.inl rfl) (pe_op op_add (pv 2) pe_int)))))
      (pss_one (ps_ret pe_bl))))), ?_⟩
    refine ⟨v, rfl, by show 2 ≤ sizeLine; decide, fun p np => ?_⟩
    have s1 := same_new (o := .tup [.ty "list", .ty "tuple"]) np
    have hv1 := hv.same s1
    generalize hH : upd H p (.tup [.ty "list", .ty "tuple"]) = H1 at s1 hv1
    have e1 : H1 p = some (.tup [.ty "list", .ty "tuple"]) := by rw [← hH]; exact upd_same
    cases hv1 with
    | sc h =>
      obtain ⟨k1, k2⟩ := sc_not_seq h
      exact ⟨v, p, _, _, _, _, rfl, e1, .cons (.ty _) (.cons (.ty _) .nil), ty_sc h, kit2 k1 k2, _, rfl, iteT (q H1 s1)⟩
    | lst h0 n k =>
      rename_i a
      have h := SqL.of (K := K) h0
      refine ⟨.ref a, p, _, _, _, _, rfl, e1, .cons (.ty _) (.cons (.ty _) .nil), ty_seqL h, kit2 (t := "list") (b1 := true) (b2 := false) (by decide +kernel) (by decide +kernel), ?_⟩
      refine ⟨_, rfl, iteF ?_⟩
      refine ⟨.ref a, rfl, a, ys, rfl, .inl h, 1, _, rfl, rfl, _, rfl, ?_⟩
      have no : ¬ (1 ≤ ys.length ∧ ys.length ≤ 24) → timesB ys = false := fun c => by
        unfold timesB
        rw [← Bool.decide_and, decide_eq_false c]
        rfl
      refine ite2 (fun c1 => ?_) (fun c1 => ?_)
      · have l1 : 1 ≤ ys.length := by have := of_decide_eq_true c1; omega
        refine ⟨_, 24, rfl, rfl, _, rfl, ?_⟩
        show if (!decide ((ys.length : Int) ≤ 24)) = true then _ else _
        by_cases c2 : ys.length ≤ 24
        · refine iteNS (by omega) ?_
          have eT : timesB ys = riseB 1 ys := by
            unfold timesB
            rw [decide_eq_true l1, decide_eq_true c2]
            rfl
          rw [eT] at q
          refine ⟨.ref a, rfl, a, rfl, .inl ⟨⟨ys, h⟩, ?_⟩⟩
          refine for_list (K := K) (a := a) (xs := ys) (fun i σ H2 => Same H1 H2 ∧ ∃ l tm, σ = [some (.ref a), some (.int l), tm] ∧ riseB 1 ys = riseB l (ys.drop i)) ⟨.refl _, 1, none, rfl, rfl⟩ (fun i σ H2 _ hP => hP.1.seq h) ?_ ?_
          · rintro i x σ H2 hx ⟨s2, l, tm, rfl, er⟩
            obtain ⟨t, kx⟩ := k x (List.mem_of_getElem? hx)
            refine ⟨x, rfl, .int l, rfl, x, t, l, 1000000, rfl, kx.same s2, ?_⟩
            have ed : ys.drop i = x :: ys.drop (i + 1) := by
              obtain ⟨hi, e⟩ := List.getElem?_eq_some_iff.mp hx
              rw [List.drop_eq_getElem_cons hi, e]
            rw [ed] at er
            refine ⟨_, rfl, ite2 (fun c3 => ?_) (fun c3 => ?_)⟩
            · have e3 : isNum x l 1000000 = false := by simpa using c3
              have := q _ (s1.trans s2)
              rw [er, riseB_no e3] at this
              exact this
            · have e3 : isNum x l 1000000 = true := by simpa using c3
              obtain ⟨i', ex, e4⟩ := riseB_yes (r := ys.drop (i + 1)) e3
              subst ex
              exact ⟨.int i', rfl, i', 1, rfl, rfl, s2, i' + 1, some (.int i'), rfl, by rw [er, e4]⟩
          · rintro σ H2 ⟨s2, l, tm, rfl, er⟩
            have := q _ (s1.trans s2)
            rw [er, List.drop_length] at this
            exact this
        · rw [decide_eq_false (by omega)]
          refine iteT ?_
          have := q _ s1
          rw [no fun c => c2 c.2] at this
          exact this
      · refine ⟨_, rfl, iteT ?_⟩
        have := q _ s1
        rw [no fun c => c1 (decide_eq_true (by omega))] at this
        exact this
    | tup h0 n k =>
      rename_i a
      have h := SqT.of (K := K) h0
      refine ⟨.ref a, p, _, _, _, _, rfl, e1, .cons (.ty _) (.cons (.ty _) .nil), ty_seqT h, kit2 (t := "tuple") (b1 := false) (b2 := true) (by decide +kernel) (by decide +kernel), ?_⟩
      refine ⟨_, rfl, iteF ?_⟩
      refine ⟨.ref a, rfl, a, ys, rfl, .inr h, 1, _, rfl, rfl, _, rfl, ?_⟩
      have no : ¬ (1 ≤ ys.length ∧ ys.length ≤ 24) → timesB ys = false := fun c => by
        unfold timesB
        rw [← Bool.decide_and, decide_eq_false c]
        rfl
      refine ite2 (fun c1 => ?_) (fun c1 => ?_)
      · have l1 : 1 ≤ ys.length := by have := of_decide_eq_true c1; omega
        refine ⟨_, 24, rfl, rfl, _, rfl, ?_⟩
        show if (!decide ((ys.length : Int) ≤ 24)) = true then _ else _
        by_cases c2 : ys.length ≤ 24
        · refine iteNS (by omega) ?_
          have eT : timesB ys = riseB 1 ys := by
            unfold timesB
            rw [decide_eq_true l1, decide_eq_true c2]
            rfl
          rw [eT] at q
          refine ⟨.ref a, rfl, a, rfl, .inr ⟨⟨ys, h⟩, ?_⟩⟩
          refine for_tup (K := K) (a := a) (xs := ys) (fun i σ H2 => Same H1 H2 ∧ ∃ l tm, σ = [some (.ref a), some (.int l), tm] ∧ riseB 1 ys = riseB l (ys.drop i)) ⟨.refl _, 1, none, rfl, rfl⟩ (fun i σ H2 _ hP => same_seqT hP.1 h) ?_ ?_
          · rintro i x σ H2 hx ⟨s2, l, tm, rfl, er⟩
            obtain ⟨t, kx⟩ := k x (List.mem_of_getElem? hx)
            refine ⟨x, rfl, .int l, rfl, x, t, l, 1000000, rfl, kx.same s2, ?_⟩
            have ed : ys.drop i = x :: ys.drop (i + 1) := by
              obtain ⟨hi, e⟩ := List.getElem?_eq_some_iff.mp hx
              rw [List.drop_eq_getElem_cons hi, e]
            rw [ed] at er
            refine ⟨_, rfl, ite2 (fun c3 => ?_) (fun c3 => ?_)⟩
            · have e3 : isNum x l 1000000 = false := by simpa using c3
              have := q _ (s1.trans s2)
              rw [er, riseB_no e3] at this
              exact this
            · have e3 : isNum x l 1000000 = true := by simpa using c3
              obtain ⟨i', ex, e4⟩ := riseB_yes (r := ys.drop (i + 1)) e3
              subst ex
              exact ⟨.int i', rfl, i', 1, rfl, rfl, s2, i' + 1, some (.int i'), rfl, by rw [er, e4]⟩
          · rintro σ H2 ⟨s2, l, tm, rfl, er⟩
            have := q _ (s1.trans s2)
            rw [er, List.drop_length] at this
            exact this
        · rw [decide_eq_false (by omega)]
          refine iteT ?_
          have := q _ s1
          rw [no fun c => c2 c.2] at this
          exact this
      · refine ⟨_, rfl, iteT ?_⟩
        have := q _ s1
        rw [no fun c => c1 (decide_eq_true (by omega))] at this
        exact this
end
end Rd
set_option maxHeartbeats 4000000
namespace Rd
open PySem PySem.Spec PyProof.Rows L2
open C8 (pss_cut tCut)
/-! ## steps: made -/
def stepN : List Str := ["route", "stop", "public", "_times"]
def stepF (r st pu l : V) : List (Str × V) := stepN.zip [r, st, pu, l]
def pubB (pu : V) : Bool := decide (pu = .non) || isNum pu 0 1000000
theorem stepF_put (r st pu l : V) : putF ("_times" : Str) l (putF ("public" : Str) pu (putF ("stop" : Str) st (putF ("route" : Str) r []))) = stepF r st pu l := by
  show putF ("_times" : Str) l (putF ("public" : Str) pu (putF ("stop" : Str) st [(("route" : Str), r)])) = _
  have e1 : putF ("stop" : Str) st [(("route" : Str), r)] = [(("route" : Str), r), (("stop" : Str), st)] := by
    unfold putF
    rw [if_neg (by decide)]
    rfl
  rw [e1]
  have e2 : putF ("public" : Str) pu [(("route" : Str), r), (("stop" : Str), st)] = [(("route" : Str), r), (("stop" : Str), st), (("public" : Str), pu)] := by
    unfold putF
    rw [if_neg (by decide)]
    unfold putF
    rw [if_neg (by decide)]
    rfl
  rw [e2]
  unfold putF
  rw [if_neg (by decide)]
  unfold putF
  rw [if_neg (by decide)]
  unfold putF
  rw [if_neg (by decide)]
  rfl
theorem none_of {H H' : Hp} (s : Same H H') {l : Addr} (n : H' l = none) : H l = none := by
  cases e : H l with
  | none => rfl
  | some o => rw [s _ _ e] at n; cases n
section
variable {P : Program} {w : World} {K : PySem.W.Frag} {mg : Str → Option Value} {base : Heap}
abbrev rLOf (K : PySem.W.Frag) : List V → Hp → VK → Prop := fun xs H Q => ∃ p ys, xs = [V.ref p] ∧ (SqL K H p ys ∨ SqT K H p ys) ∧ ∀ l, H l = none → Q (V.ref l) (upd H l (.lst ys))
theorem ClsD.noA {C init : Addr} {fs : List Str} (c : ClsD K C init fs) (f : Str) (h : fs.contains f = true := by decide +kernel) : NoAttr K C f := c.no f h
/-- the four fields of a new step -/
theorem step_put {T : Txt K mg} {a d p : Addr} {r st pu : V} {ys : List V} {D : Ends} {H : Hp} (ea : H a = some (.ins T.aStep d [])) (hq : H p = some (.lst ys) ∨ H p = some (.tup ys))
    (q : ∀ l H', (∀ b o, b ≠ a → H b = some o → H' b = some o) → H l = none → l ≠ a → H' l = some (.lst ys) → H' a = some (.ins T.aStep d (stepF r st pu (.ref l))) → D.nx [some (.ref a), some r, some (.ref p), some st, some pu] H') :
    tSeq (sFld K (tVar 0) (tVar 1) "route") (tSeq (sFld K (tVar 0) (tVar 3) "stop") (tSeq (sFld K (tVar 0) (tVar 4) "public") (sFld K (tVar 0) (tCB (rLOf K) (tCons (tVar 2) tNil)) "_times"))) D [some (.ref a), some r, some (.ref p), some st, some pu] H := by
  have c := T.kStep
  have pna : p ≠ a := fun e => by rcases hq with h | h <;> rw [e, ea] at h <;> cases h
  refine ⟨r, rfl, .ref a, rfl, a, T.aStep, d, [], rfl, ea, c.cls, c.noA "route", by simp, ?_⟩
  refine ⟨st, rfl, .ref a, rfl, a, T.aStep, d, _, rfl, upd_same, c.cls, c.noA "stop", by show 1 < 1000; decide, ?_⟩
  refine ⟨pu, rfl, .ref a, rfl, a, T.aStep, d, _, rfl, upd_same, c.cls, c.noA "public", by show 2 < 1000; decide, ?_⟩
  generalize e3 : upd _ a (.ins T.aStep d (putF ("public" : Str) pu _)) = H3
  have k3 : ∀ b o, b ≠ a → H b = some o → H3 b = some o := fun b o n e => by rw [← e3, upd_ne n, upd_ne n, upd_ne n]; exact e
  have ea3 : H3 a = some (.ins T.aStep d (putF ("public" : Str) pu (putF ("stop" : Str) st (putF ("route" : Str) r [])))) := by rw [← e3]; exact upd_same
  have hq3 : SqL K H3 p ys ∨ SqT K H3 p ys := hq.elim (fun h => .inl (SqL.of (k3 _ _ pna h))) fun h => .inr (SqT.of (k3 _ _ pna h))
  refine ⟨.ref p, rfl, p, ys, rfl, hq3, fun l nl => ?_⟩
  have la : l ≠ a := fun e => by rw [e, ea3] at nl; cases nl
  have lH : H l = none := by
    rw [← e3, upd_ne la, upd_ne la, upd_ne la] at nl
    exact nl
  refine ⟨.ref a, rfl, a, T.aStep, d, _, rfl, by rw [upd_ne la.symm]; exact ea3, c.cls, c.noA "_times", by show 3 < 1000; decide, ?_⟩
  refine q l _ (fun b o n e => ?_) lH la ?_ ?_
  · rw [upd_ne n, upd_ne (fun z => by rw [z, lH] at e; cases e)]
    exact k3 _ _ n e
  · rw [upd_ne la]; exact upd_same
  · rw [upd_same, ← stepF_put]
/-- an error with its fields is raised -/
def Rsd (C : Addr) (nm : List Str) (code : Str) (ws : List V) (H : Hp) (E : XK) : Prop := ∀ e H', Same H H' → H' e = some (.xd (exF nm code ws)) → E (.ref C) (some e) H'
theorem Rsd.of {C : Addr} {nm : List Str} {code : Str} {ws : List V} {H H1 : Hp} {E : XK} (h : Rsd C nm code ws H E) (s : Same H H1) : Rsd C nm code ws H1 E := fun e H' s1 => h e H' (s.trans s1)
/-- what the making of a step comes to -/
structure StepMk (T : Txt K mg) (a d : Addr) (r ts st pu : V) (tb : Bool) (ys : List V) (H : Hp) (Q : VK) (E : XK) : Prop where
  badT : tb = false → Rsd T.x_InvalidTimes.C ["value"] "InvalidTimes" [ts] H E
  badS : tb = true → isNum st 0 1000000 = false → Rsd T.x_InvalidNumber.C ["value"] "InvalidNumber" [st] H E
  badP : tb = true → isNum st 0 1000000 = true → pubB pu = false → Rsd T.x_InvalidNumber.C ["value"] "InvalidNumber" [pu] H E
  good : tb = true → isNum st 0 1000000 = true → pubB pu = true → ∀ l H', (∀ b o, b ≠ a → H b = some o → H' b = some o) → H l = none → l ≠ a → H' l = some (.lst ys) → H' a = some (.ins T.aStep d (stepF r st pu (.ref l))) → Q .non H'
def spSI (T : Txt K mg) : Sp := fun vs H Q E => ∃ (a d : Addr) (r ts st pu : V) (tb : Bool) (ys : List V) (tst tpu : String), vs = [.ref a, r, ts, st, pu] ∧ H a = some (.ins T.aStep d []) ∧ TimesV K H ts tb ys ∧ Kd K H st tst ∧ Kd K H pu tpu ∧ StepMk T a d r ts st pu tb ys H Q E
theorem ok_ms_init (T : Txt K mg) : FnOk P w K mg base (L2N.CX P w) 4 T.ms_init.f T.ms_init.fd ["self", "route", "times", "stop", "public"] (spSI T) := by
  refine FunD.ok T.ms_init.F sc_ms_init (fun vs H Q E h => ?_) (fun cdv A outer s H vs Q E hr h => ?_)
  · obtain ⟨a, d, r, ts, st, pu, tb, ys, tst, tpu, rfl, _⟩ := h
    rfl
  · obtain ⟨a, d, r, ts, st, pu, tb, ys, tst, tpu, rfl, ea, ht, hs, hp, q⟩ := h
    have c := T.kStep
    refine ⟨_, (pss_cons (ps_if (pt_not (pt_val (pe_call (ok_are_times T) (hr.mono (by decide)) (by rfl) T.d_are_times.g T.d_are_times.F.kp T.d_are_times.b .nil pass0 (pa_cons (pv 2) pa_nil)))) (pss_one (L2N.ps_raise rfl (L2N.takes_of rfl rfl rfl rfl) (pmk_VN T.x_InvalidTimes.T (raises_own T.x_InvalidTimes.xf.x.exC T.x_InvalidTimes.ty) ⟨T.x_InvalidTimes.iC, T.x_InvalidTimes.tI, ok_init_InvalidTimes T⟩ (hr.mono (by decide)) T.x_InvalidTimes.b pass0 (by rfl) T.x_InvalidTimes.g (pa_cons (pv 2) pa_nil)))) pss_nil)
      (pss_cons (ps_if (pt_not (pt_val (pe_call (ok_is_number T) (hr.mono (by decide)) (by rfl) T.d_is_number.g T.d_is_number.F.kp T.d_is_number.b .nil pass0 (pa_cons (pv 3) (pa_cons pe_int (pa_cons (pe_glob (v := .int 1000000) rfl T.c_MOST_TIME ⟨_, rfl⟩) pa_nil)))))) (pss_one (L2N.ps_raise rfl (L2N.takes_of rfl rfl rfl rfl) (pmk_VN T.x_InvalidNumber.T (raises_own T.x_InvalidNumber.xf.x.exC T.x_InvalidNumber.ty) ⟨T.x_InvalidNumber.iC, T.x_InvalidNumber.tI, ok_init_InvalidNumber T⟩ (hr.mono (by decide)) T.x_InvalidNumber.b pass0 (by rfl) T.x_InvalidNumber.g (pa_cons (pv 3) pa_nil)))) pss_nil)
      (pss_cons (ps_if (PW.pt (pw_and (pt_cmpR op_notN (pv 4) pe_non (nomark _)) (pw_and1 (pt_not (pt_val (pe_call (ok_is_number T) (hr.mono (by decide)) (by rfl) T.d_is_number.g T.d_is_number.F.kp T.d_is_number.b .nil pass0 (pa_cons (pv 4) (pa_cons pe_int (pa_cons (pe_glob (v := .int 1000000) rfl T.c_MOST_TIME ⟨_, rfl⟩) pa_nil))))))))) (pss_one (L2N.ps_raise rfl (L2N.takes_of rfl rfl rfl rfl) (pmk_VN T.x_InvalidNumber.T (raises_own T.x_InvalidNumber.xf.x.exC T.x_InvalidNumber.ty) ⟨T.x_InvalidNumber.iC, T.x_InvalidNumber.tI, ok_init_InvalidNumber T⟩ (hr.mono (by decide)) T.x_InvalidNumber.b pass0 (by rfl) T.x_InvalidNumber.g (pa_cons (pv 4) pa_nil)))) pss_nil)
      (pss_cons (ps_fld (pv 0) (pv 1) (by rfl))
      (pss_cons (ps_fld (pv 0) (pv 3) (by rfl))
      (pss_cons (ps_fld (pv 0) (pv 4) (by rfl))
      (pss_one (ps_fld (pv 0) (pe_callTy call_list_of (by rfl) T.z_list (by decide +kernel) (pa_cons (pv 2) pa_nil)) (by rfl))))))))), ?_⟩
    refine ⟨ts, rfl, ts, tb, ys, rfl, ht, fun H1 s1 => ?_⟩
    refine ⟨_, rfl, ite2 (fun e => ?_) (fun e => ?_)⟩
    · have e' : tb = false := by simpa using e
      refine ⟨ts, rfl, (by show 1 ≤ 1000; decide), mkqR (ws := [ts]) (Q := E) rfl fun d' H' sm hd => q.badT e' d' H' (s1.trans sm) hd⟩
    · have e' : tb = true := by simpa using e
      refine ⟨st, rfl, st, tst, 0, 1000000, rfl, hs.same s1, ?_⟩
      refine ⟨_, rfl, ite2 (fun e2 => ?_) (fun e2 => ?_)⟩
      · have e2' : isNum st 0 1000000 = false := by simpa using e2
        refine ⟨st, rfl, (by show 1 ≤ 1000; decide), mkqR (ws := [st]) (Q := E) rfl fun d' H' sm hd => q.badS e' e2' d' H' (s1.trans sm) hd⟩
      · have e2' : isNum st 0 1000000 = true := by simpa using e2
        by_cases e0 : pu = .non
        · subst e0
          obtain ⟨p, rfl, hq, _⟩ := (e' ▸ ht.same s1).items
          refine ⟨.non, rfl, rfl, _, rfl, iteF ?_⟩
          refine step_put (s1 _ _ ea) hq fun l H' k nl la el ea' => ?_
          exact q.good e' e2' rfl l H' (fun b o n eb => k _ _ n (s1 _ _ eb)) (none_of s1 nl) la el ea'
        · refine ⟨pu, rfl, rfl, _, rfl, ?_⟩
          rw [decide_eq_false e0]
          refine iteT ⟨pu, rfl, pu, tpu, 0, 1000000, rfl, hp.same s1, _, rfl, ite2 (fun e3 => ?_) (fun e3 => ?_)⟩
          · have e3' : isNum pu 0 1000000 = false := by simpa using e3
            refine ⟨pu, rfl, (by show 1 ≤ 1000; decide), mkqR (ws := [pu]) (Q := E) rfl fun d' H' sm hd => q.badP e' e2' ?_ d' H' (s1.trans sm) hd⟩
            unfold pubB
            rw [decide_eq_false e0, e3']
            rfl
          · have e3' : isNum pu 0 1000000 = true := by simpa using e3
            obtain ⟨p, rfl, hq, _⟩ := (e' ▸ ht.same s1).items
            refine step_put (s1 _ _ ea) hq fun l H' k nl la el ea' => ?_
            exact q.good e' e2' (by unfold pubB; rw [e3', Bool.or_true]) l H' (fun b o n eb => k _ _ n (s1 _ _ eb)) (none_of s1 nl) la el ea'
end
end Rd
set_option maxHeartbeats 4000000
namespace Rd
open PySem PySem.Spec PyProof.Rows L2
open C8 (pss_cut tCut)
/-! ## trains: made -/
theorem Kd.known {K : PySem.W.Frag} {H : Hp} {v : V} {t : String} (h : Kd K H v t) : (["NoneType", "str", "int", "bool", "tuple", "list"] : List String).contains t = true :=
  kd_cases (p := fun _ t => (["NoneType", "str", "int", "bool", "tuple", "list"] : List String).contains t = true) h (by decide) (fun _ => by decide) (fun _ => by decide) (fun _ => by decide) (fun _ => by decide) (fun _ => by decide)
def trainN : List Str := ["name", "length", "out", "_steps"]
def trainF (n len out l : V) : List (Str × V) := trainN.zip [n, len, out, l]
theorem trainF_put (n len out l : V) : putF ("_steps" : Str) l (putF ("out" : Str) out (putF ("length" : Str) len (putF ("name" : Str) n []))) = trainF n len out l := by
  show putF ("_steps" : Str) l (putF ("out" : Str) out (putF ("length" : Str) len [(("name" : Str), n)])) = _
  have e1 : putF ("length" : Str) len [(("name" : Str), n)] = [(("name" : Str), n), (("length" : Str), len)] := by
    unfold putF
    rw [if_neg (by decide)]
    rfl
  rw [e1]
  have e2 : putF ("out" : Str) out [(("name" : Str), n), (("length" : Str), len)] = [(("name" : Str), n), (("length" : Str), len), (("out" : Str), out)] := by
    unfold putF
    rw [if_neg (by decide)]
    unfold putF
    rw [if_neg (by decide)]
    rfl
  rw [e2]
  unfold putF
  rw [if_neg (by decide)]
  unfold putF
  rw [if_neg (by decide)]
  unfold putF
  rw [if_neg (by decide)]
  rfl
section
variable {P : Program} {w : World} {K : PySem.W.Frag} {mg : Str → Option Value} {base : Heap}
def IsStepV (T : Txt K mg) (H : Hp) (x : V) : Prop := ∃ a d fs, x = .ref a ∧ H a = some (.ins T.aStep d fs)
theorem IsStepV.same {T : Txt K mg} {H H' : Hp} {x : V} (s : Same H H') (h : IsStepV T H x) : IsStepV T H' x := by
  obtain ⟨a, d, fs, e, o⟩ := h
  exact ⟨a, d, fs, e, s _ _ o⟩
/-- x is the first of them that is no step -/
def BadAt (T : Txt K mg) (H : Hp) (xs : List V) (x : V) : Prop := ∃ i : Nat, xs[i]? = some x ∧ (∃ t, Kd K H x t) ∧ ∀ (j : Nat) y, j < i → xs[j]? = some y → IsStepV T H y
theorem BadAt.same {T : Txt K mg} {H H' : Hp} {xs : List V} {x : V} (s : Same H H') (h : BadAt T H xs x) : BadAt T H' xs x := by
  obtain ⟨i, e, ⟨t, k⟩, q⟩ := h
  exact ⟨i, e, ⟨t, k.same s⟩, fun j y hj hy => (q j y hj hy).same s⟩
/-- what the steps of a new train come to -/
def StepsMk (T : Txt K mg) (xs : List V) (H : Hp) (Q : VK) (E : XK) : Prop :=
  (∃ x, BadAt T H xs x ∧ Rsd T.x_InvalidStep.C ["value"] "InvalidStep" [x] H E) ∨
  ((∀ x, x ∈ xs → IsStepV T H x) ∧ (6 < xs.length → Rsd T.x_TooMany.C ["subject", "most"] "TooMany" [.str "steps", .int 6] H E) ∧ (xs.length = 0 → Rsd T.x_InvalidStep.C ["value"] "InvalidStep" [.non] H E) ∧ (1 ≤ xs.length → xs.length ≤ 6 → ∀ H', Same H H' → Q .non H'))
def spRefuse (T : Txt K mg) : Sp := fun vs H Q E => ∃ (p : Addr) (xs : List V), vs = [.ref p] ∧ H p = some (.tup xs) ∧ xs.length ≤ 1000 ∧ StepsMk T xs H Q E
theorem ok_refuse_steps (T : Txt K mg) : FnOk P w K mg base (L2N.CX P w) 3 T.d_refuse_steps.f T.d_refuse_steps.fd ["steps"] (spRefuse T) := by
  refine Fun.okXN T.d_refuse_steps.F sc_refuse_steps (fun vs H Q E h => ?_) (fun cdv A outer s H vs Q E hr h => ?_)
  · obtain ⟨p, xs, rfl, _⟩ := h
    rfl
  · obtain ⟨p, xs, rfl, ep, hn, hm⟩ := h
    have c := T.kStep
    obtain ⟨mc, cr, ⟨u, cv⟩, _⟩ := T.cvTrain
    refine ⟨_, (pss_cons (ps_for (passes_of rfl) rfl (pi_tup (pv 0)) (pg_name (i := 1) sc_refuse_steps.nd rfl (Or.inl rfl)) (pss_one (ps_if (pt_not (pt_val (pe_callB call_isi (by rfl) T.z_isinstance (by decide +kernel) (pa_cons (pv 1) (pa_cons (pe_glob (v := .ref T.aStep) rfl T.c_Step rfl) pa_nil))))) (pss_one (L2N.ps_raise rfl (L2N.takes_of rfl rfl rfl rfl) (pmk_VN T.x_InvalidStep.T (raises_own T.x_InvalidStep.xf.x.exC T.x_InvalidStep.ty) ⟨T.x_InvalidStep.iC, T.x_InvalidStep.tI, ok_init_InvalidStep T⟩ (hr.mono (by decide)) T.x_InvalidStep.b pass0 (by rfl) T.x_InvalidStep.g (pa_cons (pv 1) pa_nil)))) pss_nil)))
      (pss_cons (ps_if (pt_cmpR op_gt (pe_callB call_len_seq (by rfl) T.z_len (by decide +kernel) (pa_cons (pv 0) pa_nil)) (ClX.pe_cval (pe_glob (v := .ref T.aTrain) rfl T.c_Train rfl)) (nomark _)) (pss_one (L2N.ps_raise rfl (L2N.takes_of rfl rfl rfl rfl) (pmk_VN T.x_TooMany.T (raises_own T.x_TooMany.xf.x.exC T.x_TooMany.ty) ⟨T.x_TooMany.iC, T.x_TooMany.tI, ok_init_TooMany T⟩ (hr.mono (by decide)) T.x_TooMany.b pass0 (by rfl) T.x_TooMany.g (pa_cons pe_str (pa_cons (ClX.pe_cval (pe_glob (v := .ref T.aTrain) rfl T.c_Train rfl)) pa_nil))))) pss_nil)
      (pss_one (ps_if (pt_cmpR op_eq (pe_callB call_len_seq (by rfl) T.z_len (by decide +kernel) (pa_cons (pv 0) pa_nil)) pe_int (nomark _)) (pss_one (L2N.ps_raise rfl (L2N.takes_of rfl rfl rfl rfl) (pmk_VN T.x_InvalidStep.T (raises_own T.x_InvalidStep.xf.x.exC T.x_InvalidStep.ty) ⟨T.x_InvalidStep.iC, T.x_InvalidStep.tI, ok_init_InvalidStep T⟩ (hr.mono (by decide)) T.x_InvalidStep.b pass0 (by rfl) T.x_InvalidStep.g (pa_cons pe_non pa_nil)))) pss_nil)))), ?_⟩
    refine ⟨.ref p, rfl, p, rfl, ⟨xs, SqT.of ep⟩, ?_⟩
    rcases hm with ⟨x, ⟨k, ek, ⟨t, kt⟩, hb⟩, hR⟩ | ⟨ha, h6, h0, hg⟩
    · refine for_tup (K := K) (a := p) (xs := xs) (fun i σ H2 => (∃ tm, σ = [some (.ref p), tm] ∧ H2 = H) ∧ i ≤ k) ⟨⟨none, rfl, rfl⟩, Nat.zero_le _⟩ (fun i σ H2 _ hP => by obtain ⟨⟨tm, _, e⟩, _⟩ := hP; rw [e]; exact SqT.of ep) ?_ ?_
      · rintro i y σ H2 hy ⟨⟨tm, rfl, rfl⟩, hi⟩
        rcases Nat.lt_or_eq_of_le hi with h | h
        · obtain ⟨a', d', fs', rfl, e2⟩ := hb i y h hy
          refine ⟨.ref a', rfl, .ref a', _, _, _, true, rfl, .own _, T.insS e2, c.is, _, rfl, iteF ?_⟩
          exact ⟨⟨_, rfl, rfl⟩, h⟩
        · subst h
          cases hy.symm.trans ek
          refine ⟨x, rfl, x, _, _, _, false, rfl, .own _, kt.ty, c.nis t kt.known, _, rfl, iteT ?_⟩
          exact ⟨x, rfl, (by show 1 ≤ 1000; decide), mkqR (ws := [x]) (Q := E) rfl fun d' H' sm hd => hR d' H' sm hd⟩
      · rintro σ H2 ⟨_, hi⟩
        have := (List.getElem?_eq_some_iff.mp ek).1
        omega
    · refine for_tup (K := K) (a := p) (xs := xs) (fun i σ H2 => ∃ tm, σ = [some (.ref p), tm] ∧ H2 = H) ⟨none, rfl, rfl⟩ (fun i σ H2 _ hP => by obtain ⟨tm, _, e⟩ := hP; rw [e]; exact SqT.of ep) ?_ ?_
      · rintro i y σ H2 hy ⟨tm, rfl, rfl⟩
        obtain ⟨a', d', fs', rfl, e2⟩ := ha y (List.mem_of_getElem? hy)
        refine ⟨.ref a', rfl, .ref a', _, _, _, true, rfl, .own _, T.insS e2, c.is, _, rfl, iteF ?_⟩
        exact ⟨_, rfl, rfl⟩
      · rintro σ H2 ⟨tm, rfl, rfl⟩
        refine ⟨.ref p, rfl, p, xs, rfl, .inr (SqT.of ep), T.aTrain, mc, _, _, rfl, cr, cv, ?_⟩
        refine ⟨_, 6, rfl, rfl, _, rfl, ite2 (fun e => ?_) (fun e => ?_)⟩
        · have l6 : 6 < xs.length := by have := of_decide_eq_true e; omega
          refine ⟨T.aTrain, mc, _, _, rfl, cr, cv, (by show 2 ≤ 1000; decide), mkqR (ws := [.str "steps", .int 6]) (Q := E) rfl fun d' H' sm hd => h6 l6 d' H' sm hd⟩
        · have l6 : xs.length ≤ 6 := by
            have : ¬ ((xs.length : Int) > 6) := fun z => e (decide_eq_true z)
            omega
          refine ⟨.ref p, rfl, p, xs, rfl, .inr (SqT.of ep), rfl, _, rfl, ite2 (fun e2 => ?_) (fun e2 => ?_)⟩
          · have l0 : xs.length = 0 := by have := of_decide_eq_true e2; injection this with z; omega
            exact ⟨(by show 1 ≤ 1000; decide), mkqR (ws := [.non]) (Q := E) rfl fun d' H' sm hd => h0 l0 d' H' sm hd⟩
          · have l0 : 1 ≤ xs.length := by
              rcases Nat.eq_zero_or_pos xs.length with z | z
              · exact absurd (by rw [z]; rfl) e2
              · exact z
            exact hg l0 l6 _ (.refl _)
end
end Rd
set_option maxHeartbeats 4000000
namespace Rd
open PySem PySem.Spec PyProof.Rows L2
open C8 (pss_cut tCut)
/-! ## trains: made -/
theorem ub_up {outer : List Env} {s s2 s' : Shared} {B : Heap} {H H2 H' : Hp} (un : Un (frs outer) [] H H2 s.heap s2.heap) (kp : ∀ b o, s.heap.get? b = some o → s2.heap.get? b = some o)
    (ub : UB (frs outer) H2 H' s2.heap B s'.heap) : UB (frs outer) H H' s.heap B s'.heap where
  keep := fun b o q n => ub.keep b o (kp _ _ q) (un.free _ _ q n List.not_mem_nil)
  slot := fun b o q => ub.slot b o (kp _ _ q)
  free := fun b o q n => ub.free b o (kp _ _ q) (un.free _ _ q n List.not_mem_nil)
  there := fun b o q => ub.there b o (kp _ _ q)
  tups := fun b xs q => ub.tups _ _ (un.tups b xs q)
  frzs := fun b o xs q => ub.frzs _ _ _ (un.frzs b o xs q)
  tbls := fun b ps q => by
    obtain ⟨m1, q1⟩ := un.tbls b ps q
    obtain ⟨m2, q2⟩ := ub.tbls b _ q1
    rw [Array.append_assoc] at q2
    exact ⟨_, q2⟩
theorem cxUpN {P : Program} {w : World} : StX.CXUp (L2N.CX P w) := fun outer s H s2 H2 E e s' un kp ho h => by
  obtain ⟨a, B, H', cls, d, q1, q2, q3, ub, q5, q6, q7⟩ := h
  exact ⟨a, B, H', cls, d, q1, q2, q3, ub_up un kp ub, q5, q6.trans ho, q7⟩
section
variable {P : Program} {w : World} {K : PySem.W.Frag} {mg : Str → Option Value} {base : Heap}
/-- the four fields of a new train -/
theorem train_put {T : Txt K mg} {a d p : Addr} {n len out : V} {ys : List V} {D : Ends} {H : Hp} (ea : H a = some (.ins T.aTrain d [])) (hq : H p = some (.lst ys) ∨ H p = some (.tup ys))
    (q : ∀ l H', (∀ b o, b ≠ a → H b = some o → H' b = some o) → H l = none → l ≠ a → H' l = some (.lst ys) → H' a = some (.ins T.aTrain d (trainF n len out (.ref l))) → D.nx [some (.ref a), some n, some len, some out, some (.ref p)] H') :
    tSeq (sFld K (tVar 0) (tVar 1) "name") (tSeq (sFld K (tVar 0) (tVar 2) "length") (tSeq (sFld K (tVar 0) (tVar 3) "out") (sFld K (tVar 0) (tCB (rLOf K) (tCons (tVar 4) tNil)) "_steps"))) D [some (.ref a), some n, some len, some out, some (.ref p)] H := by
  have c := T.kTrain
  have pna : p ≠ a := fun e => by rcases hq with h | h <;> rw [e, ea] at h <;> cases h
  refine ⟨n, rfl, .ref a, rfl, a, T.aTrain, d, [], rfl, ea, c.cls, c.noA "name", by simp, ?_⟩
  refine ⟨len, rfl, .ref a, rfl, a, T.aTrain, d, _, rfl, upd_same, c.cls, c.noA "length", by show 1 < 1000; decide, ?_⟩
  refine ⟨out, rfl, .ref a, rfl, a, T.aTrain, d, _, rfl, upd_same, c.cls, c.noA "out", by show 2 < 1000; decide, ?_⟩
  generalize e3 : upd _ a (.ins T.aTrain d (putF ("out" : Str) out _)) = H3
  have k3 : ∀ b o, b ≠ a → H b = some o → H3 b = some o := fun b o nb e => by rw [← e3, upd_ne nb, upd_ne nb, upd_ne nb]; exact e
  have ea3 : H3 a = some (.ins T.aTrain d (putF ("out" : Str) out (putF ("length" : Str) len (putF ("name" : Str) n [])))) := by rw [← e3]; exact upd_same
  have hq3 : SqL K H3 p ys ∨ SqT K H3 p ys := hq.elim (fun h => .inl (SqL.of (k3 _ _ pna h))) fun h => .inr (SqT.of (k3 _ _ pna h))
  refine ⟨.ref p, rfl, p, ys, rfl, hq3, fun l nl => ?_⟩
  have la : l ≠ a := fun e => by rw [e, ea3] at nl; cases nl
  have lH : H l = none := by
    rw [← e3, upd_ne la, upd_ne la, upd_ne la] at nl
    exact nl
  refine ⟨.ref a, rfl, a, T.aTrain, d, _, rfl, by rw [upd_ne la.symm]; exact ea3, c.cls, c.noA "_steps", by show 3 < 1000; decide, ?_⟩
  refine q l _ (fun b o nb e => ?_) lH la ?_ ?_
  · rw [upd_ne nb, upd_ne (fun z => by rw [z, lH] at e; cases e)]
    exact k3 _ _ nb e
  · rw [upd_ne la]; exact upd_same
  · rw [upd_same, ← trainF_put]
/-- what the making of a train comes to -/
structure TrainMk (T : Txt K mg) (a d : Addr) (n len out : V) (xs : List V) (H : Hp) (Q : VK) (E : XK) : Prop where
  badN : isNm n = false → Rsd T.x_InvalidName.C ["value"] "InvalidName" [n] H E
  badL : isNm n = true → isNum len 1 60 = false → Rsd T.x_InvalidNumber.C ["value"] "InvalidNumber" [len] H E
  steps : isNm n = true → isNum len 1 60 = true → StepsMk T xs H (fun _ H1 => Same H H1 → (isNum out 1 1000000 = false → Rsd T.x_InvalidNumber.C ["value"] "InvalidNumber" [out] H1 E) ∧
    (isNum out 1 1000000 = true → ∀ l H', (∀ b o, b ≠ a → H1 b = some o → H' b = some o) → H1 l = none → l ≠ a → H' l = some (.lst xs) → H' a = some (.ins T.aTrain d (trainF n len out (.ref l))) → Q .non H')) E
def spTI (T : Txt K mg) : Sp := fun vs H Q E => ∃ (a d p : Addr) (n len out : V) (xs : List V) (tn tl to : String), vs = [.ref a, n, len, out, .ref p] ∧ H a = some (.ins T.aTrain d []) ∧ H p = some (.tup xs) ∧ xs.length ≤ 1000 ∧ Kd K H n tn ∧ (∀ z, n = .str z → z.length ≤ 1000) ∧ Kd K H len tl ∧ Kd K H out to ∧ TrainMk T a d n len out xs H Q E
theorem StepsMk.imp {T : Txt K mg} {xs : List V} {H H1 : Hp} {Q Q' : VK} {E : XK} (s : Same H H1) (h : StepsMk T xs H Q E) (k : ∀ H', Same H1 H' → Q .non H' → Q' .non H') : StepsMk T xs H1 Q' E := by
  rcases h with ⟨x, hb, hR⟩ | ⟨ha, h6, h0, hg⟩
  · exact .inl ⟨x, hb.same s, hR.of s⟩
  · exact .inr ⟨fun x m => (ha x m).same s, fun l => (h6 l).of s, fun l => (h0 l).of s, fun l1 l2 H' s' => k H' s' (hg l1 l2 H' (s.trans s'))⟩
theorem ok_mt_init (T : Txt K mg) : FnSK P w K mg base (L2N.CX P w) 5 T.mt_init.f 3 "out" (.int 1) (spTI T) := by
  obtain ⟨oc, od, dV, kV, doc, pm, an, cdv, ct, osl, e, lk, hcd, hd, hk⟩ := T.mt_init.F.ex
  rw [e] at lk
  have e0 : dV = .none := by
    rcases hd with ⟨_, z⟩ | ⟨z, _⟩
    · exact z
    · exact absurd rfl z
  subst e0
  obtain ⟨D, u, eD, hu, ru⟩ : ∃ D u, kV = .ref D ∧ PySem.W.nsIn K D "out" = some (some u) ∧ RelV (.int 1) u := by
    rcases hk with z | ⟨D, z, hq⟩
    · cases z
    · obtain ⟨u, h1, h2⟩ := hq ("out", .int 1) List.mem_cons_self
      exact ⟨D, u, z, h1, h2⟩
  subst eD
  refine fn_sk (ps := ["self", "name", "length"]) (pv := "steps") (k := 4) lk hcd sc_mt_init cxUpN ⟨?G, u, ru, ?B⟩ ?body
  case G =>
    intro us rest u hl
    match us, rest, hl with
    | [x, y, z], [], _ => rfl
    | [x, y, z], r :: rs, _ => rfl
  case B =>
    intro us rest hl M A Q E s X h
    have br : ∃ (β γ : Type) (k1 : Option Value → Sem β) (k2 : β → Sem γ) (k3 : γ → Sem (List (Str × Value))) (a : β),
        bindArgs (PySem.W.fnOf "__init__" "Train.__init__" (defArgs s_mt_init) (defBody s_mt_init) (defScope s_mt_init) .none (.ref D) doc pm an cdv ct) ⟨us ++ rest, []⟩ = ((nsGet D "out" >>= k1) >>= k2) >>= k3 ∧ k1 (some u) = pure a ∧
          (k2 a >>= k3) = (newTuple rest >>= fun t => pure (((["self", "name", "length"] : List Str) ++ (["out"] : List Str)).zip (us ++ [u]) ++ [(("steps" : Str), t)])) := by
      match us, rest, hl with
      | [x, y, z], [], _ => exact ⟨_, _, _, _, _, _, rfl, rfl, rfl⟩
      | [x, y, z], r :: rs, _ => exact ⟨_, _, _, _, _, _, rfl, rfl, rfl⟩
    obtain ⟨β, γ, k1, k2, k3, a, q1, q2, q3⟩ := br
    rw [q1, bind_assoc]
    refine wpAny_bind (((PySem.W.looks_nsIn X hu).andThen (PySem.W.Looks.of_pure q2)).here ?_)
    rw [q3]
    exact h
  case body =>
    intro A outer s H vs Q E hr h
    obtain ⟨a, d, p, n, len, out, xs, tn, tl, to, rfl, ea, ep, hx, kn, hz, kl, ko, q⟩ := h
    have c := T.kTrain
    obtain ⟨mc, cr, _, uc, cv⟩ := T.cvTrain
    refine ⟨_, (pss_cons (ps_if (pt_not (pt_val (pe_call (ok_is_name T) (hr.mono (by decide)) (by rfl) T.d_is_name.g T.d_is_name.F.kp T.d_is_name.b .nil pass0 (pa_cons (pv 1) pa_nil)))) (pss_one (L2N.ps_raise rfl (L2N.takes_of rfl rfl rfl rfl) (pmk_VN T.x_InvalidName.T (raises_own T.x_InvalidName.xf.x.exC T.x_InvalidName.ty) ⟨T.x_InvalidName.iC, T.x_InvalidName.tI, ok_init_InvalidName T⟩ (hr.mono (by decide)) T.x_InvalidName.b pass0 (by rfl) T.x_InvalidName.g (pa_cons (pv 1) pa_nil)))) pss_nil)
      (pss_cons (ps_if (pt_not (pt_val (pe_call (ok_is_number T) (hr.mono (by decide)) (by rfl) T.d_is_number.g T.d_is_number.F.kp T.d_is_number.b .nil pass0 (pa_cons (pv 2) (pa_cons pe_int (pa_cons (ClX.pe_cval (pe_glob (v := .ref T.aTrain) rfl T.c_Train rfl)) pa_nil)))))) (pss_one (L2N.ps_raise rfl (L2N.takes_of rfl rfl rfl rfl) (pmk_VN T.x_InvalidNumber.T (raises_own T.x_InvalidNumber.xf.x.exC T.x_InvalidNumber.ty) ⟨T.x_InvalidNumber.iC, T.x_InvalidNumber.tI, ok_init_InvalidNumber T⟩ (hr.mono (by decide)) T.x_InvalidNumber.b pass0 (by rfl) T.x_InvalidNumber.g (pa_cons (pv 2) pa_nil)))) pss_nil)
      (pss_cons (ps_expr (pe_call (ok_refuse_steps T) (hr.mono (by decide)) (by rfl) T.d_refuse_steps.g T.d_refuse_steps.F.kp T.d_refuse_steps.b .nil (L2N.passes_call (L2N.takes_of rfl rfl rfl rfl) (fun _ _ _ _ h => h)) (pa_cons (pv 4) pa_nil)))
      (pss_cons (ps_if (pt_not (pt_val (pe_call (ok_is_number T) (hr.mono (by decide)) (by rfl) T.d_is_number.g T.d_is_number.F.kp T.d_is_number.b .nil pass0 (pa_cons (pv 3) (pa_cons pe_int (pa_cons (pe_glob (v := .int 1000000) rfl T.c_MOST_TIME ⟨_, rfl⟩) pa_nil)))))) (pss_one (L2N.ps_raise rfl (L2N.takes_of rfl rfl rfl rfl) (pmk_VN T.x_InvalidNumber.T (raises_own T.x_InvalidNumber.xf.x.exC T.x_InvalidNumber.ty) ⟨T.x_InvalidNumber.iC, T.x_InvalidNumber.tI, ok_init_InvalidNumber T⟩ (hr.mono (by decide)) T.x_InvalidNumber.b pass0 (by rfl) T.x_InvalidNumber.g (pa_cons (pv 3) pa_nil)))) pss_nil)
      (pss_cons (ps_fld (pv 0) (pv 1) (by rfl))
      (pss_cons (ps_fld (pv 0) (pv 2) (by rfl))
      (pss_cons (ps_fld (pv 0) (pv 3) (by rfl))
      (pss_one (ps_fld (pv 0) (pe_callTy call_list_of (by rfl) T.z_list (by decide +kernel) (pa_cons (pv 4) pa_nil)) (by rfl)))))))))), ?_⟩
    refine ⟨n, rfl, n, tn, rfl, kn, hz, fun H1 s1 => ?_⟩
    refine ⟨_, rfl, ite2 (fun e => ?_) (fun e => ?_)⟩
    · have e' : isNm n = false := by simpa using e
      exact ⟨n, rfl, (by show 1 ≤ 1000; decide), mkqR (ws := [n]) (Q := E) rfl fun d' H' sm hd => q.badN e' d' H' (s1.trans sm) hd⟩
    · have e' : isNm n = true := by simpa using e
      refine ⟨len, rfl, T.aTrain, mc, _, _, rfl, cr, cv, ?_⟩
      refine ⟨len, tl, 1, 60, rfl, kl.same s1, ?_⟩
      refine ⟨_, rfl, ite2 (fun e2 => ?_) (fun e2 => ?_)⟩
      · have e2' : isNum len 1 60 = false := by simpa using e2
        exact ⟨len, rfl, (by show 1 ≤ 1000; decide), mkqR (ws := [len]) (Q := E) rfl fun d' H' sm hd => q.badL e' e2' d' H' (s1.trans sm) hd⟩
      · have e2' : isNum len 1 60 = true := by simpa using e2
        refine ⟨.ref p, rfl, p, xs, rfl, s1 _ _ ep, hx, (q.steps e' e2').imp s1 fun H2 s2 hq => ?_⟩
        obtain ⟨hb, hg⟩ := hq (s1.trans s2)
        refine ⟨out, rfl, out, to, 1, 1000000, rfl, (ko.same s1).same s2, ?_⟩
        refine ⟨_, rfl, ite2 (fun e3 => ?_) (fun e3 => ?_)⟩
        · have e3' : isNum out 1 1000000 = false := by simpa using e3
          exact ⟨out, rfl, (by show 1 ≤ 1000; decide), mkqR (ws := [out]) (Q := E) rfl fun d' H' sm hd => hb e3' d' H' sm hd⟩
        · have e3' : isNum out 1 1000000 = true := by simpa using e3
          refine train_put (s2 _ _ (s1 _ _ ea)) (.inr (s2 _ _ (s1 _ _ ep))) fun l H' k nl la el ea' => ?_
          exact hg e3' l H' k nl la el ea'
end
end Rd
set_option maxHeartbeats 4000000
namespace Rd
open PySem PySem.Spec PyProof.Rows L2
open C8 (pss_cut tCut)
/-! ## what a step tells -/
theorem ints_lay : ∀ is : List Int, PyData.canLayAll0 (is.map .int) = true
  | [] => by simp [PyData.canLayAll0]
  | i :: is => by simp [PyData.canLayAll0, PyData.canLay0, ints_lay is]
theorem ints_depth : ∀ is : List Int, PyData.depthAll (is.map .int) = 0
  | [] => by simp [PyData.depthAll]
  | i :: is => by simp [PyData.depthAll, PyData.depth, ints_depth is]
theorem ints_shaped (is : List Int) : SeqAt.shaped (.list (is.map .int)) = true := by
  unfold SeqAt.shaped
  simp [PyData.canLay0, PyData.depth, ints_lay, ints_depth]
theorem ints_eqv : ∀ is js : List Int, PyData.eqvAll (is.map .int) (js.map .int) = decide (is = js)
  | [], [] => by simp [PyData.eqvAll]
  | [], _ :: _ => by simp [PyData.eqvAll]
  | _ :: _, [] => by simp [PyData.eqvAll]
  | i :: is, j :: js => by
    simp only [List.map_cons, PyData.eqvAll, ints_eqv is js]
    by_cases h : i = j
    · subst h
      simp [PyData.eqv]
    · have : (i == j) = false := beq_eq_false_iff_ne.mpr h
      simp [PyData.eqv, h]
theorem dp_ints {K : PySem.W.Frag} {H : Hp} : ∀ is : List Int, DpAll K H (is.map V.int) (is.map PyData.int)
  | [] => .nil
  | i :: is => .cons (.int i) (dp_ints is)
def StepAt {K : PySem.W.Frag} {mg : Str → Option Value} (T : Txt K mg) (H : Hp) (a : Addr) (r st pu : V) (is : List Int) : Prop := ∃ d l, H a = some (.ins T.aStep d (stepF r st pu (.ref l))) ∧ H l = some (.lst (is.map V.int)) ∧ is.length ≤ 1000
section
variable {P : Program} {w : World} {K : PySem.W.Frag} {mg : Str → Option Value} {base : Heap} {T : Txt K mg}
theorem StepAt.keep {H H' : Hp} {a : Addr} {r st pu : V} {is : List Int} (h : StepAt T H a r st pu is) (k : ∀ b o, H b = some o → H' b = some o) : StepAt T H' a r st pu is := by
  obtain ⟨d, l, e1, e2, n⟩ := h
  exact ⟨d, l, k _ _ e1, k _ _ e2, n⟩
def spTimes (T : Txt K mg) : Sp := fun vs H Q _ => ∃ (a : Addr) (r st pu : V) (is : List Int), vs = [.ref a] ∧ StepAt T H a r st pu is ∧ ∀ p, H p = none → Q (.ref p) (upd H p (.lst (is.map V.int)))
theorem ok_ms_times (T : Txt K mg) : FnOk P w K mg base CX0 1 T.ms_times.f T.ms_times.fd ["self"] (spTimes T) := by
  refine T.ms_times.F.ok sc_ms_times (fun vs H Q E h => ?_) (fun cdv A outer s H vs Q E hr h => ?_)
  · obtain ⟨a, r, st, pu, is, rfl, _⟩ := h
    rfl
  · obtain ⟨a, r, st, pu, is, rfl, ⟨d, l, ea, el, n⟩, q⟩ := h
    have c := T.kStep
    refine ⟨_, (pss_one (ps_ret (pe_callTy call_list_of (by rfl) T.z_list (by decide +kernel) (pa_cons (pe_fld (pv 0) (by rfl)) pa_nil)))), ?_⟩
    exact ⟨.ref a, rfl, a, T.aStep, d, _, .ref l, rfl, ea, c.cls, c.noA "_times", rfl, l, _, rfl, .inl (SqL.of el), fun p np => q p np⟩
def spArr (T : Txt K mg) : Sp := fun vs H Q _ => ∃ (a : Addr) (r st pu : V) (is : List Int) (i : Int), vs = [.ref a] ∧ StepAt T H a r st pu is ∧ is.getLast? = some i ∧ Q (.int i) H
theorem at_last {is : List Int} {i : Int} (h : is.getLast? = some i) : atI (is.map V.int) (-1) = some (.int i) := by
  obtain ⟨ys, rfl⟩ := List.getLast?_eq_some_iff.mp h
  rw [List.map_append]
  exact atI_last _ _
theorem ok_ms_arrival (T : Txt K mg) : FnOk P w K mg base CX0 1 T.ms_arrival.f T.ms_arrival.fd ["self"] (spArr T) := by
  refine T.ms_arrival.F.ok sc_ms_arrival (fun vs H Q E h => ?_) (fun cdv A outer s H vs Q E hr h => ?_)
  · obtain ⟨a, r, st, pu, is, i, rfl, _⟩ := h
    rfl
  · obtain ⟨a, r, st, pu, is, i, rfl, ⟨d, l, ea, el, n⟩, hi, q⟩ := h
    have c := T.kStep
    refine ⟨_, (pss_one (ps_ret (pe_ix ix_list (pe_fld (pv 0) (by rfl)) (pe_un un_neg pe_int) (fun _ _ => rfl)))), ?_⟩
    refine ⟨.ref a, rfl, a, T.aStep, d, _, .ref l, rfl, ea, c.cls, c.noA "_times", rfl, 1, rfl, l, _, -1, .int i, rfl, rfl, SqL.of el, at_last hi, q⟩
def spBase (T : Txt K mg) : Sp := fun vs H Q _ => ∃ (a : Addr) (r st pu : V) (is : List Int), vs = [.ref a] ∧ StepAt T H a r st pu is ∧ Q (if pu = .non then .int 0 else pu) H
theorem ok_ms_base (T : Txt K mg) : FnOk P w K mg base CX0 1 T.ms_base.f T.ms_base.fd ["self"] (spBase T) := by
  refine T.ms_base.F.ok sc_ms_base (fun vs H Q E h => ?_) (fun cdv A outer s H vs Q E hr h => ?_)
  · obtain ⟨a, r, st, pu, is, rfl, _⟩ := h
    rfl
  · obtain ⟨a, r, st, pu, is, rfl, ⟨d, l, ea, el, n⟩, q⟩ := h
    have c := T.kStep
    refine ⟨_, (pss_one (ps_ret (pe_ifExp (pt_cmpR op_isN (pe_fld (pv 0) (by rfl)) pe_non (nomark _)) pe_int (pe_fld (pv 0) (by rfl))))), ?_⟩
    refine ⟨.ref a, rfl, a, T.aStep, d, _, pu, rfl, ea, c.cls, c.noA "public", rfl, rfl, _, rfl, ?_⟩
    by_cases h : pu = .non
    · rw [if_pos h] at q
      rw [decide_eq_true h]
      exact iteT q
    · rw [if_neg h] at q
      rw [decide_eq_false h]
      exact iteF ⟨.ref a, rfl, a, T.aStep, d, _, pu, rfl, ea, c.cls, c.noA "public", rfl, q⟩
def stepB (r st pu : V) (is : List Int) (r' st' pu' : V) (js : List Int) : Bool := decide (r = r') && (decide (is = js) && (decide (st = st') && decide (pu = pu')))
def spSEq (T : Txt K mg) : Sp := fun vs H Q _ => ∃ (a : Addr) (r : Str) (st : Int) (pu : V) (is : List Int) (y : V), vs = [.ref a, y] ∧ StepAt T H a (.str r) (.int st) pu is ∧ (pu = .non ∨ ∃ i, pu = .int i) ∧
  ((∃ t, TyX K H y (.type t) ∧ (["NoneType", "str", "int", "bool", "tuple", "list"] : List String).contains t = true ∧ Q (.bl false) H) ∨
    ∃ (b : Addr) (r' : Str) (st' : Int) (pu' : V) (js : List Int), y = .ref b ∧ StepAt T H b (.str r') (.int st') pu' js ∧ (pu' = .non ∨ ∃ i, pu' = .int i) ∧ Q (.bl (stepB (.str r) (.int st) pu is (.str r') (.int st') pu' js)) H)
theorem scal_pub {x y : V} (h : x = .non ∨ ∃ i, x = .int i) (k : y = .non ∨ ∃ i, y = .int i) : scal x y = true := by
  rcases h with rfl | ⟨i, rfl⟩ <;> rcases k with rfl | ⟨j, rfl⟩ <;> rfl
theorem ok_ms_eq (T : Txt K mg) : FnOk P w K mg base CX0 1 T.ms_eq.f T.ms_eq.fd ["self", "other"] (spSEq T) := by
  refine T.ms_eq.F.ok sc_ms_eq (fun vs H Q E h => ?_) (fun cdv A outer s H vs Q E hr h => ?_)
  · obtain ⟨a, r, st, pu, is, y, rfl, _⟩ := h
    rfl
  · obtain ⟨a, r, st, pu, is, y, rfl, ⟨d, l, ea, el, n⟩, hp, h⟩ := h
    have c := T.kStep
    refine ⟨_, (pss_cons (ps_if (PW.pt (pw_or (pt_not (pt_val (pe_callB call_isi (by rfl) T.z_isinstance (by decide +kernel) (pa_cons (pv 1) (pa_cons (pe_glob (v := .ref T.aStep) rfl T.c_Step rfl) pa_nil))))) (pw_or1 (pt_cmpR op_ne (pe_fld (pv 0) (by rfl)) (pe_fld (pv 1) (by rfl)) (nomark _))))) (pss_one (ps_ret pe_bl)) pss_nil)
      (pss_one (ps_ret (pe_and (pe_cmpR (op_eqD hr.units) (pe_fld (pv 0) (by rfl)) (pe_fld (pv 1) (by rfl)) (nomark _)) (pe_and (pe_cmpR op_eq (pe_fld (pv 0) (by rfl)) (pe_fld (pv 1) (by rfl)) (nomark _)) (pe_one (pe_cmpR op_eq (pe_fld (pv 0) (by rfl)) (pe_fld (pv 1) (by rfl)) (nomark _)))))))), ?_⟩
    rcases h with ⟨t, ty, ht, q⟩ | ⟨b, r', st', pu', js, rfl, ⟨d', l', eb, el', n'⟩, hp', q⟩
    · exact ⟨y, rfl, y, _, _, _, false, rfl, .own _, ty, c.nis t ht, _, rfl, iteT q⟩
    · refine ⟨.ref b, rfl, .ref b, _, _, _, true, rfl, .own _, T.insS eb, c.is, _, rfl, iteF ?_⟩
      refine ⟨.ref a, rfl, a, _, d, _, _, rfl, ea, c.cls, c.noA "route", rfl, .ref b, rfl, b, _, d', _, _, rfl, eb, c.cls, c.noA "route", rfl, rfl, _, rfl, ?_⟩
      unfold stepB at q
      by_cases h1 : V.str r = V.str r'
      · rw [decide_eq_true h1] at q ⊢
        refine iteF ?_
        refine ⟨.ref a, rfl, a, _, d, _, _, rfl, ea, c.cls, c.noA "_times", rfl, .ref b, rfl, b, _, d', _, _, rfl, eb, c.cls, c.noA "_times", rfl, _, _, .lst (SqL.of el) (dp_ints is), .lst (SqL.of el') (dp_ints js), ints_shaped is, ints_shaped js, _, rfl, ?_⟩
        rw [show PyData.eqv (.list (is.map .int)) (.list (js.map .int)) = decide (is = js) by simp only [PyData.eqv]; exact ints_eqv is js]
        by_cases h2 : is = js
        · rw [decide_eq_true h2] at q ⊢
          refine iteT ?_
          refine ⟨.ref a, rfl, a, _, d, _, _, rfl, ea, c.cls, c.noA "stop", rfl, .ref b, rfl, b, _, d', _, _, rfl, eb, c.cls, c.noA "stop", rfl, rfl, _, rfl, ?_⟩
          by_cases h3 : V.int st = V.int st'
          · rw [decide_eq_true h3] at q ⊢
            refine iteT ?_
            exact ⟨.ref a, rfl, a, _, d, _, _, rfl, ea, c.cls, c.noA "public", rfl, .ref b, rfl, b, _, d', _, _, rfl, eb, c.cls, c.noA "public", rfl, scal_pub hp hp', q⟩
          · rw [decide_eq_false h3] at q ⊢
            exact iteF q
        · rw [decide_eq_false h2] at q ⊢
          exact iteF q
      · rw [decide_eq_false h1] at q ⊢
        exact iteT q
def spSRepr (T : Txt K mg) : Sp := fun vs H Q _ => ∃ (a : Addr) (r : Str) (st pu : V) (is : List Int), vs = [.ref a] ∧ StepAt T H a (.str r) st pu is ∧ r.length ≤ 1000 ∧ Q (.str ("Step(" ++ r ++ ")")) H
theorem empty_app (a : Str) : Str.empty ++ a = a := by
  show Str.append Str.empty a = a
  unfold Str.append Str.empty
  simp
theorem app_len (a b : Str) : (a ++ b).length = a.length + b.length := by
  show (Str.append a b).length = _
  unfold Str.append Str.length
  simp
theorem small10000 {n : Nat} (h : n ≤ 10000) : n < sizeLine := by
  rw [sizeLine_eq]
  omega
theorem ok_ms_repr (T : Txt K mg) : FnOk P w K mg base CX0 1 T.ms_repr.f T.ms_repr.fd ["self"] (spSRepr T) := by
  refine T.ms_repr.F.ok sc_ms_repr (fun vs H Q E h => ?_) (fun cdv A outer s H vs Q E hr h => ?_)
  · obtain ⟨a, r, st, pu, is, rfl, _⟩ := h
    rfl
  · obtain ⟨a, r, st, pu, is, rfl, ⟨d, l, ea, el, n⟩, hn, q⟩ := h
    have c := T.kStep
    have l5 : (("Step(" : Str)).length = 5 := by decide
    have l1 : ((")" : Str)).length = 1 := by decide
    refine ⟨_, (pss_one (ps_ret (pe_joined (PJ.cons pe_str (PJ.cons (pe_fmt (pe_fld (pv 0) (by rfl))) (PJ.cons pe_str PJ.nil)))))), ?_⟩
    refine ⟨_, rfl, Nat.le_of_lt (small10000 (by rw [empty_app, l5]; omega)), ?_⟩
    rw [empty_app]
    refine ⟨.ref a, rfl, a, _, d, _, _, rfl, ea, c.cls, c.noA "route", rfl, .inl ⟨_, rfl, Nat.le_of_lt (small10000 (by omega)), ?_⟩⟩
    refine ⟨_, rfl, Nat.le_of_lt (small10000 (by rw [app_len, l5]; omega)), ?_⟩
    refine ⟨_, rfl, Nat.le_of_lt (small10000 (by rw [app_len, app_len, l5, l1]; omega)), ?_⟩
    exact q
end
end Rd
set_option maxHeartbeats 4000000
namespace Rd
open PySem PySem.Spec PyProof.Rows L2
open C8 (pss_cut tCut)
/-! ## what a train tells -/
def TrainAt {K : PySem.W.Frag} {mg : Str → Option Value} (T : Txt K mg) (H : Hp) (a : Addr) (n len out : V) (xs : List V) : Prop := ∃ d l, H a = some (.ins T.aTrain d (trainF n len out (.ref l))) ∧ H l = some (.lst xs) ∧ 1 ≤ xs.length ∧ xs.length ≤ 6
/-- two steps that are equal -/
def SameStep {K : PySem.W.Frag} {mg : Str → Option Value} (T : Txt K mg) (a b : Addr) (H : Hp) : Prop := ∃ (r : Str) (st : Int) (pu : V) (is : List Int), (pu = .non ∨ ∃ i, pu = .int i) ∧ StepAt T H a (.str r) (.int st) pu is ∧ StepAt T H b (.str r) (.int st) pu is
def DStep {K : PySem.W.Frag} {mg : Str → Option Value} (T : Txt K mg) : L2.Eqv := DIns T.aStep (SameStep T)
section
variable {P : Program} {w : World} {K : PySem.W.Frag} {mg : Str → Option Value} {base : Heap} {T : Txt K mg}
theorem TrainAt.keep {H H' : Hp} {a : Addr} {n len out : V} {xs : List V} (h : TrainAt T H a n len out xs) (k : ∀ b o, H b = some o → H' b = some o) : TrainAt T H' a n len out xs := by
  obtain ⟨d, l, e1, e2, m⟩ := h
  exact ⟨d, l, k _ _ e1, k _ _ e2, m⟩
theorem mon_step (T : Txt K mg) : Mon (DStep T) := mon_ins fun a b H H' e h => by
  obtain ⟨r, st, pu, is, hp, h1, h2⟩ := h
  exact ⟨r, st, pu, is, hp, h1.keep e, h2.keep e⟩
theorem dstep_of {H : Hp} {a b : Addr} (h : SameStep T a b H) : DStep T (.ref a) (.ref b) H := by
  obtain ⟨r, st, pu, is, hp, ⟨d, l, e1, e2, n⟩, ⟨d', l', e1', e2', n'⟩⟩ := h
  exact ⟨a, b, d, d', _, _, rfl, rfl, e1, e1', r, st, pu, is, hp, ⟨d, l, e1, e2, n⟩, ⟨d', l', e1', e2', n'⟩⟩
theorem eq_step {X : Cx} {K : PySem.W.Frag} {mg : Str → Option Value} (T : Txt K mg) (hK : X.K = K) (hm : X.mg = mg) : EqG X 1 (DStep T) := by
  subst hK hm
  refine eqG_ins (CX := CX0) (E := E0) (FnOk.imp (ok_ms_eq T) fun vs H Q E h => ?_) (T.ms_eq.M _ rfl).at_ (T.ms_eq.M _ rfl).fn T.ms_eq.b pass0
  obtain ⟨a, b, rfl, ⟨r, st, pu, is, hp, h1, h2⟩, q⟩ := h
  refine ⟨a, r, st, pu, is, .ref b, rfl, h1, hp, .inr ⟨b, r, st, pu, is, rfl, h2, hp, ?_⟩⟩
  have e : stepB (.str r) (.int st) pu is (.str r) (.int st) pu is = true := by unfold stepB; simp
  rw [e]
  exact q H Ext.rfl'
def spSteps (T : Txt K mg) : Sp := fun vs H Q _ => ∃ (a : Addr) (n len out : V) (xs : List V), vs = [.ref a] ∧ TrainAt T H a n len out xs ∧ ∀ p, H p = none → Q (.ref p) (upd H p (.lst xs))
theorem ok_mt_steps (T : Txt K mg) : FnOk P w K mg base CX0 1 T.mt_steps.f T.mt_steps.fd ["self"] (spSteps T) := by
  refine T.mt_steps.F.ok sc_mt_steps (fun vs H Q E h => ?_) (fun cdv A outer s H vs Q E hr h => ?_)
  · obtain ⟨a, n, len, out, xs, rfl, _⟩ := h
    rfl
  · obtain ⟨a, n, len, out, xs, rfl, ⟨d, l, ea, el, m⟩, q⟩ := h
    have c := T.kTrain
    refine ⟨_, (pss_one (ps_ret (pe_callTy call_list_of (by rfl) T.z_list (by decide +kernel) (pa_cons (pe_fld (pv 0) (by rfl)) pa_nil)))), ?_⟩
    exact ⟨.ref a, rfl, a, T.aTrain, d, _, .ref l, rfl, ea, c.cls, c.noA "_steps", rfl, l, _, rfl, .inl (SqL.of el), fun p np => q p np⟩
def spTLen (T : Txt K mg) : Sp := fun vs H Q _ => ∃ (a : Addr) (n len out : V) (xs : List V), vs = [.ref a] ∧ TrainAt T H a n len out xs ∧ Q (.int xs.length) H
theorem ok_mt_len (T : Txt K mg) : FnOk P w K mg base CX0 1 T.mt_len.f T.mt_len.fd ["self"] (spTLen T) := by
  refine T.mt_len.F.ok sc_mt_len (fun vs H Q E h => ?_) (fun cdv A outer s H vs Q E hr h => ?_)
  · obtain ⟨a, n, len, out, xs, rfl, _⟩ := h
    rfl
  · obtain ⟨a, n, len, out, xs, rfl, ⟨d, l, ea, el, m⟩, q⟩ := h
    have c := T.kTrain
    refine ⟨_, (pss_one (ps_ret (pe_callB call_len_seq (by rfl) T.z_len (by decide +kernel) (pa_cons (pe_fld (pv 0) (by rfl)) pa_nil)))), ?_⟩
    exact ⟨.ref a, rfl, a, T.aTrain, d, _, .ref l, rfl, ea, c.cls, c.noA "_steps", rfl, l, _, rfl, .inl (SqL.of el), q⟩
def spTBool : Sp := fun vs H Q _ => ∃ (a : Addr), vs = [.ref a] ∧ Q (.bl true) H
theorem ok_mt_bool (T : Txt K mg) : FnOk P w K mg base CX0 1 T.mt_bool.f T.mt_bool.fd ["self"] spTBool := by
  refine T.mt_bool.F.ok sc_mt_bool (fun vs H Q E h => ?_) (fun cdv A outer s H vs Q E hr h => ?_)
  · obtain ⟨a, rfl, _⟩ := h
    rfl
  · obtain ⟨a, rfl, q⟩ := h
    exact ⟨_, (pss_one (ps_ret pe_bl)), q⟩
def spTGet (T : Txt K mg) : Sp := fun vs H Q E => ∃ (a : Addr) (n len out v : V) (xs : List V) (t : String), vs = [.ref a, v] ∧ TrainAt T H a n len out xs ∧ Kd K H v t ∧
  (isNum v 0 ((xs.length : Int) - 1) = false → ∀ p, H p = none → Rsd T.x_UnknownEntry.C ["entry"] "UnknownEntry" [.ref p] (upd H p (.tup [n, v])) E) ∧
  (∀ (j : Nat) x, v = .int j → xs[j]? = some x → Q x H)
theorem ok_mt_getitem (T : Txt K mg) : FnOk P w K mg base (L2N.CX P w) 3 T.mt_getitem.f T.mt_getitem.fd ["self", "at"] (spTGet T) := by
  refine Fun.okXN T.mt_getitem.F sc_mt_getitem (fun vs H Q E h => ?_) (fun cdv A outer s H vs Q E hr h => ?_)
  · obtain ⟨a, n, len, out, v, xs, t, rfl, _⟩ := h
    rfl
  · obtain ⟨a, n, len, out, v, xs, t, rfl, ⟨d, l, ea, el, m⟩, hv, q1, q2⟩ := h
    have c := T.kTrain
    refine ⟨_, (pss_cons (ps_if (pt_not (pt_val (pe_call (ok_is_number T) (hr.mono (by decide)) (by rfl) T.d_is_number.g T.d_is_number.F.kp T.d_is_number.b .nil pass0 (pa_cons (pv 1) (pa_cons pe_int (pa_cons (pe_op op_sub (pe_callB call_len_seq (by rfl) T.z_len (by decide +kernel) (pa_cons (pe_fld (pv 0) (by rfl)) pa_nil)) pe_int) pa_nil)))))) (pss_one (L2N.ps_raise rfl (L2N.takes_of rfl rfl rfl rfl) (pmk_VN T.x_UnknownEntry.T (raises_own T.x_UnknownEntry.xf.x.exC T.x_UnknownEntry.ty) ⟨T.x_UnknownEntry.iC, T.x_UnknownEntry.tI, ok_init_UnknownEntry T⟩ (hr.mono (by decide)) T.x_UnknownEntry.b pass0 (by rfl) T.x_UnknownEntry.g (pa_cons (pe_tup (pa_cons (pe_fld (pv 0) (by rfl)) (pa_cons (pv 1) pa_nil))) pa_nil)))) pss_nil)
      (pss_one (ps_ret (pe_ix ix_list (pe_fld (pv 0) (by rfl)) (pv 1) (fun _ _ => rfl))))), ?_⟩
    refine ⟨v, rfl, .ref a, rfl, a, T.aTrain, d, _, .ref l, rfl, ea, c.cls, c.noA "_steps", rfl, l, xs, rfl, .inl (SqL.of el), _, 1, rfl, rfl, v, t, 0, _, rfl, hv, ?_⟩
    refine ⟨_, rfl, ite2 (fun e => ?_) (fun e => ?_)⟩
    · have e' : isNum v 0 ((xs.length : Int) - 1) = false := by simpa using e
      refine ⟨.ref a, rfl, a, T.aTrain, d, _, n, rfl, ea, c.cls, c.noA "name", rfl, v, rfl, by show 2 ≤ sizeLine; decide, fun p np => ?_⟩
      exact ⟨(by show 1 ≤ 1000; decide), mkqR (ws := [.ref p]) (Q := E) rfl fun d' H' sm hd => q1 e' p np d' H' sm hd⟩
    · have e' : isNum v 0 ((xs.length : Int) - 1) = true := by simpa using e
      obtain ⟨j, x, rfl, hx⟩ : ∃ (j : Nat) (x : V), v = .int j ∧ xs[j]? = some x := by
        cases v with
        | int i =>
          have e2 : (decide (0 ≤ i) && decide (i ≤ (xs.length : Int) - 1)) = true := e'
          rw [Bool.and_eq_true, decide_eq_true_iff, decide_eq_true_iff] at e2
          have hj : i.toNat < xs.length := by omega
          exact ⟨i.toNat, xs[i.toNat], by rw [Int.toNat_of_nonneg e2.1], List.getElem?_eq_getElem hj⟩
        | _ => cases e'
      exact ⟨.ref a, rfl, a, T.aTrain, d, _, .ref l, rfl, ea, c.cls, c.noA "_steps", rfl, .int j, rfl, l, xs, j, x, rfl, rfl, SqL.of el, atI_nat hx, q2 j x rfl hx⟩
end
end Rd
set_option maxHeartbeats 4000000
namespace Rd
open PySem PySem.Spec PyProof.Rows L2
open C8 (pss_cut tCut)
/-! ## trains compared, shown, made longer -/
section
variable {P : Program} {w : World} {K : PySem.W.Frag} {mg : Str → Option Value} {base : Heap} {T : Txt K mg}
/-- are the lists of steps the same -/
def StepsEq (T : Txt K mg) (H : Hp) (xs ys : List V) (c : Bool) : Prop := (xs.length ≠ ys.length ∧ c = false) ∨ (Prs (DStep T) xs ys H ∧ c = true)
def trainB (n n' : Str) (len len' : Int) (c : Bool) (out out' : Int) : Bool := decide (n = n') && (decide (len = len') && (c && decide (out = out')))
def spTEq (T : Txt K mg) : Sp := fun vs H Q _ => ∃ (a : Addr) (n : Str) (len out : Int) (xs : List V) (y : V), vs = [.ref a, y] ∧ TrainAt T H a (.str n) (.int len) (.int out) xs ∧
  ((∃ t, TyX K H y (.type t) ∧ (["NoneType", "str", "int", "bool", "tuple", "list"] : List String).contains t = true ∧ Q (.bl false) H) ∨
    ∃ (b : Addr) (n' : Str) (len' out' : Int) (ys : List V) (c : Bool), y = .ref b ∧ TrainAt T H b (.str n') (.int len') (.int out') ys ∧ StepsEq T H xs ys c ∧ ∀ H', Ext H H' → Q (.bl (trainB n n' len len' c out out')) H')
theorem dec_strV (a b : Str) : decide (V.str a = V.str b) = decide (a = b) := decide_eq_decide.mpr ⟨V.str.inj, congrArg V.str⟩
theorem dec_intV (a b : Int) : decide (V.int a = V.int b) = decide (a = b) := decide_eq_decide.mpr ⟨V.int.inj, congrArg V.int⟩
theorem ok_mt_eq (T : Txt K mg) : FnOk P w K mg base CX0 3 T.mt_eq.f T.mt_eq.fd ["self", "other"] (spTEq T) := by
  refine T.mt_eq.F.ok sc_mt_eq (fun vs H Q E h => ?_) (fun cdv A outer s H vs Q E hr h => ?_)
  · obtain ⟨a, n, len, out, xs, y, rfl, _⟩ := h
    rfl
  · obtain ⟨a, n, len, out, xs, y, rfl, ⟨d, l, ea, el, m⟩, h⟩ := h
    have c0 := T.kTrain
    refine ⟨_, (pss_cons (ps_if (PW.pt (pw_or (pt_not (pt_val (pe_callB call_isi (by rfl) T.z_isinstance (by decide +kernel) (pa_cons (pv 1) (pa_cons (pe_glob (v := .ref T.aTrain) rfl T.c_Train rfl) pa_nil))))) (pw_or1 (pt_cmpR op_ne (pe_fld (pv 0) (by rfl)) (pe_fld (pv 1) (by rfl)) (nomark _))))) (pss_one (ps_ret pe_bl)) pss_nil)
      (pss_one (ps_ret (pe_and (pe_cmpR op_eq (pe_fld (pv 0) (by rfl)) (pe_fld (pv 1) (by rfl)) (nomark _)) (pe_and (pe_cmpR (op_eqLst (n := 1) (mon_step T) (eq_step T rfl rfl) (hr.mono (by decide))) (pe_fld (pv 0) (by rfl)) (pe_fld (pv 1) (by rfl)) (nomark _)) (pe_one (pe_cmpR op_eq (pe_fld (pv 0) (by rfl)) (pe_fld (pv 1) (by rfl)) (nomark _)))))))), ?_⟩
    rcases h with ⟨t, ty, ht, q⟩ | ⟨b, n', len', out', ys, c, rfl, ⟨d', l', eb, el', m'⟩, hs, q⟩
    · exact ⟨y, rfl, y, _, _, _, false, rfl, .own _, ty, c0.nis t ht, _, rfl, iteT q⟩
    · refine ⟨.ref b, rfl, .ref b, _, _, _, true, rfl, .own _, T.insT eb, c0.is, _, rfl, iteF ?_⟩
      refine ⟨.ref a, rfl, a, _, d, _, _, rfl, ea, c0.cls, c0.noA "name", rfl, .ref b, rfl, b, _, d', _, _, rfl, eb, c0.cls, c0.noA "name", rfl, rfl, _, rfl, ?_⟩
      unfold trainB at q
      rw [dec_strV]
      by_cases h1 : n = n'
      · rw [decide_eq_true h1] at q ⊢
        refine iteF ?_
        refine ⟨.ref a, rfl, a, _, d, _, _, rfl, ea, c0.cls, c0.noA "length", rfl, .ref b, rfl, b, _, d', _, _, rfl, eb, c0.cls, c0.noA "length", rfl, rfl, _, rfl, ?_⟩
        rw [dec_intV]
        by_cases h2 : len = len'
        · rw [decide_eq_true h2] at q ⊢
          refine iteT ?_
          refine ⟨.ref a, rfl, a, _, d, _, _, rfl, ea, c0.cls, c0.noA "_steps", rfl, .ref b, rfl, b, _, d', _, _, rfl, eb, c0.cls, c0.noA "_steps", rfl, l, l', xs, ys, rfl, rfl, el, el', ?_⟩
          have last : ∀ H', Ext H H' → c = true → tOp rEq (tFld K (tVar 0) "out") (tFld K (tVar 1) "out") [some (.ref a), some (.ref b)] H' Q := fun H' x hc => by
            subst hc
            refine ⟨.ref a, rfl, a, _, d, _, _, rfl, x _ _ ea, c0.cls, c0.noA "out", rfl, .ref b, rfl, b, _, d', _, _, rfl, x _ _ eb, c0.cls, c0.noA "out", rfl, rfl, ?_⟩
            rw [dec_intV]
            exact q H' x
          rcases hs with ⟨ne, hc⟩ | ⟨p, hc⟩
          · refine .inl ⟨ne, _, rfl, ?_⟩
            subst hc
            exact iteF (q H Ext.rfl')
          · exact .inr ⟨p, fun H' x => ⟨_, rfl, iteT (last H' x hc)⟩⟩
        · rw [decide_eq_false h2] at q ⊢
          exact iteF (q H Ext.rfl')
      · rw [decide_eq_false h1] at q ⊢
        exact iteT (q H Ext.rfl')
def spTRepr (T : Txt K mg) : Sp := fun vs H Q _ => ∃ (a : Addr) (n : Str) (len out : V) (xs : List V), vs = [.ref a] ∧ TrainAt T H a (.str n) len out xs ∧ n.length ≤ 1000 ∧ Q (.str ("Train(" ++ n ++ ", " ++ toString (xs.length : Int) ++ " steps)")) H
theorem str_int_len (i : Int) (h : i.natAbs ≤ 1000) : ((toString i : String) : Str).length ≤ 5 := by
  have hh : ∀ n : Nat, n ≤ 1000 → ((toString (n : Int) : String) : Str).length ≤ 5 ∧ ((toString (-(n : Int)) : String) : Str).length ≤ 5 := by
    decide +kernel
  rcases Int.natAbs_eq i with e | e
  · rw [e]; exact (hh _ h).1
  · rw [e]; exact (hh _ h).2
theorem log_small (i : Int) (h : i.natAbs ≤ 1000) : i.natAbs.log2 < 1920 := by
  have := Nat.log2_le_self i.natAbs
  omega
theorem ok_mt_repr (T : Txt K mg) : FnOk P w K mg base CX0 1 T.mt_repr.f T.mt_repr.fd ["self"] (spTRepr T) := by
  refine T.mt_repr.F.ok sc_mt_repr (fun vs H Q E h => ?_) (fun cdv A outer s H vs Q E hr h => ?_)
  · obtain ⟨a, n, len, out, xs, rfl, _⟩ := h
    rfl
  · obtain ⟨a, n, len, out, xs, rfl, ⟨d, l, ea, el, m1, m2⟩, hn, q⟩ := h
    have c := T.kTrain
    have l6 : (("Train(" : Str)).length = 6 := by decide
    have l2 : ((", " : Str)).length = 2 := by decide
    have l7 : ((" steps)" : Str)).length = 7 := by decide
    have l5 := str_int_len (xs.length : Int) (by omega)
    refine ⟨_, (pss_one (ps_ret (pe_joined (PJ.cons pe_str (PJ.cons (pe_fmt (pe_fld (pv 0) (by rfl))) (PJ.cons pe_str (PJ.cons (pe_fmt (pe_callB call_len_seq (by rfl) T.z_len (by decide +kernel) (pa_cons (pe_fld (pv 0) (by rfl)) pa_nil))) (PJ.cons pe_str PJ.nil)))))))), ?_⟩
    refine ⟨_, rfl, Nat.le_of_lt (small10000 (by rw [empty_app, l6]; omega)), ?_⟩
    rw [empty_app]
    refine ⟨.ref a, rfl, a, _, d, _, _, rfl, ea, c.cls, c.noA "name", rfl, .inl ⟨_, rfl, Nat.le_of_lt (small10000 (by omega)), ?_⟩⟩
    refine ⟨_, rfl, Nat.le_of_lt (small10000 (by rw [app_len, l6]; omega)), ?_⟩
    refine ⟨_, rfl, Nat.le_of_lt (small10000 (by rw [app_len, app_len, l6, l2]; omega)), ?_⟩
    refine ⟨.ref a, rfl, a, _, d, _, _, rfl, ea, c.cls, c.noA "_steps", rfl, l, xs, rfl, .inl (SqL.of el), .inr ⟨(xs.length : Int), rfl, log_small _ (by omega), ?_⟩⟩
    refine ⟨_, rfl, Nat.le_of_lt (small10000 (by rw [app_len, app_len, app_len, l6, l2]; omega)), ?_⟩
    refine ⟨_, rfl, Nat.le_of_lt (small10000 (by rw [app_len, app_len, app_len, app_len, l6, l2, l7]; omega)), ?_⟩
    exact q
end
end Rd
set_option maxHeartbeats 4000000
namespace Rd
open PySem PySem.Spec PyProof.Rows L2
open C8 (pss_cut tCut)
/-! ## steps and trains as they are made -/
def swap2 {α : Type} : List α → List α
  | t :: r :: l => r :: t :: l
  | l => l
section
variable {P : Program} {w : World} {K : PySem.W.Frag} {mg : Str → Option Value} {base : Heap} {T : Txt K mg}
theorem kb_sp (T : Txt K mg) : ∃ mv : List Value, KBn K T.ms_init.fd ["self", "route", "times", "stop", "public"] 3 ["stop", "public"] (fun us ws => us ++ (mv ++ ws)) (fun vs zs => vs ++ zs) := by
  obtain ⟨mv, h⟩ := FunD.kbinds0 (ps := ["self", "route", "times", "stop", "public"]) T.ms_init.F 3 ["stop", "public"] [] (fun us mv ws => us ++ (mv ++ ws)) (by simp) (fun q h => by cases h) (fun a b c => a.append (b.append c))
    (fun D doc pm an cdv ct us mv ws h1 h2 h3 => by
      match us, mv, ws, h1, h2, h3 with
      | [_, _, _], [], [_, _], _, _, _ => rfl)
  exact ⟨mv, h⟩
theorem kb_p (T : Txt K mg) : ∃ mv : List Value, KBn K T.ms_init.fd ["self", "route", "times", "stop", "public"] 3 ["public"] (fun us ws => us ++ (mv ++ ws)) (fun vs zs => vs ++ ([.int 0] ++ zs)) := by
  obtain ⟨mv, h⟩ := FunD.kbinds0 (ps := ["self", "route", "times", "stop", "public"]) T.ms_init.F 3 ["public"] [("stop", .int 0)] (fun us mv ws => us ++ (mv ++ ws)) (by simp) (fun q h => by rw [List.mem_singleton.mp h]; exact List.mem_cons_self) (fun a b c => a.append (b.append c))
    (fun D doc pm an cdv ct us mv ws h1 h2 h3 => by
      match us, mv, ws, h1, h2, h3 with
      | [_, _, _], [_], [_], _, _, _ => exact ⟨_, _, _, _, _, _, rfl, rfl, rfl⟩)
  exact ⟨mv, h⟩
theorem vals_swap {vs : List V} {us : List Value} (h : Vals vs us) : Vals (swap2 vs) (swap2 us) := by
  cases h with
  | nil => exact .nil
  | cons h1 h =>
    cases h with
    | nil => exact .cons h1 .nil
    | cons h2 h => exact .cons h2 (.cons h1 h)
theorem kb_a (T : Txt K mg) : ∃ mv : List Value, KBn K T.ms_init.fd ["self", "route", "times", "stop", "public"] 1 ["times", "route", "stop", "public"] (fun us ws => us ++ (mv ++ swap2 ws)) (fun vs zs => vs ++ swap2 zs) := by
  obtain ⟨mv, h⟩ := FunD.kbinds0 (ps := ["self", "route", "times", "stop", "public"]) T.ms_init.F 1 ["times", "route", "stop", "public"] [] (fun us mv ws => us ++ (mv ++ swap2 ws)) (by simp) (fun q h => by cases h) (fun a b c => a.append (b.append (vals_swap c)))
    (fun D doc pm an cdv ct us mv ws h1 h2 h3 => by
      match us, mv, ws, h1, h2, h3 with
      | [_], [], [_, _, _, _], _, _, _ => rfl)
  exact ⟨mv, h⟩
theorem kb_0 (T : Txt K mg) : ∃ ds, Vals [V.int 0, .non] ds ∧ Binds K T.ms_init.fd ["self", "route", "times", "stop", "public"] ds :=
  FunD.binds0 (ps := ["self", "route", "times", "stop", "public"]) T.ms_init.F 3 (by simp) rfl fun D doc pm an cdv ct us ks h1 h2 => by
    match us, ks, h1, h2 with
    | [_, _, _], [_, _], _, _ => exact ⟨_, _, _, _, _, _, rfl, rfl, _, _, _, _, _, _, rfl, rfl, rfl⟩
/-- a train is made: what its parts come to -/
theorem mk_trainG {H : Hp} {Q : VK} {E : XK} {n len out : V} {rv : List V} {tn tl to : String} (kn : Kd K H n tn) (hz : ∀ z, n = .str z → z.length ≤ 1000) (kl : Kd K H len tl) (ko : Kd K H out to) (hx : rv.length ≤ 1000)
    (m : ∀ x dx H2, H x = none → (∀ b o, H b = some o → H2 b = some o) → H2 x = some (.ins T.aTrain dx []) → TrainMk T x dx n len out rv H2 (fun v H3 => v = .non ∧ Q (.ref x) H3) E) : SkNew T.aTrain (spTI T) E H Q [n, len] rv out := by
  intro x dx p nx nd np hd px pd
  have s : Same H (upd (upd (upd H dx (.own x)) x (.ins T.aTrain dx [])) p (.tup rv)) := fun b o e => by
    rw [upd_ne (ne_of_none e np), upd_ne (ne_of_none e nx), upd_ne (ne_of_none e nd)]
    exact e
  have ex : (upd (upd (upd H dx (.own x)) x (.ins T.aTrain dx [])) p (.tup rv)) x = some (.ins T.aTrain dx []) := by rw [upd_ne px.symm]; exact upd_same
  exact ⟨x, dx, p, n, len, out, rv, tn, tl, to, rfl, ex, upd_same, hx, kn.same s, hz, kl.same s, ko.same s, m x dx _ nx s ex⟩
theorem mk_train {H : Hp} {Q : VK} {E : XK} {n : Str} {len out : Int} {rv : List V} (hn : isNm (.str n) = true) (hl : isNum (.int len) 1 60 = true) (ho : isNum (.int out) 1 1000000 = true) (ha : ∀ x, x ∈ rv → IsStepV T H x) (l1 : 1 ≤ rv.length) (l6 : rv.length ≤ 6)
    (q : ∀ b dx l H', Same H H' → H b = none → H l = none → H' b = some (.ins T.aTrain dx (trainF (.str n) (.int len) (.int out) (.ref l))) → H' l = some (.lst rv) → Q (.ref b) H') : SkNew T.aTrain (spTI T) E H Q [.str n, .int len] rv (.int out) := by
  have hz : n.length ≤ 1000 := by
    rw [isNm_str] at hn
    simp only [Bool.and_eq_true, decide_eq_true_eq] at hn
    omega
  refine mk_trainG (.sc rfl) (fun z e => by cases e; exact hz) (.sc rfl) (.sc rfl) (by omega) fun x dx H2 nx s ex => ?_
  refine ⟨fun e => (by rw [hn] at e; cases e), fun _ e => (by rw [hl] at e; cases e), fun _ _ => .inr ⟨fun y m => (ha y m).same s, fun h => by omega, fun h => by omega, fun _ _ H3 s3 _ => ⟨fun e => (by rw [ho] at e; cases e), fun _ l H4 k nl la el ea => ⟨rfl, ?_⟩⟩⟩⟩
  refine q x dx l H4 (fun b o e => ?_) nx (none_of s (none_of s3 nl)) ea el
  exact k _ _ (ne_of_none e nx) (s3 _ _ (s _ _ e))
/-- a step is made -/
theorem mk_step {H : Hp} {Q : VK} {E : XK} {r : Str} {st : Int} {pu ts : V} {is : List Int} (ht : TimesV K H ts true (is.map V.int)) (hs : isNum (.int st) 0 1000000 = true) (hp : pubB pu = true) (kp : isSc pu = true)
    (q : ∀ b dx l H', Same H H' → H b = none → H l = none → H' b = some (.ins T.aStep dx (stepF (.str r) (.int st) pu (.ref l))) → H' l = some (.lst (is.map V.int)) → Q (.ref b) H') (x dx : Addr) (nx : H x = none) (nd : H dx = none) (hd : dx ≠ x) :
    spSI T [.ref x, .str r, ts, .int st, pu] (upd (upd H dx (.own x)) x (.ins T.aStep dx [])) (fun v H2 => v = .non ∧ Q (.ref x) H2) E := by
  have s : Same H (upd (upd H dx (.own x)) x (.ins T.aStep dx [])) := fun b o e => by
    rw [upd_ne (ne_of_none e nx), upd_ne (ne_of_none e nd)]
    exact e
  obtain ⟨_, _, _, hn, _⟩ := ht.items
  rw [List.length_map] at hn
  refine ⟨x, dx, .str r, ts, .int st, pu, true, _, _, _, rfl, upd_same, ht.same s, .sc rfl, .sc kp, ⟨fun e => (by cases e), fun _ e => (by rw [hs] at e; cases e), fun _ _ e => (by rw [hp] at e; cases e), fun _ _ _ l H2 k nl la el ea => ⟨rfl, ?_⟩⟩⟩
  exact q x dx l H2 (fun b o e => k _ _ (ne_of_none e nx) (s _ _ e)) nx (none_of s nl) ea el
def spLonger (T : Txt K mg) : Sp := fun vs H Q E => ∃ (a : Addr) (n : Str) (len out i : Int) (xs : List V), vs = [.ref a, .int i] ∧ TrainAt T H a (.str n) (.int len) (.int out) xs ∧ isNm (.str n) = true ∧ isNum (.int out) 1 1000000 = true ∧ (∀ x, x ∈ xs → IsStepV T H x) ∧
  (isNum (.int (len + i)) 1 60 = false → Rsd T.x_InvalidNumber.C ["value"] "InvalidNumber" [.int (len + i)] H E) ∧
  (isNum (.int (len + i)) 1 60 = true → ∀ b dx l H', Same H H' → H b = none → H l = none → H' b = some (.ins T.aTrain dx (trainF (.str n) (.int (len + i)) (.int out) (.ref l))) → H' l = some (.lst xs) → Q (.ref b) H')
theorem ok_mt_longer (T : Txt K mg) : FnOk P w K mg base (L2N.CX P w) 7 T.mt_longer.f T.mt_longer.fd ["self", "by"] (spLonger T) := by
  refine Fun.okXN T.mt_longer.F sc_mt_longer (fun vs H Q E h => ?_) (fun cdv A outer s H vs Q E hr h => ?_)
  · obtain ⟨a, n, len, out, i, xs, rfl, _⟩ := h
    rfl
  · obtain ⟨a, n, len, out, i, xs, rfl, ⟨d, l, ea, el, m1, m6⟩, hn, ho, ha, q1, q2⟩ := h
    have c := T.kTrain
    refine ⟨_, (pss_one (ps_ret (pe_makeSKs T.kTrain.made (ok_mt_init T) (hr.mono (by decide)) (by rfl) T.c_Train (L2N.passes_call (L2N.takes_of rfl rfl rfl rfl) (fun _ _ _ _ h => h)) (pa_cons (pe_fld (pv 0) (by rfl)) (pa_cons (pe_op op_add (pe_fld (pv 0) (by rfl)) (pv 1)) (StX.pa_star (pe_fld (pv 0) (by rfl)) pa_nil))) (pk_cons (pe_fld (pv 0) (by rfl)) pk_nil)))), ?_⟩
    refine ⟨.ref a, rfl, a, _, d, _, _, rfl, ea, c.cls, c.noA "name", rfl, .ref a, rfl, a, _, d, _, _, rfl, ea, c.cls, c.noA "length", rfl, .int i, rfl, len, i, rfl, rfl, ?_⟩
    refine ⟨.ref a, rfl, a, _, d, _, _, rfl, ea, c.cls, c.noA "_steps", rfl, l, xs, rfl, .inr (SqL.of el), ?_⟩
    refine ⟨.ref a, rfl, a, _, d, _, _, rfl, ea, c.cls, c.noA "out", rfl, [.str n, .int (len + i)], xs, .int out, by simp, rfl, rfl, Nat.le_of_lt (small1000 (by omega)), ?_⟩
    cases hb : isNum (.int (len + i)) 1 60 with
    | true => exact mk_train hn hb ho ha m1 m6 fun b dx l H' s nb nl e1 e2 => q2 hb b dx l H' s nb nl e1 e2
    | false =>
      have hz : n.length ≤ 1000 := by
        rw [isNm_str] at hn
        simp only [Bool.and_eq_true, decide_eq_true_eq] at hn
        omega
      refine mk_trainG (.sc rfl) (fun z e => by cases e; exact hz) (.sc rfl) (.sc rfl) (by omega) fun x dx H2 nx s ex => ?_
      exact ⟨fun e => (by rw [hn] at e; cases e), fun _ _ => (q1 hb).of s, fun _ e => (by rw [hb] at e; cases e)⟩
end
end Rd
set_option maxHeartbeats 4000000
namespace Rd
open PySem PySem.Spec PyProof.Rows L2 L2H HotX
open C8 (pss_cut tCut)
/-! ## an error that is caught: its code and its fields -/
section
variable {P : Program} {w : World} {K : PySem.W.Frag} {mg : Str → Option Value} {base : Heap} {T : Txt K mg}
def spFieldsE (a dd : Addr) (nm codes : List Str) : Sp := fun vs H Q _ => ∃ (code : Str) (ws : List V), vs = [.ref a] ∧ H dd = some (.xd (exF nm code ws)) ∧ codes.contains code = true ∧ ws.length = nm.length ∧ ∀ H1 p, Same H H1 → H p = none → H1 p = some (.tup ws) → Q (.ref p) H1
theorem exF_code (nm : List Str) (code : Str) (ws : List V) : (exF nm code ws).lookup ("code" : Str) = some (.str code) := rfl
theorem ok_fieldsA (T : Txt K mg) {x qual : Str} {st : Stmt} {ps : List Str} {B newId initId : String} {bmB : List Value} (D : DX K mg x qual st ps ["value", "code"] B newId initId bmB) {a dd : Addr} {oe : Obj} (hc : oe.cls = .ref D.C) (hd : oe.dict = some dd) (hf : ∃ vs, oe.data = .fields vs) :
    FnE P w K mg base CX0 1 T.d__law_fields.f T.d__law_fields.fd ["_law_e"] (spFieldsE a dd ["value"] ["InvalidName", "InvalidNumber", "InvalidTimes", "InvalidStep"]) a oe := by
  refine Fun.okE T.d__law_fields.F sc_law_fields (fun vs H Q E h => ?_) (fun cdv A outer s H vs Q E hot hr h => ?_)
  · obtain ⟨code, ws, rfl, _⟩ := h
    rfl
  · obtain ⟨code, ws, rfl, eD, hcode, hw, q⟩ := h
    obtain ⟨x, rfl⟩ : ∃ x, ws = [x] := by
      match ws, hw with
      | [x], _ => exact ⟨x, rfl⟩
    have hin : inV (.str code) [.str "InvalidName", .str "InvalidNumber", .str "InvalidSection", .str "InvalidTimes", .str "InvalidStep"] = true := by
      have := List.elem_iff.mp hcode
      simp only [List.mem_cons, List.not_mem_nil, or_false] at this
      rcases this with rfl | rfl | rfl | rfl <;> decide +kernel
    refine ⟨_, (pss_cons (ps_if (pt_cmpR op_in_seq (pe_xq (C := D.C) (dd := dd) (a := a) (oe := oe) D.xf.x (D.no "code" (by decide +kernel)) hc hd hf List.mem_cons_self (pv 0)) (pe_lst (pa_cons pe_str (pa_cons pe_str (pa_cons pe_str (pa_cons pe_str (pa_cons pe_str pa_nil)))))) (by rfl)) (pss_one (ps_ret (pe_tup (pa_cons (pe_xq (C := D.C) (dd := dd) (a := a) (oe := oe) D.xf.x (D.no "value" (by decide +kernel)) hc hd hf List.mem_cons_self (pv 0)) pa_nil)))) pss_nil) pss_never), ?_⟩
    refine ⟨.ref a, rfl, rfl, _, _, eD, exF_code _ _ _, by show 5 ≤ sizeLine; decide, fun p np => ⟨p, _, rfl, .inl (SqL.of upd_same), rfl, by rfl, ?_⟩⟩
    refine ⟨_, rfl, ?_⟩
    show if inV (.str code) _ = true then _ else _
    rw [hin]
    have s1 := same_new (o := .lst [.str "InvalidName", .str "InvalidNumber", .str "InvalidSection", .str "InvalidTimes", .str "InvalidStep"]) np
    refine iteT ⟨.ref a, rfl, rfl, _, x, s1 _ _ eD, rfl, by show 1 ≤ sizeLine; decide, fun p2 np2 => ?_⟩
    exact q _ p2 (s1.trans (same_new np2)) (none_of s1 np2) upd_same
theorem ok_fieldsB (T : Txt K mg) {x qual : Str} {st : Stmt} {ps : List Str} {B newId initId : String} {bmB : List Value} (D : DX K mg x qual st ps ["subject", "most", "code"] B newId initId bmB) {a dd : Addr} {oe : Obj} (hc : oe.cls = .ref D.C) (hd : oe.dict = some dd) (hf : ∃ vs, oe.data = .fields vs) :
    FnE P w K mg base CX0 1 T.d__law_fields.f T.d__law_fields.fd ["_law_e"] (spFieldsE a dd ["subject", "most"] ["TooMany"]) a oe := by
  refine Fun.okE T.d__law_fields.F sc_law_fields (fun vs H Q E h => ?_) (fun cdv A outer s H vs Q E hot hr h => ?_)
  · obtain ⟨code, ws, rfl, _⟩ := h
    rfl
  · obtain ⟨code, ws, rfl, eD, hcode, hw, q⟩ := h
    obtain ⟨x, y, rfl⟩ : ∃ x y, ws = [x, y] := by
      match ws, hw with
      | [x, y], _ => exact ⟨x, y, rfl⟩
    replace hcode : code = "TooMany" := List.mem_singleton.mp (List.elem_iff.mp hcode)
    refine ⟨_, (pss_cons (ps_if (pt_cmpR op_in_seq (pe_xq (C := D.C) (dd := dd) (a := a) (oe := oe) D.xf.x (D.no "code" (by decide +kernel)) hc hd hf List.mem_cons_self (pv 0)) (pe_lst (pa_cons pe_str (pa_cons pe_str (pa_cons pe_str (pa_cons pe_str (pa_cons pe_str pa_nil)))))) (by rfl)) pss_never pss_nil) (pss_cons (ps_if (pt_cmpR op_in_seq (pe_xq (C := D.C) (dd := dd) (a := a) (oe := oe) D.xf.x (D.no "code" (by decide +kernel)) hc hd hf List.mem_cons_self (pv 0)) (pe_lst (pa_cons pe_str (pa_cons pe_str (pa_cons pe_str pa_nil)))) (by rfl)) pss_never pss_nil) (pss_cons (ps_if (pt_cmpR op_in_seq (pe_xq (C := D.C) (dd := dd) (a := a) (oe := oe) D.xf.x (D.no "code" (by decide +kernel)) hc hd hf List.mem_cons_self (pv 0)) (pe_lst (pa_cons pe_str (pa_cons pe_str (pa_cons pe_str pa_nil)))) (by rfl)) pss_never pss_nil) (pss_cons (ps_if (pt_cmpR op_eq (pe_xq (C := D.C) (dd := dd) (a := a) (oe := oe) D.xf.x (D.no "code" (by decide +kernel)) hc hd hf List.mem_cons_self (pv 0)) pe_str (nomark _)) (pss_one (ps_ret (pe_tup (pa_cons (pe_xq (C := D.C) (dd := dd) (a := a) (oe := oe) D.xf.x (D.no "subject" (by decide +kernel)) hc hd hf List.mem_cons_self (pv 0)) (pa_cons (pe_xq (C := D.C) (dd := dd) (a := a) (oe := oe) D.xf.x (D.no "most" (by decide +kernel)) hc hd hf List.mem_cons_self (pv 0)) pa_nil))))) pss_nil) pss_never)))), ?_⟩
    refine ⟨.ref a, rfl, rfl, _, _, eD, exF_code _ _ _, by show 5 ≤ sizeLine; decide, fun p1 np1 => ⟨p1, _, rfl, .inl (SqL.of upd_same), rfl, by rfl, ?_⟩⟩
    have s1 := same_new (o := .lst [.str "InvalidName", .str "InvalidNumber", .str "InvalidSection", .str "InvalidTimes", .str "InvalidStep"]) np1
    replace eD := s1 _ _ eD
    replace q := fun H1 p (s : Same (upd _ p1 (.lst [.str "InvalidName", .str "InvalidNumber", .str "InvalidSection", .str "InvalidTimes", .str "InvalidStep"])) H1) n e => q H1 p (s1.trans s) (none_of s1 n) e
    refine ⟨_, rfl, ?_⟩
    show if inV (.str code) _ = true then _ else _
    rw [show inV (.str code) [.str "InvalidName", .str "InvalidNumber", .str "InvalidSection", .str "InvalidTimes", .str "InvalidStep"] = false by rw [hcode]; decide +kernel]
    refine iteF ?_
    refine ⟨.ref a, rfl, rfl, _, _, eD, exF_code _ _ _, by show 3 ≤ sizeLine; decide, fun p2 np2 => ⟨p2, _, rfl, .inl (SqL.of upd_same), rfl, by rfl, ?_⟩⟩
    have s2 := same_new (o := .lst [.str "DuplicateName", .str "InUse", .str "UnknownName"]) np2
    replace eD := s2 _ _ eD
    replace q := fun H1 p (s : Same (upd _ p2 (.lst [.str "DuplicateName", .str "InUse", .str "UnknownName"])) H1) n e => q H1 p (s2.trans s) (none_of s2 n) e
    refine ⟨_, rfl, ?_⟩
    show if inV (.str code) _ = true then _ else _
    rw [show inV (.str code) [.str "DuplicateName", .str "InUse", .str "UnknownName"] = false by rw [hcode]; decide +kernel]
    refine iteF ?_
    refine ⟨.ref a, rfl, rfl, _, _, eD, exF_code _ _ _, by show 3 ≤ sizeLine; decide, fun p3 np3 => ⟨p3, _, rfl, .inl (SqL.of upd_same), rfl, by rfl, ?_⟩⟩
    have s3 := same_new (o := .lst [.str "TakenEnd", .str "LooseEnd", .str "UnknownEnd"]) np3
    replace eD := s3 _ _ eD
    replace q := fun H1 p (s : Same (upd _ p3 (.lst [.str "TakenEnd", .str "LooseEnd", .str "UnknownEnd"])) H1) n e => q H1 p (s3.trans s) (none_of s3 n) e
    refine ⟨_, rfl, ?_⟩
    show if inV (.str code) _ = true then _ else _
    rw [show inV (.str code) [.str "TakenEnd", .str "LooseEnd", .str "UnknownEnd"] = false by rw [hcode]; decide +kernel]
    refine iteF ?_
    refine ⟨.ref a, rfl, rfl, _, _, eD, exF_code _ _ _, rfl, _, rfl, ?_⟩
    rw [decide_eq_true (show V.str code = V.str "TooMany" by rw [hcode])]
    refine iteT ⟨.ref a, rfl, rfl, _, x, eD, rfl, .ref a, rfl, rfl, _, y, eD, rfl, by show 2 ≤ sizeLine; decide, fun p2 np2 => ?_⟩
    exact q _ p2 (same_new np2) np2 upd_same
theorem ok_fieldsC (T : Txt K mg) {x qual : Str} {st : Stmt} {ps : List Str} {B newId initId : String} {bmB : List Value} (D : DX K mg x qual st ps ["entry", "code"] B newId initId bmB) {a dd : Addr} {oe : Obj} (hc : oe.cls = .ref D.C) (hd : oe.dict = some dd) (hf : ∃ vs, oe.data = .fields vs) :
    FnE P w K mg base CX0 1 T.d__law_fields.f T.d__law_fields.fd ["_law_e"] (spFieldsE a dd ["entry"] ["UnknownEntry"]) a oe := by
  refine Fun.okE T.d__law_fields.F sc_law_fields (fun vs H Q E h => ?_) (fun cdv A outer s H vs Q E hot hr h => ?_)
  · obtain ⟨code, ws, rfl, _⟩ := h
    rfl
  · obtain ⟨code, ws, rfl, eD, hcode, hw, q⟩ := h
    obtain ⟨x, rfl⟩ : ∃ x, ws = [x] := by
      match ws, hw with
      | [x], _ => exact ⟨x, rfl⟩
    replace hcode : code = "UnknownEntry" := List.mem_singleton.mp (List.elem_iff.mp hcode)
    refine ⟨_, (pss_cons (ps_if (pt_cmpR op_in_seq (pe_xq (C := D.C) (dd := dd) (a := a) (oe := oe) D.xf.x (D.no "code" (by decide +kernel)) hc hd hf List.mem_cons_self (pv 0)) (pe_lst (pa_cons pe_str (pa_cons pe_str (pa_cons pe_str (pa_cons pe_str (pa_cons pe_str pa_nil)))))) (by rfl)) pss_never pss_nil) (pss_cons (ps_if (pt_cmpR op_in_seq (pe_xq (C := D.C) (dd := dd) (a := a) (oe := oe) D.xf.x (D.no "code" (by decide +kernel)) hc hd hf List.mem_cons_self (pv 0)) (pe_lst (pa_cons pe_str (pa_cons pe_str (pa_cons pe_str pa_nil)))) (by rfl)) pss_never pss_nil) (pss_cons (ps_if (pt_cmpR op_in_seq (pe_xq (C := D.C) (dd := dd) (a := a) (oe := oe) D.xf.x (D.no "code" (by decide +kernel)) hc hd hf List.mem_cons_self (pv 0)) (pe_lst (pa_cons pe_str (pa_cons pe_str (pa_cons pe_str pa_nil)))) (by rfl)) pss_never pss_nil) (pss_cons (ps_if (pt_cmpR op_eq (pe_xq (C := D.C) (dd := dd) (a := a) (oe := oe) D.xf.x (D.no "code" (by decide +kernel)) hc hd hf List.mem_cons_self (pv 0)) pe_str (nomark _)) pss_never pss_nil) (pss_cons (ps_if (pt_cmpR op_eq (pe_xq (C := D.C) (dd := dd) (a := a) (oe := oe) D.xf.x (D.no "code" (by decide +kernel)) hc hd hf List.mem_cons_self (pv 0)) pe_str (nomark _)) pss_never pss_nil) (pss_one (ps_ret (pe_ifExp (pt_cmpR op_eq (pe_xq (C := D.C) (dd := dd) (a := a) (oe := oe) D.xf.x (D.no "code" (by decide +kernel)) hc hd hf List.mem_cons_self (pv 0)) pe_str (nomark _)) (pe_tup (pa_cons (pe_xq (C := D.C) (dd := dd) (a := a) (oe := oe) D.xf.x (D.no "entry" (by decide +kernel)) hc hd hf List.mem_cons_self (pv 0)) pa_nil)) (pe_tup pa_nil))))))))) , ?_⟩
    refine ⟨.ref a, rfl, rfl, _, _, eD, exF_code _ _ _, by show 5 ≤ sizeLine; decide, fun p1 np1 => ⟨p1, _, rfl, .inl (SqL.of upd_same), rfl, by rfl, ?_⟩⟩
    have s1 := same_new (o := .lst [.str "InvalidName", .str "InvalidNumber", .str "InvalidSection", .str "InvalidTimes", .str "InvalidStep"]) np1
    replace eD := s1 _ _ eD
    replace q := fun H1 p (s : Same (upd _ p1 (.lst [.str "InvalidName", .str "InvalidNumber", .str "InvalidSection", .str "InvalidTimes", .str "InvalidStep"])) H1) n e => q H1 p (s1.trans s) (none_of s1 n) e
    refine ⟨_, rfl, ?_⟩
    show if inV (.str code) _ = true then _ else _
    rw [show inV (.str code) [.str "InvalidName", .str "InvalidNumber", .str "InvalidSection", .str "InvalidTimes", .str "InvalidStep"] = false by rw [hcode]; decide +kernel]
    refine iteF ?_
    refine ⟨.ref a, rfl, rfl, _, _, eD, exF_code _ _ _, by show 3 ≤ sizeLine; decide, fun p2 np2 => ⟨p2, _, rfl, .inl (SqL.of upd_same), rfl, by rfl, ?_⟩⟩
    have s2 := same_new (o := .lst [.str "DuplicateName", .str "InUse", .str "UnknownName"]) np2
    replace eD := s2 _ _ eD
    replace q := fun H1 p (s : Same (upd _ p2 (.lst [.str "DuplicateName", .str "InUse", .str "UnknownName"])) H1) n e => q H1 p (s2.trans s) (none_of s2 n) e
    refine ⟨_, rfl, ?_⟩
    show if inV (.str code) _ = true then _ else _
    rw [show inV (.str code) [.str "DuplicateName", .str "InUse", .str "UnknownName"] = false by rw [hcode]; decide +kernel]
    refine iteF ?_
    refine ⟨.ref a, rfl, rfl, _, _, eD, exF_code _ _ _, by show 3 ≤ sizeLine; decide, fun p3 np3 => ⟨p3, _, rfl, .inl (SqL.of upd_same), rfl, by rfl, ?_⟩⟩
    have s3 := same_new (o := .lst [.str "TakenEnd", .str "LooseEnd", .str "UnknownEnd"]) np3
    replace eD := s3 _ _ eD
    replace q := fun H1 p (s : Same (upd _ p3 (.lst [.str "TakenEnd", .str "LooseEnd", .str "UnknownEnd"])) H1) n e => q H1 p (s3.trans s) (none_of s3 n) e
    refine ⟨_, rfl, ?_⟩
    show if inV (.str code) _ = true then _ else _
    rw [show inV (.str code) [.str "TakenEnd", .str "LooseEnd", .str "UnknownEnd"] = false by rw [hcode]; decide +kernel]
    refine iteF ?_
    refine ⟨.ref a, rfl, rfl, _, _, eD, exF_code _ _ _, rfl, _, rfl, ?_⟩
    rw [decide_eq_false (show ¬ V.str code = V.str "TooMany" by rw [hcode]; decide)]
    refine iteF ?_
    refine ⟨.ref a, rfl, rfl, _, _, eD, exF_code _ _ _, rfl, _, rfl, ?_⟩
    rw [decide_eq_false (show ¬ V.str code = V.str "InvalidText" by rw [hcode]; decide)]
    refine iteF ?_
    refine ⟨.ref a, rfl, rfl, _, _, eD, exF_code _ _ _, rfl, _, rfl, ?_⟩
    rw [decide_eq_true (show V.str code = V.str "UnknownEntry" by rw [hcode])]
    refine iteT ⟨.ref a, rfl, rfl, _, x, eD, rfl, by show 1 ≤ sizeLine; decide, fun p2 np2 => ?_⟩
    exact q _ p2 (same_new np2) np2 upd_same
end
end Rd
set_option maxHeartbeats 4000000
namespace Rd
open PySem PySem.Spec PyProof.Rows L2 L2H HotX
open C8 (pss_cut tCut)
/-! ## an ask that is tried -/
section
variable {P : Program} {w : World} {K : PySem.W.Frag} {mg : Str → Option Value} {base : Heap} {T : Txt K mg}
/-- the classes of errors, their fields and codes -/
inductive ErrK (T : Txt K mg) : Value → List Str → Str → Prop
  | e0 : ErrK T (.ref T.x_InvalidName.C) ["value"] "InvalidName"
  | e1 : ErrK T (.ref T.x_InvalidNumber.C) ["value"] "InvalidNumber"
  | e2 : ErrK T (.ref T.x_InvalidTimes.C) ["value"] "InvalidTimes"
  | e3 : ErrK T (.ref T.x_InvalidStep.C) ["value"] "InvalidStep"
  | e4 : ErrK T (.ref T.x_TooMany.C) ["subject", "most"] "TooMany"
  | e5 : ErrK T (.ref T.x_UnknownEntry.C) ["entry"] "UnknownEntry"
def ErrOf (T : Txt K mg) (cls : Value) (d : Option Addr) (H : Hp) (code : Str) (ws : List V) : Prop := ∃ dd nm, d = some dd ∧ H dd = some (.xd (exF nm code ws)) ∧ ErrK T cls nm code ∧ ws.length = nm.length
def spTry (P : Program) (w : World) (K : PySem.W.Frag) (mg : Str → Option Value) (base : Heap) (T : Txt K mg) (k : Nat) : Sp := fun vs H Q _ => ∃ (f : Addr) (spf : Hp → VK → XK → Prop), vs = [.ref f] ∧ IsLam H f ∧ Act P w K mg base k H f spf ∧
  ∀ (Q' : VK) (E' : XK), (∀ v H1, (∀ p, H1 p = none → Q (.ref p) (upd H1 p (.tup [.str "", v]))) → Q' v H1) →
    (∀ cls d H1, (∃ code ws, ErrOf T cls d H1 code ws ∧ ∀ H2 p q, Same H1 H2 → H1 p = none → H1 q = none → H2 p = some (.tup [.str code, .ref q]) → H2 q = some (.tup ws) → Q (.ref p) H2) → E' cls d H1) → spf H Q' E'
/-- what the suite does, for a class and a dict -/
def tSuite (T : Txt K mg) (a : Addr) (cls : Value) (d : Option Addr) : TS := fun D σ H => ∃ code ws, ErrOf T cls d H code ws ∧ σ[1]? = some (some (.ref a)) ∧ ∀ H2 p q, Same H H2 → H p = none → H q = none → H2 p = some (.tup [.str code, .ref q]) → H2 q = some (.tup ws) → D.rt (.ref p) H2
theorem ok_law_try (T : Txt K mg) (k : Nat) : FnOk P w K mg base CX0 (k + 3) T.d__law_try.f T.d__law_try.fd ["_law_ask"] (spTry P w K mg base T k) := by
  refine T.d__law_try.F.ok sc_law_try (fun vs H Q E h => ?_) (fun cdv A outer s H vs Q E hr h => ?_)
  · obtain ⟨f, spf, rfl, _⟩ := h
    rfl
  · obtain ⟨f, spf, rfl, hl, ha, q⟩ := h
    have suite : ∀ {X' : Cx} (hX : X' = (cxOf CX0 P w K mg base N_law_try "_law_try" (defScope s_law_try) T.d__law_try.f cdv A outer s H E).nox) (a : Addr) (oe : Obj) (cls : Value) (d : Option Addr) (pn : List (Addr × Obj)), L2N.Zn cls d oe → (∃ vs, oe.data = .fields vs) → X'.base.get? a = none →
        ∀ {p1 p2 p3 p4 p5 p6 p7 : Pos} {k1 : Nat}, PSs (X'.suite a ((a, oe) :: pn)) [.Return (some (.Tuple [.Attribute (.Name "_law_e" p1) "code" p2, .Call (.Name "_law_fields" p3) [.Name "_law_e" p4] [] p5] k1 p6)) p7] (tSuite T a cls d) := by
      intro X' hX a oe cls d pn hz hf hb p1 p2 p3 p4 p5 p6 p7 k1
      subst hX
      have goA : ∀ {x qual : Str} {st : Stmt} {ps : List Str} {B newId initId : String} {bmB : List Value} (D : DX K mg x qual st ps ["value", "code"] B newId initId bmB) (dd : Addr), cls = .ref D.C → d = some dd → ∀ (pins : List (Addr × Obj)) (s' : Shared) (σ : L2.St) (H' : Hp) (En : Ends), Inv ((cxOf CX0 P w K mg base N_law_try "_law_try" (defScope s_law_try) T.d__law_try.f cdv A outer s H E).nox.suite a ((a, oe) :: pn)) pins σ H' s' →
          (∃ (code : Str) (ws : List V), H' dd = some (.xd (exF ["value"] code ws)) ∧ (["InvalidName", "InvalidNumber", "InvalidTimes", "InvalidStep"] : List Str).contains code = true ∧ ws.length = (["value"] : List Str).length ∧ σ[1]? = some (some (.ref a)) ∧ ∀ H2 p q, Same H' H2 → H' p = none → H' q = none → H2 p = some (.tup [.str code, .ref q]) → H2 q = some (.tup ws) → En.rt (.ref p) H2) →
          wpAny (model P w) ((cxOf CX0 P w K mg base N_law_try "_law_try" (defScope s_law_try) T.d__law_try.f cdv A outer s H E).nox.suite a ((a, oe) :: pn)).A (execs [.Return (some (.Tuple [.Attribute (.Name "_law_e" p1) "code" p2, .Call (.Name "_law_fields" p3) [.Name "_law_e" p4] [] p5] k1 p6)) p7] ((cxOf CX0 P w K mg base N_law_try "_law_try" (defScope s_law_try) T.d__law_try.f cdv A outer s H E).nox.suite a ((a, oe) :: pn)).env)
            (SP ((cxOf CX0 P w K mg base N_law_try "_law_try" (defScope s_law_try) T.d__law_try.f cdv A outer s H E).nox.suite a ((a, oe) :: pn)) pins En) ((cxOf CX0 P w K mg base N_law_try "_law_try" (defScope s_law_try) T.d__law_try.f cdv A outer s H E).nox.suite a ((a, oe) :: pn)).xe s' := by
        intro x qual st ps B newId initId bmB D dd ecls ed pins s' σ H' En I h
        subst ecls ed
        obtain ⟨code, ws, eD, hcode, hw, hσ, qq⟩ := h
        have hc : oe.cls = .ref D.C := hz.1
        have hd : oe.dict = some dd := hz.2.1
        refine (pss_one (ps_ret (pe_tup (pa_cons (pe_xq (C := D.C) (dd := dd) (a := a) (oe := oe) D.xf.x (D.no "code" (by decide +kernel)) hc hd hf List.mem_cons_self (pv 1)) (pa_cons (pe_callE (ok_fieldsA T D hc hd hf) (room_suite (hr.mono (by omega))) (hot_suite hz hf) List.mem_cons_self (by rfl) T.d__law_fields.g T.d__law_fields.F.kp T.d__law_fields.b pass0 (pa_cons (pv 1) pa_nil)) pa_nil))))).run pins s' σ H' En I ?_
        refine ⟨.ref a, hσ, rfl, _, _, eD, exF_code _ _ _, .ref a, hσ, code, ws, rfl, eD, hcode, hw, fun H1 q1 s1 n1 e1 => ?_⟩
        refine ⟨by show 2 ≤ sizeLine; decide, fun p np => ?_⟩
        refine qq _ p q1 (s1.trans (same_new np)) (none_of s1 np) n1 upd_same (by rw [upd_ne (ne_of_none e1 np)]; exact e1)
      have goB : ∀ {x qual : Str} {st : Stmt} {ps : List Str} {B newId initId : String} {bmB : List Value} (D : DX K mg x qual st ps ["subject", "most", "code"] B newId initId bmB) (dd : Addr), cls = .ref D.C → d = some dd → ∀ (pins : List (Addr × Obj)) (s' : Shared) (σ : L2.St) (H' : Hp) (En : Ends), Inv ((cxOf CX0 P w K mg base N_law_try "_law_try" (defScope s_law_try) T.d__law_try.f cdv A outer s H E).nox.suite a ((a, oe) :: pn)) pins σ H' s' →
          (∃ (code : Str) (ws : List V), H' dd = some (.xd (exF ["subject", "most"] code ws)) ∧ (["TooMany"] : List Str).contains code = true ∧ ws.length = (["subject", "most"] : List Str).length ∧ σ[1]? = some (some (.ref a)) ∧ ∀ H2 p q, Same H' H2 → H' p = none → H' q = none → H2 p = some (.tup [.str code, .ref q]) → H2 q = some (.tup ws) → En.rt (.ref p) H2) →
          wpAny (model P w) ((cxOf CX0 P w K mg base N_law_try "_law_try" (defScope s_law_try) T.d__law_try.f cdv A outer s H E).nox.suite a ((a, oe) :: pn)).A (execs [.Return (some (.Tuple [.Attribute (.Name "_law_e" p1) "code" p2, .Call (.Name "_law_fields" p3) [.Name "_law_e" p4] [] p5] k1 p6)) p7] ((cxOf CX0 P w K mg base N_law_try "_law_try" (defScope s_law_try) T.d__law_try.f cdv A outer s H E).nox.suite a ((a, oe) :: pn)).env)
            (SP ((cxOf CX0 P w K mg base N_law_try "_law_try" (defScope s_law_try) T.d__law_try.f cdv A outer s H E).nox.suite a ((a, oe) :: pn)) pins En) ((cxOf CX0 P w K mg base N_law_try "_law_try" (defScope s_law_try) T.d__law_try.f cdv A outer s H E).nox.suite a ((a, oe) :: pn)).xe s' := by
        intro x qual st ps B newId initId bmB D dd ecls ed pins s' σ H' En I h
        subst ecls ed
        obtain ⟨code, ws, eD, hcode, hw, hσ, qq⟩ := h
        have hc : oe.cls = .ref D.C := hz.1
        have hd : oe.dict = some dd := hz.2.1
        refine (pss_one (ps_ret (pe_tup (pa_cons (pe_xq (C := D.C) (dd := dd) (a := a) (oe := oe) D.xf.x (D.no "code" (by decide +kernel)) hc hd hf List.mem_cons_self (pv 1)) (pa_cons (pe_callE (ok_fieldsB T D hc hd hf) (room_suite (hr.mono (by omega))) (hot_suite hz hf) List.mem_cons_self (by rfl) T.d__law_fields.g T.d__law_fields.F.kp T.d__law_fields.b pass0 (pa_cons (pv 1) pa_nil)) pa_nil))))).run pins s' σ H' En I ?_
        refine ⟨.ref a, hσ, rfl, _, _, eD, exF_code _ _ _, .ref a, hσ, code, ws, rfl, eD, hcode, hw, fun H1 q1 s1 n1 e1 => ?_⟩
        refine ⟨by show 2 ≤ sizeLine; decide, fun p np => ?_⟩
        refine qq _ p q1 (s1.trans (same_new np)) (none_of s1 np) n1 upd_same (by rw [upd_ne (ne_of_none e1 np)]; exact e1)
      have goC : ∀ {x qual : Str} {st : Stmt} {ps : List Str} {B newId initId : String} {bmB : List Value} (D : DX K mg x qual st ps ["entry", "code"] B newId initId bmB) (dd : Addr), cls = .ref D.C → d = some dd → ∀ (pins : List (Addr × Obj)) (s' : Shared) (σ : L2.St) (H' : Hp) (En : Ends), Inv ((cxOf CX0 P w K mg base N_law_try "_law_try" (defScope s_law_try) T.d__law_try.f cdv A outer s H E).nox.suite a ((a, oe) :: pn)) pins σ H' s' →
          (∃ (code : Str) (ws : List V), H' dd = some (.xd (exF ["entry"] code ws)) ∧ (["UnknownEntry"] : List Str).contains code = true ∧ ws.length = (["entry"] : List Str).length ∧ σ[1]? = some (some (.ref a)) ∧ ∀ H2 p q, Same H' H2 → H' p = none → H' q = none → H2 p = some (.tup [.str code, .ref q]) → H2 q = some (.tup ws) → En.rt (.ref p) H2) →
          wpAny (model P w) ((cxOf CX0 P w K mg base N_law_try "_law_try" (defScope s_law_try) T.d__law_try.f cdv A outer s H E).nox.suite a ((a, oe) :: pn)).A (execs [.Return (some (.Tuple [.Attribute (.Name "_law_e" p1) "code" p2, .Call (.Name "_law_fields" p3) [.Name "_law_e" p4] [] p5] k1 p6)) p7] ((cxOf CX0 P w K mg base N_law_try "_law_try" (defScope s_law_try) T.d__law_try.f cdv A outer s H E).nox.suite a ((a, oe) :: pn)).env)
            (SP ((cxOf CX0 P w K mg base N_law_try "_law_try" (defScope s_law_try) T.d__law_try.f cdv A outer s H E).nox.suite a ((a, oe) :: pn)) pins En) ((cxOf CX0 P w K mg base N_law_try "_law_try" (defScope s_law_try) T.d__law_try.f cdv A outer s H E).nox.suite a ((a, oe) :: pn)).xe s' := by
        intro x qual st ps B newId initId bmB D dd ecls ed pins s' σ H' En I h
        subst ecls ed
        obtain ⟨code, ws, eD, hcode, hw, hσ, qq⟩ := h
        have hc : oe.cls = .ref D.C := hz.1
        have hd : oe.dict = some dd := hz.2.1
        refine (pss_one (ps_ret (pe_tup (pa_cons (pe_xq (C := D.C) (dd := dd) (a := a) (oe := oe) D.xf.x (D.no "code" (by decide +kernel)) hc hd hf List.mem_cons_self (pv 1)) (pa_cons (pe_callE (ok_fieldsC T D hc hd hf) (room_suite (hr.mono (by omega))) (hot_suite hz hf) List.mem_cons_self (by rfl) T.d__law_fields.g T.d__law_fields.F.kp T.d__law_fields.b pass0 (pa_cons (pv 1) pa_nil)) pa_nil))))).run pins s' σ H' En I ?_
        refine ⟨.ref a, hσ, rfl, _, _, eD, exF_code _ _ _, .ref a, hσ, code, ws, rfl, eD, hcode, hw, fun H1 q1 s1 n1 e1 => ?_⟩
        refine ⟨by show 2 ≤ sizeLine; decide, fun p np => ?_⟩
        refine qq _ p q1 (s1.trans (same_new np)) (none_of s1 np) n1 upd_same (by rw [upd_ne (ne_of_none e1 np)]; exact e1)
      refine ⟨fun pins s' σ H' En I h => ?_⟩
      obtain ⟨code, ws, ⟨dd, nm, ed, eD, hk, hw⟩, hσ, qq⟩ := h
      generalize ecls : cls = c0 at hk
      cases hk with
      | e0 => exact goA T.x_InvalidName dd ecls ed pins s' σ H' En I ⟨_, ws, eD, by decide +kernel, hw, hσ, qq⟩
      | e1 => exact goA T.x_InvalidNumber dd ecls ed pins s' σ H' En I ⟨_, ws, eD, by decide +kernel, hw, hσ, qq⟩
      | e2 => exact goA T.x_InvalidTimes dd ecls ed pins s' σ H' En I ⟨_, ws, eD, by decide +kernel, hw, hσ, qq⟩
      | e3 => exact goA T.x_InvalidStep dd ecls ed pins s' σ H' En I ⟨_, ws, eD, by decide +kernel, hw, hσ, qq⟩
      | e4 => exact goB T.x_TooMany dd ecls ed pins s' σ H' En I ⟨_, ws, eD, by decide +kernel, hw, hσ, qq⟩
      | e5 => exact goC T.x_UnknownEntry dd ecls ed pins s' σ H' En I ⟨_, ws, eD, by decide +kernel, hw, hσ, qq⟩
    refine ⟨_, pss_one (L2N.ps_try_tup3 (i := 1) rfl rfl sc_law_try.nd rfl rfl ⟨rfl, by decide, .inl T.c_DayError⟩ ⟨rfl, by decide, .inl T.c_Missing⟩ ⟨rfl, by decide, .inl T.c_NothingLeft⟩ takes0N (tb := fun W D σ H => tTup (tCons (tC (.str "")) (tCons (tAsk P w K mg base k 0 W) tNil)) σ H D.rt)
      (fun W pn xe tk _ => pss_one (ps_ret (pe_tup (pa_cons pe_str (pa_cons (pe_ask (k := k) (W := W) (i := 0) (hr.mono (by omega)) tk rfl (Or.inl rfl)) pa_nil)))))
      (fun a oe cls d pn hz hf hb => suite rfl a oe cls d pn hz hf hb)), ?_⟩
    refine ⟨f, spf, rfl, hl, ha, ?_⟩
    refine q _ _ (fun v H1 h => ⟨by show 2 ≤ sizeLine; decide, fun p np => h p np⟩) (fun cls d H1 h => ?_)
    obtain ⟨code, ws, ⟨dd, nm, ed, eD, hk, hw⟩, qq⟩ := h
    have hb : ∃ b, PySem.W.exmAny K cls [.ref T.aDayError, .ref T.aMissing, .ref T.aNothingLeft] = some b ∧ b = true := by
      cases hk with
      | e0 => exact T.ex_InvalidName
      | e1 => exact T.ex_InvalidNumber
      | e2 => exact T.ex_InvalidTimes
      | e3 => exact T.ex_InvalidStep
      | e4 => exact T.ex_TooMany
      | e5 => exact T.ex_UnknownEntry
    obtain ⟨b, hb, hb1⟩ := hb
    refine ⟨b, hb, fun _ a ha => ?_, fun e => by rw [hb1] at e; cases e⟩
    exact ⟨code, ws, ⟨dd, nm, ed, eD, hk, hw⟩, rfl, fun H2 p q s1 n1 n2 e1 e2 => qq H2 p q s1 n1 n2 e1 e2⟩
/-! ## all that is asked, one behind another -/
inductive Res where
  | err (code : Str) (ws : List V)
  | val (v : V)
/-- what asking f comes to -/
def Does (P : Program) (w : World) (K : PySem.W.Frag) (mg : Str → Option Value) (base : Heap) (T : Txt K mg) (k : Nat) (H : Hp) : Res → Addr → Prop
  | .err code ws, f => IsLam H f ∧ ∃ spf, Act P w K mg base k H f spf ∧ ∀ H1 (Q' : VK) (E' : XK), Same H H1 → (∀ cls d H2, Same H1 H2 → ErrOf T cls d H2 code ws → E' cls d H2) → spf H1 Q' E'
  | .val v, f => IsLam H f ∧ ∃ spf, Act P w K mg base k H f spf ∧ ∀ H1 (Q' : VK) (E' : XK), Same H H1 → (∀ H2, Same H1 H2 → Q' v H2) → spf H1 Q' E'
theorem Does.same {k : Nat} {H H1 : Hp} {r : Res} {f : Addr} (d : Does P w K mg base T k H r f) (s : Same H H1) : Does P w K mg base T k H1 r f := by
  cases r with
  | err code ws =>
    obtain ⟨l, spf, a, h⟩ := d
    exact ⟨l.keep (.same s), spf, a.mono (.same s), fun H2 Q' E' s2 h2 => h H2 Q' E' (s.trans s2) h2⟩
  | val v =>
    obtain ⟨l, spf, a, h⟩ := d
    exact ⟨l.keep (.same s), spf, a.mono (.same s), fun H2 Q' E' s2 h2 => h H2 Q' E' (s.trans s2) h2⟩
def Told (H : Hp) : Res → V → Prop
  | .err code ws, v => ∃ t q, v = .ref t ∧ H t = some (.tup [.str code, .ref q]) ∧ H q = some (.tup ws)
  | .val x, v => ∃ t, v = .ref t ∧ H t = some (.tup [.str "", x])
theorem Told.keep {H H1 : Hp} {r : Res} {v : V} (h : Told H r v) (k : ∀ a xs, H a = some (.tup xs) → H1 a = some (.tup xs)) : Told H1 r v := by
  cases r with
  | err code ws =>
    obtain ⟨t, q, e, e1, e2⟩ := h
    exact ⟨t, q, e, k _ _ e1, k _ _ e2⟩
  | val x =>
    obtain ⟨t, e, e1⟩ := h
    exact ⟨t, e, k _ _ e1⟩
def spTries (P : Program) (w : World) (K : PySem.W.Frag) (mg : Str → Option Value) (base : Heap) (T : Txt K mg) (k : Nat) : Sp := fun vs H Q _ => ∃ (l : Addr) (fs : List Addr) (rs : List Res), vs = [.ref l] ∧ H l = some (.lst (fs.map .ref)) ∧ fs.length ≤ 1000 ∧ Paired (Does P w K mg base T k H) rs fs ∧
  ∀ H1 p us, Same H H1 → H p = none → H1 p = some (.lst us) → Paired (Told H1) rs us → Q (.ref p) H1
theorem paired_at {α β : Type} {F : α → β → Prop} : ∀ {l₁ : List α} {l₂ : List β} {i : Nat} {y : β}, Paired F l₁ l₂ → l₂[i]? = some y → ∃ x, l₁[i]? = some x ∧ F x y
  | _, _, _, _, .nil, e => by simp at e
  | _, _, 0, _, .cons r _, e => by simp at e; subst e; exact ⟨_, rfl, r⟩
  | _, _, i + 1, y, .cons _ t, e => by
    obtain ⟨x, h1, h2⟩ := paired_at (i := i) (y := y) t (by simpa using e)
    exact ⟨x, by simpa using h1, h2⟩
theorem paired_snoc {α β : Type} {F : α → β → Prop} : ∀ {l₁ : List α} {l₂ : List β} {x : α} {y : β}, Paired F l₁ l₂ → F x y → Paired F (l₁ ++ [x]) (l₂ ++ [y])
  | _, _, _, _, .nil, h => .cons h .nil
  | _, _, _, _, .cons r t, h => .cons r (paired_snoc t h)
theorem paired_imp {α β : Type} {F G : α → β → Prop} (k : ∀ x y, F x y → G x y) : ∀ {l₁ : List α} {l₂ : List β}, Paired F l₁ l₂ → Paired G l₁ l₂
  | _, _, .nil => .nil
  | _, _, .cons r t => .cons (k _ _ r) (paired_imp k t)
theorem paired_len {α β : Type} {F : α → β → Prop} : ∀ {l₁ : List α} {l₂ : List β}, Paired F l₁ l₂ → l₁.length = l₂.length
  | _, _, .nil => rfl
  | _, _, .cons _ t => congrArg Nat.succ (paired_len t)
theorem ok_law_tries (T : Txt K mg) (k : Nat) : FnOk P w K mg base CX0 (k + 4) T.d__law_tries.f T.d__law_tries.fd ["_law_asks"] (spTries P w K mg base T k) := by
  refine T.d__law_tries.F.ok sc_law_tries (fun vs H Q E h => ?_) (fun cdv A outer s H vs Q E hr h => ?_)
  · obtain ⟨l, fs, rs, rfl, _⟩ := h
    rfl
  · obtain ⟨l, fs, rs, rfl, el, hn, hf, q⟩ := h
    refine ⟨_, (pss_one (ps_ret (pe_lc (own := [("_law_ask", 1)]) (g := gName 1) (tt := tYes) (by rfl) sc_law_tries.nd (pi_list (pv 0)) (blkOk_by (own := [("_law_ask", 1)]) (N := N_law_tries) (sc := defScope s_law_tries) (by decide +kernel)) (fun _ _ _ _ _ => (pg_name (i := 1) sc_law_tries.nd rfl (Or.inl rfl))) (fun _ _ _ _ _ => pts_nil) (fun _ _ _ _ _ => (pe_call (ok_law_try (P := P) (w := w) (base := base) T k) (hr.mono (by omega)) (by rfl) T.d__law_try.g T.d__law_try.F.kp T.d__law_try.b .nil pass0 (pa_cons (pv 1) pa_nil)))))), ?_⟩
    refine ⟨.ref l, rfl, l, rfl, ⟨_, SqL.of el⟩, fun D nD => lc_list (K := K) (a := l) (xs := fs.map .ref) (fun i H2 => Same H H2 ∧ ∃ us, H2 D = some (.lst us) ∧ Paired (Told H2) (rs.take i) us)
      ⟨same_new nD, [], upd_same, .nil⟩ (fun _ H2 _ h => SqL.of (h.1 _ _ el)) ?_ ?_⟩
    · rintro i z H2 hi ⟨sm, us, eD, hv⟩
      rw [List.getElem?_map] at hi
      obtain ⟨f, hfi, rfl⟩ : ∃ f, fs[i]? = some f ∧ z = .ref f := by
        cases e : fs[i]? with
        | none => rw [e] at hi; cases hi
        | some f => rw [e] at hi; cases hi; exact ⟨f, rfl, rfl⟩
      obtain ⟨r, hri, hd⟩ := paired_at hf hfi
      replace hd := hd.same sm
      have lu : us.length < sizeLine := by
        have h1 := paired_len hv
        have h2 := (List.getElem?_eq_some_iff.mp hfi).1
        rw [List.length_take] at h1
        exact small1000 (by omega)
      have fin : ∀ (H4 : Hp) (v : V), Same H2 H4 → Told H4 r v → H4 D = some (.lst us) ∧ us.length < sizeLine ∧ Same H (upd H4 D (.lst (us ++ [v]))) ∧ ∃ us', (upd H4 D (.lst (us ++ [v]))) D = some (.lst us') ∧ Paired (Told (upd H4 D (.lst (us ++ [v])))) (rs.take (i + 1)) us' := fun H4 v s4 tv => by
        have e4 := s4 _ _ eD
        have kp : ∀ a xs, H4 a = some (.tup xs) → upd H4 D (.lst (us ++ [v])) a = some (.tup xs) := fun a xs e => by
          rw [upd_ne (fun c => by rw [c, e4] at e; cases e)]
          exact e
        refine ⟨e4, lu, fun b o e => ?_, us ++ [v], upd_same, ?_⟩
        · rw [upd_ne (ne_of_none e nD)]
          exact s4 _ _ (sm _ _ e)
        · rw [List.take_add_one, hri]
          exact paired_snoc (paired_imp (fun x y h => (Told.keep h fun a xs e => s4 _ _ e).keep kp) hv) (tv.keep kp)
      cases r with
      | err code ws =>
        obtain ⟨rl, spf, ra, rh⟩ := hd
        refine ⟨rfl, .ref f, rfl, f, spf, rfl, rl, ra, fun Q' E' _ hE => ?_⟩
        refine rh H2 Q' E' (.refl _) fun cls d H3 s3 er => hE cls d H3 ⟨code, ws, er, fun H4 p qa s4 np nq ep eq => ?_⟩
        obtain ⟨e4, l4, s5, us', e5, h5⟩ := fin H4 (.ref p) (s3.trans s4) ⟨p, qa, rfl, ep, eq⟩
        exact ⟨us, e4, l4, s5, us', e5, h5⟩
      | val x =>
        obtain ⟨rl, spf, ra, rh⟩ := hd
        refine ⟨rfl, .ref f, rfl, f, spf, rfl, rl, ra, fun Q' E' hQ _ => ?_⟩
        refine rh H2 Q' E' (.refl _) fun H3 s3 => hQ x H3 fun p np => ?_
        obtain ⟨e4, l4, s5, us', e5, h5⟩ := fin (upd H3 p (.tup [.str "", x])) (.ref p) (s3.trans (same_new np)) ⟨p, rfl, upd_same⟩
        exact ⟨us, e4, l4, s5, us', e5, h5⟩
    · rintro H2 ⟨sm, us, eD, hv⟩
      have ln : fs.length = rs.length := (paired_len hf).symm
      rw [List.length_map, ln, List.take_length] at hv
      exact q H2 D us sm nD eD hv
end
end Rd
set_option maxHeartbeats 4000000
namespace Rd
open PySem PySem.Spec PyProof.Rows L2 L2H HotX
/-! ## words that differ in one letter -/
def wordK (z : Str) (d f g : Int) (k : Nat) : Str := cutS z none (some d) ++ ⟨#[97 + ((f + g * (k : Int)) % 26).toNat]⟩ ++ cutS z (some d) none
theorem wordK_list (z : Str) (d f g : Int) (k : Nat) : (wordK z d f g k).cps.toList = (cutS z none (some d)).cps.toList ++ [97 + ((f + g * (k : Int)) % 26).toNat] ++ (cutS z (some d) none).cps.toList := by
  show ((cutS z none (some d)).cps ++ #[97 + ((f + g * (k : Int)) % 26).toNat] ++ (cutS z (some d) none).cps).toList = _
  rw [Array.toList_append, Array.toList_append]
theorem cut_pre (z : Str) {d : Int} (d0 : 0 ≤ d) (d1 : d ≤ z.length) : (cutS z none (some d)).cps.toList = z.cps.toList.take d.toNat := by
  obtain ⟨n, rfl⟩ := Int.eq_ofNat_of_zero_le d0
  unfold cutS
  rw [show HT.sIx z.length 0 none = 0 from HT.sIx_none _ _, show HT.sIx z.length z.length (some ((n : Nat) : Int)) = min n z.length from HT.sIx_nat _ _ n]
  rw [List.drop_zero, show (↑n : Int).toNat = n from rfl, show min n z.length - 0 = n by omega]
theorem cut_post (z : Str) {d : Int} (d0 : 0 ≤ d) (d1 : d ≤ z.length) : (cutS z (some d) none).cps.toList = z.cps.toList.drop d.toNat := by
  obtain ⟨n, rfl⟩ := Int.eq_ofNat_of_zero_le d0
  unfold cutS
  rw [show HT.sIx z.length z.length none = z.length from HT.sIx_none _ _, show HT.sIx z.length 0 (some ((n : Nat) : Int)) = min n z.length from HT.sIx_nat _ _ n]
  rw [show (↑n : Int).toNat = n from rfl, show min n z.length = n by omega]
  exact List.take_of_length_le (by rw [List.length_drop, Array.length_toList]; exact Nat.le_refl _)
theorem wordK_nm {z : Str} {d f g : Int} {k : Nat} (hz : z.cps.toList.all low = true) (l : z.length ≤ 3) (d0 : 0 ≤ d) (d1 : d ≤ z.length) : isNm (.str (wordK z d f g k)) = true := by
  have el := wordK_list z d f g k
  rw [cut_pre z d0 d1, cut_post z d0 d1] at el
  have hl : (wordK z d f g k).length = z.length + 1 := by
    show (wordK z d f g k).cps.size = _
    rw [← Array.length_toList, el, List.length_append, List.length_append, List.length_take, List.length_drop, Array.length_toList]
    show min d.toNat z.length + 1 + (z.length - d.toNat) = z.length + 1
    omega
  rw [isNm_str, hl, el, List.all_append, List.all_append]
  have ha := List.all_eq_true.mp hz
  have p1 : (z.cps.toList.take d.toNat).all low = true := List.all_eq_true.mpr fun x hx => ha x (List.mem_of_mem_take hx)
  have p2 : (z.cps.toList.drop d.toNat).all low = true := List.all_eq_true.mpr fun x hx => ha x (List.mem_of_mem_drop hx)
  have p3 : ([97 + ((f + g * (k : Int)) % 26).toNat] : List Nat).all low = true := by
    rw [List.all_cons, List.all_nil, Bool.and_true]
    unfold low
    have h1 := Int.emod_nonneg (f + g * (k : Int)) (show (26 : Int) ≠ 0 by decide)
    have h2 := Int.emod_lt_of_pos (f + g * (k : Int)) (show (0 : Int) < 26 by decide)
    rw [decide_eq_true (by omega), decide_eq_true (by omega)]
    rfl
  rw [p1, p2, p3, decide_eq_true (by omega), decide_eq_true (by omega)]
  rfl
def gaps : List V := [.int 1, .int 3, .int 5, .int 7, .int 9, .int 11, .int 15]
theorem wordK_inj {z : Str} {d f g : Int} {i j : Nat} (hg : V.int g ∈ gaps) (hi : i < 26) (hj : j < 26) (h : wordK z d f g i = wordK z d f g j) : i = j := by
  have e : (wordK z d f g i).cps.toList = (wordK z d f g j).cps.toList := by rw [h]
  rw [wordK_list, wordK_list] at e
  have e1 := List.append_cancel_right e
  have e2 := List.append_cancel_left e1
  have e3 : 97 + ((f + g * (i : Int)) % 26).toNat = 97 + ((f + g * (j : Int)) % 26).toNat := by injection e2
  have a0 := Int.emod_nonneg (f + g * (i : Int)) (show (26 : Int) ≠ 0 by decide)
  have b0 := Int.emod_nonneg (f + g * (j : Int)) (show (26 : Int) ≠ 0 by decide)
  have e4 : (f + g * (i : Int)) % 26 = (f + g * (j : Int)) % 26 := by omega
  simp only [gaps, List.mem_cons, List.not_mem_nil, or_false, V.int.injEq] at hg
  rcases hg with rfl | rfl | rfl | rfl | rfl | rfl | rfl <;> omega
theorem Go.put {H1 H4 : Hp} {b D : Addr} {o : HO} (hB : Bag H1 b) (g : Go b H1 H4) (nD : H1 D = none) : Go b H1 (upd H4 D o) := by
  have nb := hB.ne nD
  obtain ⟨c, hc, oc, eo⟩ := hB.cell
  have nc : D ≠ c := fun e => by rw [← e, nD] at eo; cases eo
  refine ⟨g.1.put (g.3 c hc) nb nc, fun a u na e => ?_, fun c' h => (g.3 c' h).put nb⟩
  rw [upd_ne (ne_of_none e nD)]
  exact g.2 a u na e
theorem letter_at {m : Int} (h0 : 0 ≤ m) (h1 : m < 26) : atI ("abcdefghijklmnopqrstuvwxyz" : Str).cps.toList m = some (97 + m.toNat) := by
  have e : ("abcdefghijklmnopqrstuvwxyz" : Str).cps.toList = List.range' 97 26 := by decide +kernel
  rw [e]
  obtain ⟨n, rfl⟩ := Int.eq_ofNat_of_zero_le h0
  refine atI_nat ?_
  rw [List.getElem?_range' (by omega)]
  show some (97 + 1 * n) = some (97 + n)
  rw [Nat.one_mul]
section
variable {P : Program} {w : World} {K : PySem.W.Frag} {mg : Str → Option Value} {base : Heap}
def spWords : Sp := fun vs H Q _ => ∃ (b : Addr) (n : Nat), vs = [.ref b, .int n] ∧ Bag H b ∧ n ≤ 26 ∧
  ∀ (p : Addr) (f : Nat → Str) H', Go b H H' → H p = none → p ≠ b → H' p = some (.lst ((List.range n).map fun i => V.str (f i))) → (∀ i, i < n → isNm (.str (f i)) = true) → (∀ i j, i < n → j < n → f i = f j → i = j) → Q (.ref p) H'
theorem ok_law_words (T : Txt K mg) : FnOk P w K mg base CX0 3 T.d__law_words.f T.d__law_words.fd ["_law_bag_here", "_law_many"] spWords := by
  refine T.d__law_words.F.ok sc_law_words (fun vs H Q E h => ?_) (fun cdv A outer s H vs Q E hr h => ?_)
  · obtain ⟨b, n, rfl, _⟩ := h
    rfl
  · obtain ⟨b, n, rfl, hB, hn, q⟩ := h
    refine ⟨_, (pss_cons (ps_asg (pe_tup (pa_cons pe_str (pa_cons pe_str pa_nil))) (pg_tup rfl (pgs_cons (pg_name (i := 2) sc_law_words.nd rfl (Or.inr rfl)) (pgs_cons (pg_name (i := 3) sc_law_words.nd rfl (Or.inr rfl)) pgs_nil))))
      (pss_cons (ps_for PassesOwn.never rfl (pi_range1 (by rfl) T.z_range (pa_cons (pe_call (ok_law_draw T) (hr.mono (by decide)) (by rfl) T.d__law_draw.g T.d__law_draw.F.kp T.d__law_draw.b .nil pass0 (pa_cons (pv 0) (pa_cons pe_int pa_nil))) pa_nil)) (pg_name (i := 4) sc_law_words.nd rfl (Or.inl rfl)) (pss_one (ps_set (i := 3) sc_law_words.nd rfl (Or.inr rfl) (pe_op op_add_str (pv 3) (pe_call (ok_law_ofS T) (hr.mono (by decide)) (by rfl) T.d__law_of.g T.d__law_of.F.kp T.d__law_of.b .nil pass0 (pa_cons (pv 0) (pa_cons (pv 2) pa_nil)))))))
      (pss_cons (ps_asg (pe_tup (pa_cons (pe_call (ok_law_draw T) (hr.mono (by decide)) (by rfl) T.d__law_draw.g T.d__law_draw.F.kp T.d__law_draw.b .nil pass0 (pa_cons (pv 0) (pa_cons (pe_op op_add (pe_callB call_len_str (by rfl) T.z_len (by decide +kernel) (pa_cons (pv 3) pa_nil)) pe_int) pa_nil))) (pa_cons (pe_call (ok_law_draw T) (hr.mono (by decide)) (by rfl) T.d__law_draw.g T.d__law_draw.F.kp T.d__law_draw.b .nil pass0 (pa_cons (pv 0) (pa_cons pe_int pa_nil))) (pa_cons (pe_call (ok_law_ofL T) (hr.mono (by decide)) (by rfl) T.d__law_of.g T.d__law_of.F.kp T.d__law_of.b .nil pass0 (pa_cons (pv 0) (pa_cons (pe_lst (pa_cons pe_int (pa_cons pe_int (pa_cons pe_int (pa_cons pe_int (pa_cons pe_int (pa_cons pe_int (pa_cons pe_int pa_nil)))))))) pa_nil))) pa_nil)))) (pg_tup rfl (pgs_cons (pg_name (i := 5) sc_law_words.nd rfl (Or.inr rfl)) (pgs_cons (pg_name (i := 6) sc_law_words.nd rfl (Or.inr rfl)) (pgs_cons (pg_name (i := 7) sc_law_words.nd rfl (Or.inr rfl)) pgs_nil)))))
      (pss_one (ps_ret (pe_lc (own := [("_law_k", 4)]) (g := gName 4) (tt := tYes) (by rfl) sc_law_words.nd (pi_range1 (by rfl) T.z_range (pa_cons (pv 1) pa_nil)) (blkOk_by (own := [("_law_k", 4)]) (N := N_law_words) (sc := defScope s_law_words) (by decide +kernel)) (fun _ _ _ _ _ => (pg_name (i := 4) sc_law_words.nd rfl (Or.inl rfl))) (fun _ _ _ _ _ => pts_nil) (fun _ _ _ _ _ => (pe_op op_add_str (pe_op op_add_str (pe_slice sl_str (pv 3) po_none (po_some (pv 5))) (pe_ix ix_str (pv 2) (pe_op op_mod (pe_callTy call_int1 (by rfl) T.z_int (by decide +kernel) (pa_cons (pe_op op_add (pv 6) (pe_op op_mul (pv 7) (pv 4))) pa_nil)) pe_int) (fun _ _ => rfl))) (pe_slice sl_str (pv 3) (po_some (pv 5)) po_none))))))))), ?_⟩
    refine ⟨by show 2 ≤ sizeLine; decide, fun p np => ?_⟩
    refine ⟨p, _, rfl, SqT.of upd_same, rfl, .str "abcdefghijklmnopqrstuvwxyz", _, rfl, .str "", _, rfl, rfl, ?_⟩
    have g1 : Go b H (upd H p (.tup [.str "abcdefghijklmnopqrstuvwxyz", .str ""])) := (Go.refl hB).new np
    generalize upd H p (.tup [.str "abcdefghijklmnopqrstuvwxyz", .str ""]) = H1 at g1
    refine ⟨.ref b, rfl, b, 4, rfl, g1.1, by decide, by decide, fun d H2 g2 d0 d1 => ⟨d, rfl, by omega, by omega, for_range (n := d.toNat) (fun i σ H3 => Go b H H3 ∧ ∃ z v4, σ = [some (.ref b), some (.int n), some (.str "abcdefghijklmnopqrstuvwxyz"), some (.str z), v4, none, none, none] ∧ z.length = i ∧ z.cps.toList.all low = true) ⟨g1.trans g2, "", none, rfl, rfl, rfl⟩ ?_ ?_⟩⟩
    · rintro i σ H3 hi ⟨g3, z, v4, rfl, hl, hz⟩
      refine ⟨.str z, rfl, .ref b, rfl, .str "abcdefghijklmnopqrstuvwxyz", rfl, b, _, rfl, g3.1, by decide, by decide, fun c H4 g4 hc => ?_⟩
      refine ⟨z, _, rfl, rfl, ?_, g3.trans g4, z ++ ⟨#[c]⟩, _, rfl, ?_, ?_⟩
      · show z.length + 1 ≤ sizeLine
        exact Nat.le_of_lt (small1000 (by omega))
      · show (z.cps ++ #[c]).size = i + 1
        rw [Array.size_append]
        show z.length + 1 = i + 1
        omega
      · show (z.cps ++ #[c]).toList.all low = true
        rw [Array.toList_append, List.all_append, hz, List.all_cons, ← letters_low, decide_eq_true hc]
        rfl
    · rintro σ H3 ⟨g3, z, v4, rfl, hl, hz⟩
      have hl3 : z.length ≤ 3 := by omega
      have zs : z.length ≤ sizeLine := Nat.le_of_lt (small1000 (by omega))
      refine ⟨.ref b, rfl, .str z, rfl, z, rfl, zs, _, _, rfl, rfl, b, _, rfl, g3.1, by omega, by omega, fun at_ H4 g4 a0 a1 => ?_⟩
      refine ⟨.ref b, rfl, b, 26, rfl, g4.1, by decide, by decide, fun f H5 g5 f0 f1 => ?_⟩
      refine ⟨.ref b, rfl, by show 7 ≤ sizeLine; decide, fun pl nl => ⟨b, pl, gaps, rfl, g5.1.new nl, (g5.1.ne nl), upd_same, by decide, by decide, fun gv H6 g6 hg => ?_⟩⟩
      obtain ⟨g, rfl, h1, h2⟩ : ∃ g, gv = V.int g ∧ 0 ≤ g ∧ g ≤ 15 := by
        simp only [gaps, List.mem_cons, List.not_mem_nil, or_false] at hg
        rcases hg with h | h | h | h | h | h | h <;> exact ⟨_, h, by decide, by decide⟩
      have g7 : Go b H H6 := g3.trans (g4.trans (g5.trans (((Go.refl g5.1).new nl).trans g6)))
      refine ⟨by show 3 ≤ sizeLine; decide, fun pt nt => ?_⟩
      refine ⟨pt, _, rfl, SqT.of upd_same, rfl, .int at_, _, rfl, .int f, _, rfl, .int g, _, rfl, rfl, ?_⟩
      have g8 := g7.new (o := .tup [.int at_, .int f, .int g]) nt
      generalize upd H6 pt (.tup [.int at_, .int f, .int g]) = H7 at g8
      refine ⟨.int n, rfl, n, rfl, by omega, by omega, fun D nD => ?_⟩
      have nDb : D ≠ b := g8.1.ne nD
      have a1' : at_ ≤ z.length := by omega
      refine lc_range (lo := 0) (n := (n : Int).toNat) (fun i H8 => Go b H H8 ∧ H8 D = some (.lst ((List.range i).map fun k => V.str (wordK z at_ f g k)))) ⟨g8.new nD, upd_same⟩ ?_ ?_
      · rintro i H8 hi ⟨g9, eD⟩
        refine ⟨rfl, ?_⟩
        refine ⟨.str z, rfl, .int at_, rfl, at_, rfl, z, rfl, zs, ?_⟩
        refine ⟨.str "abcdefghijklmnopqrstuvwxyz", rfl, .int f, rfl, .int g, rfl, .int (0 + (i : Int)), rfl, ?_⟩
        have hi26 : i < 26 := by omega
        refine ⟨g, _, rfl, rfl, .inl ⟨by omega, by omega⟩, f, _, rfl, rfl, .inl ⟨_, rfl, _, 26, rfl, rfl, (by show (0 : Int) < 26; decide), ?_⟩⟩
        rw [Int.zero_add]
        have m0 := Int.emod_nonneg (f + g * (i : Int)) (show (26 : Int) ≠ 0 by decide)
        have m1 := Int.emod_lt_of_pos (f + g * (i : Int)) (show (0 : Int) < 26 by decide)
        refine ⟨_, _, _, rfl, rfl, by decide, letter_at m0 m1, ?_⟩
        have lc : (cutS z none (some at_)).length ≤ 3 := Nat.le_trans (cutS_length _ _ _) hl3
        have lc2 : (cutS z (some at_) none).length ≤ 3 := Nat.le_trans (cutS_length _ _ _) hl3
        refine ⟨_, _, rfl, rfl, Nat.le_of_lt (small1000 (by show _ + 1 ≤ 1000; omega)), .str z, rfl, .int at_, rfl, at_, rfl, z, rfl, zs, _, _, rfl, rfl, Nat.le_of_lt (small1000 (by show (Array.size (_ ++ #[_])) + _ ≤ 1000; rw [Array.size_append]; show (cutS z none (some at_)).length + 1 + _ ≤ 1000; omega)), ?_⟩
        refine ⟨_, eD, by rw [List.length_map, List.length_range]; exact small1000 (by omega), g9.put hB (g8.back hB nD), ?_⟩
        rw [upd_same, List.range_succ, List.map_append]
        rfl
      · rintro H8 ⟨g9, eD⟩
        exact q D (wordK z at_ f g) H8 g9 (g8.back hB nD) nDb eD (fun i hi => wordK_nm hz hl3 a0 a1') (fun i j hi hj e => wordK_inj hg (by omega) (by omega) e)
end
end Rd
set_option maxHeartbeats 4000000
namespace Rd
open PySem PySem.Spec PyProof.Rows L2 L2H HotX
/-! ## the law's own helpers by shapes -/
section
variable {b : Addr} {σ : L2.St} {H0 : Hp} {te ta tb : TE} {tr : TA} {s s1 s2 : Sh} {ss xs : List Sh} {K : PySem.W.Frag}
theorem e_ofL (h : EvN b tr σ H0 [.c (.ref b), .l xs]) (h0 : 0 < xs.length) (h1 : xs.length < 1000) : Ev1 b (tCall spOfL [] E0 tr) σ H0 (.o xs) :=
  e_call h fun vs H g i Q q => by
    obtain ⟨v, u, rfl, rfl, p, ys, rfl, n, o, r⟩ := is2 i
    have l := r.length
    exact ⟨b, p, ys, rfl, g.1, n, o, by omega, by omega, fun v H' g' m => by
      obtain ⟨s, ms, k⟩ := r.mem m
      exact q v H' g' (IsOne.of ms (k.go g'))⟩
theorem e_draw {k : Int} (h : EvN b tr σ H0 [.c (.ref b), .c (.int k)]) (h0 : 0 < k) (h1 : k < 1000000) : Ev1 b (tCall spDraw [] E0 tr) σ H0 (.is fun v => ∃ d, 0 ≤ d ∧ d < k ∧ v = .int d) :=
  e_call h fun vs H g i Q q => by
    obtain ⟨v, u, rfl, rfl, rfl⟩ := is2 i
    exact ⟨b, k, rfl, g.1, h0, h1, fun c H' g' m0 m1 => q _ H' g' ⟨c, m0, m1, rfl⟩⟩
theorem e_same {n : Nat} (h : EvN b tr σ H0 [s, s]) (d : det n s = true) : Ev1 b (tCall (spSame K n) [] E0 tr) σ H0 (.c (.bl true)) :=
  e_call h fun vs H g i Q q => by
    obtain ⟨v, u, rfl, i1, i2⟩ := is2 i
    exact ⟨v, u, rfl, eqv_det d i1 i2, fun H' s => q _ H' (Go.of_same g.1 s) rfl⟩
theorem e_callK {sp : Sp} {E : XK} {n : Nat} {gV : List V → List V → List V} (h : EvN b tr σ H0 ss) (l : ss.length = n) (k : ∀ vs H, Go b H0 H → IsAll b H ss vs → ∀ Q : VK, (∀ v H', Go b H H' → Is b H' s v → Q v H') → sp (gV [] vs) H Q E) : Ev1 b (tCallN 0 n sp gV E tNil tr) σ H0 s := fun H g Q q =>
  h H g _ fun vs H1 g1 i1 => ⟨rfl, i1.length.trans l, k vs H1 (g.trans g1) i1 Q fun v H2 g2 i2 => q v H2 (g1.trans g2) i2⟩
theorem e_strI {te : TE} {i : Int} (h : Ev1 b te σ H0 (.c (.int i))) (l : i.natAbs < 2 ^ 60) : Ev1 b (tCB (fun xs H Q => ∃ i, xs = [.int i] ∧ i.natAbs.log2 < 1920 ∧ Q (.str (toString i)) H) (tCons te tNil)) σ H0 (.c (.str (toString i))) := fun H g Q q =>
  h H g _ fun v H1 g1 i1 => ⟨i, by rw [show v = _ from i1], Nat.lt_of_lt_of_le (PySem.Flt.log2_lt_of (by decide) l) (by decide), q _ H1 g1 rfl⟩
theorem is_c {H : Hp} {v : V} : Is b H (.c v) v := rfl
end
section
variable {b : Addr} {σ : L2.St} {H : Hp} {te : TE} {s : Sh} {D : Ends} {t2 : TS} {i : Nat} {K : PySem.W.Frag}
theorem q_set (hB : Bag H b) (h : Ev1 b te σ H s) (q : ∀ v H', Go b H H' → Is b H' s v → t2 D (σ.set i (some v)) H') : tSeq (tAsg te (gName i)) t2 D σ H := h H (.refl hB) _ q
theorem q_ret (hB : Bag H b) (h : Ev1 b te σ H s) (q : ∀ v H', Go b H H' → Is b H' s v → D.rt v H') : tRet te D σ H := h H (.refl hB) _ q
theorem e_mono {H' : Hp} (g : Go b H H') (h : Ev1 b te σ H s) : Ev1 b te σ H' s := fun H1 g1 Q q => h H1 (g.trans g1) Q q
theorem q_tup2 {i j : Nat} {s1 s2 : Sh} (hB : Bag H b) (h : Ev1 b te σ H (.t [s1, s2])) (q : ∀ x y H', Go b H H' → Is b H' s1 x → Is b H' s2 y → t2 D ((σ.set i (some x)).set j (some y)) H') : tSeq (tAsg te (gTup K 2 (gCons (gName i) (gCons (gName j) gNil)))) t2 D σ H :=
  h H (.refl hB) _ fun u H6 g6 i6 => by
    obtain ⟨p, xs, rfl, np, o, r⟩ := i6
    obtain ⟨x, y, rfl, r1, r2⟩ := is2 r
    exact ⟨p, _, rfl, SqT.of o, rfl, x, _, rfl, y, _, rfl, rfl, q x y H6 g6 r1 r2⟩
end
theorem _root_.L2.Room.dict {k : Nat} {A : Around} (r : Room k A) : A.units + 1 < cLine := by have := r.un; omega
/-! ### odd names, bad numbers, rising numbers, steps, trains -/
def oddSh : List Sh := [.c .non, .c (.str ""), .c (.int 3), .c (.bl true), .c (.str "A"), .c (.str "abcdefg"), .c (.str "a b"), .c (.str "a1"), .t [.c (.str "a")], .l [.c (.str "a")], .c (.int (-1)), .c (.str "zo\n"), .t [.t [.c (.str "a"), .t [.c (.str "b")]]], .c (.str "a.a")]
section
variable {P : Program} {w : World} {K : PySem.W.Frag} {mg : Str → Option Value} {base : Heap}
def spOdd : Sp := fun vs H Q _ => ∃ b, vs = [.ref b] ∧ Bag H b ∧ ∀ v H', Go b H H' → Is b H' (.o oddSh) v → Q v H'
theorem ok_law_odd (T : Txt K mg) : FnOk P w K mg base CX0 3 T.d__law_odd.f T.d__law_odd.fd ["_law_bag_here"] spOdd := by
  refine T.d__law_odd.F.ok sc_law_odd (fun vs H Q E h => ?_) (fun cdv A outer s H vs Q E hr h => ?_)
  · obtain ⟨b, rfl, _⟩ := h
    rfl
  · obtain ⟨b, rfl, hB, q⟩ := h
    refine ⟨_, (pss_one (ps_ret (pe_call (ok_law_ofL T) (hr.mono (by decide)) (by rfl) T.d__law_of.g T.d__law_of.F.kp T.d__law_of.b .nil pass0 (pa_cons (pv 0) (pa_cons (pe_lst (pa_cons pe_non (pa_cons pe_str (pa_cons pe_int (pa_cons pe_bl (pa_cons pe_str (pa_cons pe_str (pa_cons pe_str (pa_cons pe_str (pa_cons (pe_tup (pa_cons pe_str pa_nil)) (pa_cons (pe_lst (pa_cons pe_str pa_nil)) (pa_cons (pe_un un_neg pe_int) (pa_cons pe_str (pa_cons (pe_tup (pa_cons (pe_tup (pa_cons pe_str (pa_cons (pe_tup (pa_cons pe_str pa_nil)) pa_nil))) pa_nil)) (pa_cons pe_str pa_nil))))))))))))))) pa_nil))))), ?_⟩
    have st : ∀ {z : Str} {σ : L2.St}, Ev1 b (tC (.str z)) σ H (.c (.str z)) := e_c
    have h : Ev1 b _ _ H (.o oddSh) := e_ofL (n_cons (e_var (i := 0) (σ := L2.start N_law_odd [.ref b]) rfl rfl) (n_cons (e_lst (n_cons e_c (n_cons e_c (n_cons e_c (n_cons e_c (n_cons e_c (n_cons e_c (n_cons e_c (n_cons e_c (n_cons (e_tup (n_cons e_c n_nil) (by decide)) (n_cons (e_lst (n_cons e_c n_nil) (by decide)) (n_cons (e_neg e_c) (n_cons e_c (n_cons (e_tup (n_cons (e_tup (n_cons e_c (n_cons (e_tup (n_cons e_c n_nil) (by decide)) n_nil)) (by decide)) n_nil) (by decide)) (n_cons e_c n_nil)))))))))))))) (by decide)) n_nil)) (by decide) (by decide)
    exact h H (Go.refl hB) _ fun v H' g i => q v H' g i
/-! ### shapes of steps and trains -/
structure Row where
  r : Str
  is : List Int
  st : Int
  pu : V
def Row.ok (z : Row) : Bool := (timesB (z.is.map V.int) && isNum (.int z.st) 0 1000000) && (pubB z.pu && isSc z.pu)
def intsS (is : List Int) : Sh := .l (is.map fun i => .c (.int i))
def rowS (z : Row) : Sh := .t [.c (.str z.r), intsS z.is, .c (.int z.st), .c z.pu]
def stepS (T : Txt K mg) (z : Row) : Sh := .m T.aStep stepN [.c (.str z.r), .c (.int z.st), .c z.pu, intsS z.is]
structure Car where
  n : Str
  len : Int
  rows : List Row
  out : Int
def Car.ok (z : Car) : Bool := ((isNm (.str z.n) && isNum (.int z.len) 1 60) && isNum (.int z.out) 1 1000000) && ((decide (1 ≤ z.rows.length) && decide (z.rows.length ≤ 6)) && z.rows.all Row.ok)
def carS (z : Car) : Sh := .t [.c (.str z.n), .c (.int z.len), .l (z.rows.map rowS), .c (.int z.out)]
def trainS (T : Txt K mg) (z : Car) : Sh := .m T.aTrain trainN [.c (.str z.n), .c (.int z.len), .c (.int z.out), .l (z.rows.map (stepS T))]
theorem isAll_ints {b : Addr} {H : Hp} : ∀ {is : List Int} {vs : List V}, IsAll b H (is.map fun i => .c (.int i)) vs → vs = is.map V.int
  | [], _, h => h
  | i :: is, _, h => by
    obtain ⟨v, ws, rfl, rfl, q⟩ := h
    rw [isAll_ints q]
    rfl
theorem ints_all {b : Addr} {H : Hp} : ∀ is : List Int, IsAll b H (is.map fun i => .c (.int i)) (is.map V.int)
  | [] => rfl
  | i :: is => ⟨_, _, rfl, rfl, ints_all is⟩
/-- a step as the program has it -/
theorem is_step {T : Txt K mg} {b : Addr} {H : Hp} {z : Row} {v : V} (h : Is b H (stepS T z) v) : ∃ a d l, v = .ref a ∧ a ≠ b ∧ l ≠ b ∧ H a = some (.ins T.aStep d (stepF (.str z.r) (.int z.st) z.pu (.ref l))) ∧ H l = some (.lst (z.is.map V.int)) := by
  obtain ⟨a, d, vs, rfl, nb, e, _, v1, w1, rfl, e1, v2, w2, rfl, e2, v3, w3, rfl, e3, h⟩ := h
  obtain ⟨v4, rfl, l, ys, rfl, nl, o, r⟩ := is1 h
  rw [isAll_ints r] at o
  rw [show v1 = _ from e1, show v2 = _ from e2, show v3 = _ from e3] at e
  exact ⟨a, d, l, rfl, nb, nl, e, o⟩
theorem step_is {T : Txt K mg} {b : Addr} {H : Hp} {z : Row} {a d l : Addr} (na : a ≠ b) (nl : l ≠ b) (e : H a = some (.ins T.aStep d (stepF (.str z.r) (.int z.st) z.pu (.ref l)))) (o : H l = some (.lst (z.is.map V.int))) : Is b H (stepS T z) (.ref a) :=
  ⟨a, d, _, rfl, na, e, rfl, _, _, rfl, rfl, _, _, rfl, rfl, _, _, rfl, rfl, _, _, rfl, ⟨l, _, rfl, nl, o, ints_all z.is⟩, rfl⟩
theorem is_train {T : Txt K mg} {b : Addr} {H : Hp} {z : Car} {v : V} (h : Is b H (trainS T z) v) : ∃ a d l xs, v = .ref a ∧ a ≠ b ∧ l ≠ b ∧ H a = some (.ins T.aTrain d (trainF (.str z.n) (.int z.len) (.int z.out) (.ref l))) ∧ H l = some (.lst xs) ∧ IsAll b H (z.rows.map (stepS T)) xs := by
  obtain ⟨a, d, vs, rfl, nb, e, _, v1, w1, rfl, e1, v2, w2, rfl, e2, v3, w3, rfl, e3, h⟩ := h
  obtain ⟨v4, rfl, l, ys, rfl, nl, o, r⟩ := is1 h
  rw [show v1 = _ from e1, show v2 = _ from e2, show v3 = _ from e3] at e
  exact ⟨a, d, l, ys, rfl, nb, nl, e, o, r⟩
theorem train_is {T : Txt K mg} {b : Addr} {H : Hp} {z : Car} {a d l : Addr} {xs : List V} (na : a ≠ b) (nl : l ≠ b) (e : H a = some (.ins T.aTrain d (trainF (.str z.n) (.int z.len) (.int z.out) (.ref l)))) (o : H l = some (.lst xs)) (r : IsAll b H (z.rows.map (stepS T)) xs) : Is b H (trainS T z) (.ref a) :=
  ⟨a, d, _, rfl, na, e, rfl, _, _, rfl, rfl, _, _, rfl, rfl, _, _, rfl, rfl, _, _, rfl, ⟨l, _, rfl, nl, o, r⟩, rfl⟩
theorem Row.parts {z : Row} (h : z.ok = true) : timesB (z.is.map V.int) = true ∧ isNum (.int z.st) 0 1000000 = true ∧ pubB z.pu = true ∧ isSc z.pu = true := by
  unfold Row.ok at h
  simp only [Bool.and_eq_true] at h
  exact ⟨h.1.1, h.1.2, h.2.1, h.2.2⟩
theorem Row.len {z : Row} (h : z.ok = true) : 1 ≤ z.is.length ∧ z.is.length ≤ 24 := by
  have t := (Row.parts h).1
  unfold timesB at t
  simp only [Bool.and_eq_true, decide_eq_true_eq, List.length_map] at t
  exact t.1
theorem Row.pub {z : Row} (h : z.ok = true) : z.pu = .non ∨ ∃ i, z.pu = .int i := by
  obtain ⟨_, _, p, _⟩ := Row.parts h
  unfold pubB at p
  cases e : z.pu with
  | non => exact .inl rfl
  | int i => exact .inr ⟨i, rfl⟩
  | _ => rw [e] at p; simp [isNum] at p
theorem stepAt_of {T : Txt K mg} {H : Hp} {z : Row} {a d l : Addr} (hz : z.ok = true) (e : H a = some (.ins T.aStep d (stepF (.str z.r) (.int z.st) z.pu (.ref l)))) (o : H l = some (.lst (z.is.map V.int))) : StepAt T H a (.str z.r) (.int z.st) z.pu z.is := by
  have := (Row.len hz).2
  exact ⟨d, l, e, o, by omega⟩
def spStepL (T : Txt K mg) : Sp := fun vs H Q _ => ∃ (b : Addr) (v : V) (z : Row), vs = [v] ∧ Bag H b ∧ Is b H (rowS z) v ∧ z.ok = true ∧ ∀ a H', Go b H H' → H a = none → Is b H' (stepS T z) (.ref a) → (∀ c o, H c = some o → Is c H' (stepS T z) (.ref a)) → Q (.ref a) H'
theorem ok_law_step (T : Txt K mg) : FnOk P w K mg base CX0 6 T.d__law_step.f T.d__law_step.fd ["_law_row"] (spStepL T) := by
  refine T.d__law_step.F.ok sc_law_step (fun vs H Q E h => ?_) (fun cdv A outer s H vs Q E hr h => ?_)
  · obtain ⟨b, v, z, rfl, _⟩ := h
    rfl
  · obtain ⟨b, v, z, rfl, hB, hv, hz, q⟩ := h
    obtain ⟨mv, kb_stop_public⟩ := kb_sp T
    obtain ⟨p, ws, rfl, np, o, r⟩ := hv
    obtain ⟨h1, h2, h3, h4⟩ := Row.parts hz
    have hl := Row.len hz
    obtain ⟨v1, w1, rfl, e1, v2, w2, rfl, ⟨l, ys, e2, nl, ol, rl⟩, v3, w3, rfl, e3, r⟩ := r
    obtain ⟨v4, rfl, e4⟩ := is1 r
    rw [isAll_ints rl] at ol
    rw [show v1 = _ from e1, e2, show v3 = _ from e3, show v4 = _ from e4] at o
    refine ⟨_, (pss_one (ps_ret (pe_makeK T.kStep.made (ok_ms_init T) (hr.mono (by decide)) (by rfl) T.c_Step kb_stop_public passLN (pa_cons (pe_ix ix_tup (pv 0) pe_int (fun _ _ => rfl)) (pa_cons (pe_callTy call_list_of (by rfl) T.z_list (by decide +kernel) (pa_cons (pe_ix ix_tup (pv 0) pe_int (fun _ _ => rfl)) pa_nil)) pa_nil)) (pk_cons (pe_ix ix_tup (pv 0) pe_int (fun _ _ => rfl)) (pk_cons (pe_ix ix_tup (pv 0) pe_int (fun _ _ => rfl)) pk_nil))))), ?_⟩
    have sq : ∀ {H' : Hp}, Same H H' → SqT K H' p [.str z.r, .ref l, .int z.st, z.pu] := fun s => SqT.of (s _ _ o)
    refine ⟨.ref p, rfl, p, _, 0, _, rfl, rfl, sq (.refl _), atI_nat (j := 0) rfl, ?_⟩
    refine ⟨.ref p, rfl, p, _, 1, _, rfl, rfl, sq (.refl _), atI_nat (j := 1) rfl, l, _, rfl, .inl (SqL.of ol), fun c nc => ?_⟩
    have s1 := same_new (o := .lst (z.is.map V.int)) nc
    refine ⟨.ref p, rfl, p, _, 2, _, rfl, rfl, sq s1, atI_nat (j := 2) rfl, ?_⟩
    refine ⟨.ref p, rfl, p, _, 3, _, rfl, rfl, sq s1, atI_nat (j := 3) rfl, rfl, rfl, ?_⟩
    have ht : TimesV K (upd H c (.lst (z.is.map V.int))) (.ref c) true (z.is.map V.int) := h1 ▸ .lst upd_same (by rw [List.length_map]; omega) (fun x m => by obtain ⟨i, _, rfl⟩ := List.mem_map.mp m; exact ⟨_, .sc rfl⟩)
    refine mk_step ht h2 h3 h4 fun a d l' H' s na nl' ea el => ?_
    have g : Go b H H' := Go.of_same hB (s1.trans s)
    exact q a H' g (none_of s1 na) (step_is (hB.ne (none_of s1 na)) (hB.ne (none_of s1 nl')) ea el) fun x o e => step_is (ne_of_none e (none_of s1 na)).symm (ne_of_none e (none_of s1 nl')).symm ea el
end
end Rd
set_option maxHeartbeats 4000000
namespace Rd
open PySem PySem.Spec PyProof.Rows L2 L2H HotX
/-! ## a thing that neither of two addresses is in -/
mutual
def pur : Sh → Bool
  | .c _ => true
  | .is _ => true
  | .l xs => purs xs
  | .t xs => purs xs
  | .o _ => false
  | .m _ _ xs => purs xs
def purs : List Sh → Bool
  | [] => true
  | s :: r => pur s && purs r
end
theorem zip_inj {ns : List Str} : ∀ {vs ws : List V}, vs.length = ns.length → ws.length = ns.length → ns.zip vs = ns.zip ws → vs = ws := by
  induction ns with
  | nil =>
    intro vs ws h1 h2 _
    rw [List.length_eq_zero_iff.mp h1, List.length_eq_zero_iff.mp h2]
  | cons n ns ih =>
    intro vs ws h1 h2 e
    match vs, ws, h1, h2 with
    | v :: vs, w :: ws, h1, h2 =>
      have e' : (n, v) :: ns.zip vs = (n, w) :: ns.zip ws := e
      injection e' with e1 e2
      injection e1 with _ e3
      rw [e3, ih (by simpa using h1) (by simpa using h2) e2]
mutual
theorem Is.two {b c : Addr} {H H' : Hp} (g : ∀ a o, a ≠ c → H a = some o → H' a = some o) : ∀ {s : Sh} {v : V}, pur s = true → Is b H s v → Is c H s v → Is b H' s v ∧ Is c H' s v
  | .c x, v, _, h, k => ⟨h, k⟩
  | .is p, v, _, h, k => ⟨h, k⟩
  | .l xs, v, d, h, k => by
    obtain ⟨p, vs, e, n, o, r⟩ := h
    obtain ⟨p', vs', e', n', o', r'⟩ := k
    cases e.symm.trans e'
    cases o.symm.trans o'
    obtain ⟨z1, z2⟩ := IsAll.two g (show purs xs = true from d) r r'
    exact ⟨⟨p, vs, e, n, g _ _ n' o, z1⟩, ⟨p, vs, e, n', g _ _ n' o, z2⟩⟩
  | .t xs, v, d, h, k => by
    obtain ⟨p, vs, e, n, o, r⟩ := h
    obtain ⟨p', vs', e', n', o', r'⟩ := k
    cases e.symm.trans e'
    cases o.symm.trans o'
    obtain ⟨z1, z2⟩ := IsAll.two g (show purs xs = true from d) r r'
    exact ⟨⟨p, vs, e, n, g _ _ n' o, z1⟩, ⟨p, vs, e, n', g _ _ n' o, z2⟩⟩
  | .o xs, v, d, h, k => by cases d
  | .m C ns xs, v, d, h, k => by
    obtain ⟨a, dd, vs, e, n, o, l, r⟩ := h
    obtain ⟨a', dd', vs', e', n', o', l', r'⟩ := k
    cases e.symm.trans e'
    have eo := o.symm.trans o'
    injection eo with eo
    injection eo with _ e1 e2
    subst e1
    cases zip_inj l l' e2
    obtain ⟨z1, z2⟩ := IsAll.two g (show purs xs = true from d) r r'
    exact ⟨⟨a, dd, vs, e, n, g _ _ n' o, l, z1⟩, ⟨a, dd, vs, e, n', g _ _ n' o, l, z2⟩⟩
theorem IsAll.two {b c : Addr} {H H' : Hp} (g : ∀ a o, a ≠ c → H a = some o → H' a = some o) : ∀ {ss : List Sh} {vs : List V}, purs ss = true → IsAll b H ss vs → IsAll c H ss vs → IsAll b H' ss vs ∧ IsAll c H' ss vs
  | [], _, _, h, k => ⟨h, k⟩
  | s :: r, _, d, h, k => by
    obtain ⟨d1, d2⟩ := Bool.and_eq_true_iff.mp (show (pur s && purs r) = true from d)
    obtain ⟨v, ws, e, r, q⟩ := h
    obtain ⟨v', ws', e', r', q'⟩ := k
    subst e
    cases e'
    obtain ⟨z1, z2⟩ := Is.two g d1 r r'
    obtain ⟨z3, z4⟩ := IsAll.two g d2 q q'
    exact ⟨⟨v, ws, rfl, z1, z3⟩, ⟨v, ws, rfl, z2, z4⟩⟩
end
theorem isAll_snoc {b : Addr} {H : Hp} {ss : List Sh} {vs : List V} {s : Sh} {v : V} (h : IsAll b H ss vs) (k : Is b H s v) : IsAll b H (ss ++ [s]) (vs ++ [v]) := h.append ⟨v, [], rfl, k, rfl⟩
theorem purs_map {α : Type} {f : α → Sh} (h : ∀ x, pur (f x) = true) : ∀ l : List α, purs (l.map f) = true
  | [] => rfl
  | x :: l => by rw [List.map_cons]; show (pur (f x) && purs (l.map f)) = true; rw [h x, purs_map h l]; rfl
section
variable {P : Program} {w : World} {K : PySem.W.Frag} {mg : Str → Option Value} {base : Heap}
theorem pur_step (T : Txt K mg) (z : Row) : pur (stepS T z) = true := by
  show (true && (true && (true && (purs (z.is.map fun i => Sh.c (.int i)) && true)))) = true
  rw [purs_map (fun _ => rfl)]
  rfl
theorem pur_train (T : Txt K mg) (z : Car) : pur (trainS T z) = true := by
  show (true && (true && (true && (purs (z.rows.map (stepS T)) && true)))) = true
  rw [purs_map (pur_step T)]
  rfl
/-- an expression whose value holds nothing that was known before -/
def EvB (b : Addr) (te : TE) (σ : L2.St) (H : Hp) (s : Sh) : Prop := ∀ Q : VK, (∀ v H', Go b H H' → Is b H' s v → (∀ c o, H c = some o → c ≠ b → Is c H' s v) → Q v H') → te σ H Q
/-- [e for x in xs], new things -/
theorem e_lcB {b : Addr} {σ : L2.St} {H0 : Hp} {tl te : TE} {α : Type} {v : Nat} {xs : List α} (f g : α → Sh) (hf : ∀ x, x ∈ xs → pur (g x) = true) (hl : Ev1 b tl σ H0 (.l (xs.map f))) (hn : xs.length ≤ 1000)
    (el : ∀ (x : α), x ∈ xs → ∀ H y, Go b H0 H → Is b H (f x) y → EvB b te ((wipe σ [v]).set v (some y)) H (g x)) : Ev1 b (tLc (iList K tl) (gName v) tYes te [v]) σ H0 (.l (xs.map g)) := fun H gg Q q =>
  hl H gg _ fun u H1 g1 i1 => by
    obtain ⟨a, ys, rfl, na, o, r⟩ := i1
    refine ⟨a, rfl, ⟨_, SqL.of o⟩, fun D nD => ?_⟩
    have hB := g1.1
    have nb := hB.ne nD
    have lx := r.length
    rw [List.length_map] at lx
    refine lc_list (K := K) (a := a) (xs := ys) (fun i H5 => Go b H1 H5 ∧ ∃ zs, H5 D = some (.lst zs) ∧ IsAll b H5 ((xs.take i).map g) zs ∧ IsAll D H5 ((xs.take i).map g) zs) ⟨(Go.refl hB).put hB nD, [], upd_same, rfl, rfl⟩ (fun i H5 _ h => SqL.of (h.1.2 _ _ na o)) ?_ ?_
    · rintro i y H5 hy ⟨g5, zs, eD, k1, k2⟩
      have hi : i < ys.length := (List.getElem?_eq_some_iff.mp hy).1
      obtain ⟨s, hs, is⟩ := r.at hy
      rw [List.getElem?_map] at hs
      obtain ⟨x, hx, rfl⟩ : ∃ x, xs[i]? = some x ∧ f x = s := by
        cases e : xs[i]? with
        | none => rw [e] at hs; cases hs
        | some x => rw [e] at hs; cases hs; exact ⟨x, rfl, rfl⟩
      have mx := List.mem_of_getElem? hx
      refine ⟨by show (((σ.set v none).set v _).set v none) = σ.set v none; rw [List.set_set, List.set_set], ?_⟩
      show te _ H5 _
      refine el x mx H5 y (gg.trans (g1.trans g5)) (is.go g5) _ fun z H6 g6 i6 j6 => ?_
      have eD6 := g6.2 _ _ nb eD
      have i6D := j6 D _ eD nb
      have dd : purs ((xs.take i).map g) = true := by
        have go : ∀ l : List α, (∀ x, x ∈ l → pur (g x) = true) → purs (l.map g) = true := by
          intro l
          induction l with
          | nil => exact fun _ => rfl
          | cons x l ih =>
            intro h
            show (pur (g x) && purs (l.map g)) = true
            rw [h x List.mem_cons_self, ih fun y m => h y (List.mem_cons_of_mem _ m)]
            rfl
        exact go _ fun x m => hf x (List.mem_of_mem_take m)
      obtain ⟨k26, k16⟩ := IsAll.two (b := D) (c := b) g6.2 dd k2 k1
      have gD : ∀ (zs' : List V) a o, a ≠ D → H6 a = some o → upd H6 D (.lst zs') a = some o := fun zs' a o n e => by rw [upd_ne n]; exact e
      obtain ⟨z1, z2⟩ := IsAll.two (gD (zs ++ [z])) dd k16 k26
      obtain ⟨z3, z4⟩ := Is.two (gD (zs ++ [z])) (hf x mx) i6 i6D
      refine ⟨zs, eD6, ?_, (g5.trans g6).put hB nD, zs ++ [z], upd_same, ?_, ?_⟩
      · have := k1.length
        rw [List.length_map, List.length_take] at this
        exact small1000 (by omega)
      · rw [List.take_add_one, hx, List.map_append]; exact isAll_snoc z1 z3
      · rw [List.take_add_one, hx, List.map_append]; exact isAll_snoc z2 z4
    · rintro H5 ⟨g5, zs, eD, k1, _⟩
      rw [lx, List.take_length] at k1
      exact q _ H5 (g1.trans g5) ⟨D, zs, rfl, nb, eD, k1⟩
end
end Rd
set_option maxHeartbeats 4000000
namespace Rd
open PySem PySem.Spec PyProof.Rows L2 L2H HotX
/-! ## the law's trains, rising numbers, bad numbers -/
section
variable {b : Addr} {σ : L2.St} {H0 H : Hp} {te ta tb tl ti : TE} {tr : TA} {s : Sh} {ss : List Sh} {K : PySem.W.Frag} {mg : Str → Option Value} {T : Txt K mg} {D : Ends} {t2 : TS}
theorem e_ixT {j : Nat} (h : Ev1 b ta σ H0 (.t ss)) (k : Ev1 b ti σ H0 (.c (.int (j : Nat)))) (n : ss[j]? = some s) : Ev1 b (tOp (rIxT K) ta ti) σ H0 s := fun H g Q q =>
  h H g _ fun v H1 g1 i1 => k H1 (g.trans g1) _ fun w H2 g2 i2 => by
    obtain ⟨p1, vs, rfl, n1, o1, r1⟩ := i1.go g2
    have hj : j < vs.length := by rw [r1.length]; exact (List.getElem?_eq_some_iff.mp n).1
    obtain ⟨s', hs, is⟩ := r1.at (List.getElem?_eq_getElem hj)
    cases n.symm.trans hs
    exact ⟨p1, vs, j, _, rfl, i2, SqT.of o1, atI_nat (List.getElem?_eq_getElem hj), q _ H2 (g1.trans g2) is⟩
theorem e_ixL {j : Nat} (h : Ev1 b ta σ H0 (.l ss)) (k : Ev1 b ti σ H0 (.c (.int (j : Nat)))) (n : ss[j]? = some s) : Ev1 b (tOp (rIxL K) ta ti) σ H0 s := fun H g Q q =>
  h H g _ fun v H1 g1 i1 => k H1 (g.trans g1) _ fun w H2 g2 i2 => by
    obtain ⟨p1, vs, rfl, n1, o1, r1⟩ := i1.go g2
    have hj : j < vs.length := by rw [r1.length]; exact (List.getElem?_eq_some_iff.mp n).1
    obtain ⟨s', hs, is⟩ := r1.at (List.getElem?_eq_getElem hj)
    cases n.symm.trans hs
    exact ⟨p1, vs, j, _, rfl, i2, SqL.of o1, atI_nat (List.getElem?_eq_getElem hj), q _ H2 (g1.trans g2) is⟩
theorem q_tup4 {i j k l : Nat} {s1 s2 s3 s4 : Sh} (hB : Bag H b) (h : Ev1 b te σ H (.t [s1, s2, s3, s4])) (q : ∀ x y z u H', Go b H H' → Is b H' s1 x → Is b H' s2 y → Is b H' s3 z → Is b H' s4 u → t2 D ((((σ.set i (some x)).set j (some y)).set k (some z)).set l (some u)) H') :
    tSeq (tAsg te (gTup K 4 (gCons (gName i) (gCons (gName j) (gCons (gName k) (gCons (gName l) gNil)))))) t2 D σ H :=
  h H (.refl hB) _ fun w H6 g6 i6 => by
    obtain ⟨p, xs, rfl, np, o, r⟩ := i6
    obtain ⟨x, ws, rfl, r1, r⟩ := r
    obtain ⟨y, z, u, rfl, r2, r3, r4⟩ := is3 r
    exact ⟨p, _, rfl, SqT.of o, rfl, x, _, rfl, y, _, rfl, z, _, rfl, u, _, rfl, rfl, q x y z u H6 g6 r1 r2 r3 r4⟩
theorem evB_step {z : Row} (hz : z.ok = true) (hB : Bag H b) (h : EvN b tr σ H [rowS z]) : EvB b (tCall (spStepL T) [] E0 tr) σ H (stepS T z) := fun Q q =>
  h H (.refl hB) _ fun vs H1 g1 i1 => by
    obtain ⟨v, rfl, i2⟩ := is1 i1
    refine ⟨b, v, z, rfl, g1.1, i2, hz, fun a H2 g2 na is ic => ?_⟩
    exact q _ H2 (g1.trans g2) is fun c o e n => ic c o (g1.2 _ _ n e)
theorem none_go {a : Addr} {H H1 : Hp} (g : Go b H H1) (n : H1 a = none) : H a = none := by
  cases e : H a with
  | none => rfl
  | some o =>
    by_cases h : a = b
    · obtain ⟨xs, eb⟩ := g.1.some
      rw [h, eb] at n
      cases n
    · rw [g.2 _ _ h e] at n
      cases n
theorem EvB.ev (hB : Bag H0 b) (h : ∀ H, Go b H0 H → EvB b te σ H s) : Ev1 b te σ H0 s := fun H g Q q => h H g Q fun v H' g' i _ => q v H' g' i
end
section
variable {P : Program} {w : World} {K : PySem.W.Frag} {mg : Str → Option Value} {base : Heap}
theorem Car.parts {z : Car} (h : z.ok = true) : isNm (.str z.n) = true ∧ isNum (.int z.len) 1 60 = true ∧ isNum (.int z.out) 1 1000000 = true ∧ 1 ≤ z.rows.length ∧ z.rows.length ≤ 6 ∧ ∀ x, x ∈ z.rows → x.ok = true := by
  unfold Car.ok at h
  simp only [Bool.and_eq_true, decide_eq_true_eq] at h
  exact ⟨h.1.1.1, h.1.1.2, h.1.2, h.2.1.1, h.2.1.2, fun x m => List.all_eq_true.mp h.2.2 x m⟩
theorem steps_all {T : Txt K mg} {b : Addr} {H : Hp} {rows : List Row} {xs : List V} (h : IsAll b H (rows.map (stepS T)) xs) : ∀ x, x ∈ xs → IsStepV T H x := fun x m => by
  obtain ⟨s, ms, i⟩ := h.mem m
  obtain ⟨z, _, rfl⟩ := List.mem_map.mp ms
  obtain ⟨a, d, l, e, _, _, o, _⟩ := is_step i
  exact ⟨a, d, _, e, o⟩
/-- a train is made of steps that stand -/
theorem new_train {T : Txt K mg} {b : Addr} {H : Hp} {Q : VK} {E : XK} {z : Car} {xs : List V} (hB : Bag H b) (hz : z.ok = true) (r : IsAll b H (z.rows.map (stepS T)) xs) (q : ∀ a H', Go b H H' → H a = none → Is b H' (trainS T z) (.ref a) → Q (.ref a) H') :
    SkNew T.aTrain (spTI T) E H Q [.str z.n, .int z.len] xs (.int z.out) := by
  obtain ⟨h1, h2, h3, l1, l6, _⟩ := Car.parts hz
  have lx := r.length
  rw [List.length_map] at lx
  refine mk_train h1 h2 h3 (steps_all r) (by omega) (by omega) fun a d l H' s na nl e1 e2 => ?_
  exact q a H' (Go.of_same hB s) na (train_is (hB.ne na) (hB.ne nl) e1 e2 (r.keep fun x o _ e => s _ _ e))
def spTrainL (T : Txt K mg) : Sp := fun vs H Q _ => ∃ (b : Addr) (v : V) (z : Car), vs = [v] ∧ Bag H b ∧ Is b H (carS z) v ∧ z.ok = true ∧ ∀ a H', Go b H H' → H a = none → Is b H' (trainS T z) (.ref a) → Q (.ref a) H'
theorem ok_law_train (T : Txt K mg) : FnOk P w K mg base CX0 8 T.d__law_train.f T.d__law_train.fd ["_law_car"] (spTrainL T) := by
  refine T.d__law_train.F.ok sc_law_train (fun vs H Q E h => ?_) (fun cdv A outer s H vs Q E hr h => ?_)
  · obtain ⟨b, v, z, rfl, _⟩ := h
    rfl
  · obtain ⟨b, v, z, rfl, hB, hv, hz, q⟩ := h
    obtain ⟨h1, h2, h3, l1, l6, hrow⟩ := Car.parts hz
    refine ⟨_, (pss_cons (ps_asg (pe_tup (pa_cons (pe_ix ix_tup (pv 0) pe_int (fun _ _ => rfl)) (pa_cons (pe_ix ix_tup (pv 0) pe_int (fun _ _ => rfl)) (pa_cons (pe_lc (own := [("_law_row", 5)]) (g := gName 5) (tt := tYes) (by rfl) sc_law_train.nd (pi_list (pe_ix ix_tup (pv 0) pe_int (fun _ _ => rfl))) (blkOk_by (own := [("_law_row", 5)]) (N := N_law_train) (sc := defScope s_law_train) (by decide +kernel)) (fun _ _ _ _ _ => (pg_name (i := 5) sc_law_train.nd rfl (Or.inl rfl))) (fun _ _ _ _ _ => pts_nil) (fun _ _ _ _ _ => (pe_call (ok_law_step T) (hr.mono (by decide)) (by rfl) T.d__law_step.g T.d__law_step.F.kp T.d__law_step.b .nil pass0 (pa_cons (pv 5) pa_nil)))) (pa_cons (pe_ix ix_tup (pv 0) pe_int (fun _ _ => rfl)) pa_nil))))) (pg_tup rfl (pgs_cons (pg_name (i := 1) sc_law_train.nd rfl (Or.inl rfl)) (pgs_cons (pg_name (i := 2) sc_law_train.nd rfl (Or.inl rfl)) (pgs_cons (pg_name (i := 3) sc_law_train.nd rfl (Or.inl rfl)) (pgs_cons (pg_name (i := 4) sc_law_train.nd rfl (Or.inl rfl)) pgs_nil))))))
      (pss_cons (ps_if (pt_cmpR op_lt (pe_callB call_len_seq (by rfl) T.z_len (by decide +kernel) (pa_cons (pv 3) pa_nil)) pe_int (nomark _)) (pss_one (ps_ret (pe_ifExp (pt_cmpR op_eq (pe_callB call_len_seq (by rfl) T.z_len (by decide +kernel) (pa_cons (pv 3) pa_nil)) pe_int (nomark _)) (pe_makeSK T.kTrain.made (ok_mt_init T) (hr.mono (by decide)) (by rfl) T.c_Train passLN (pa_cons (pv 1) (pa_cons (pv 2) (pa_cons (pe_ix ix_list (pv 3) pe_int (fun _ _ => rfl)) pa_nil))) (pk_cons (pv 4) pk_nil)) (pe_makeSK T.kTrain.made (ok_mt_init T) (hr.mono (by decide)) (by rfl) T.c_Train passLN (pa_cons (pv 1) (pa_cons (pv 2) (pa_cons (pe_ix ix_list (pv 3) pe_int (fun _ _ => rfl)) (pa_cons (pe_ix ix_list (pv 3) pe_int (fun _ _ => rfl)) pa_nil)))) (pk_cons (pv 4) pk_nil))))) pss_nil)
      (pss_cons (ps_if (pt_cmpR op_eq (pe_callB call_len_seq (by rfl) T.z_len (by decide +kernel) (pa_cons (pv 3) pa_nil)) pe_int (nomark _)) (pss_one (ps_ret (pe_makeSK T.kTrain.made (ok_mt_init T) (hr.mono (by decide)) (by rfl) T.c_Train passLN (pa_cons (pv 1) (pa_cons (pv 2) (pa_cons (pe_ix ix_list (pv 3) pe_int (fun _ _ => rfl)) (pa_cons (pe_ix ix_list (pv 3) pe_int (fun _ _ => rfl)) (pa_cons (pe_ix ix_list (pv 3) pe_int (fun _ _ => rfl)) pa_nil))))) (pk_cons (pv 4) pk_nil)))) pss_nil)
      (pss_cons (ps_if (pt_cmpR op_eq (pe_callB call_len_seq (by rfl) T.z_len (by decide +kernel) (pa_cons (pv 3) pa_nil)) pe_int (nomark _)) (pss_one (ps_ret (pe_makeSK T.kTrain.made (ok_mt_init T) (hr.mono (by decide)) (by rfl) T.c_Train passLN (pa_cons (pv 1) (pa_cons (pv 2) (pa_cons (pe_ix ix_list (pv 3) pe_int (fun _ _ => rfl)) (pa_cons (pe_ix ix_list (pv 3) pe_int (fun _ _ => rfl)) (pa_cons (pe_ix ix_list (pv 3) pe_int (fun _ _ => rfl)) (pa_cons (pe_ix ix_list (pv 3) pe_int (fun _ _ => rfl)) pa_nil)))))) (pk_cons (pv 4) pk_nil)))) pss_nil)
      (pss_cons (ps_if (pt_cmpR op_eq (pe_callB call_len_seq (by rfl) T.z_len (by decide +kernel) (pa_cons (pv 3) pa_nil)) pe_int (nomark _)) (pss_one (ps_ret (pe_makeSK T.kTrain.made (ok_mt_init T) (hr.mono (by decide)) (by rfl) T.c_Train passLN (pa_cons (pv 1) (pa_cons (pv 2) (pa_cons (pe_ix ix_list (pv 3) pe_int (fun _ _ => rfl)) (pa_cons (pe_ix ix_list (pv 3) pe_int (fun _ _ => rfl)) (pa_cons (pe_ix ix_list (pv 3) pe_int (fun _ _ => rfl)) (pa_cons (pe_ix ix_list (pv 3) pe_int (fun _ _ => rfl)) (pa_cons (pe_ix ix_list (pv 3) pe_int (fun _ _ => rfl)) pa_nil))))))) (pk_cons (pv 4) pk_nil)))) pss_nil)
      (pss_one (ps_ret (pe_makeSK T.kTrain.made (ok_mt_init T) (hr.mono (by decide)) (by rfl) T.c_Train passLN (pa_cons (pv 1) (pa_cons (pv 2) (pa_cons (pe_ix ix_list (pv 3) pe_int (fun _ _ => rfl)) (pa_cons (pe_ix ix_list (pv 3) pe_int (fun _ _ => rfl)) (pa_cons (pe_ix ix_list (pv 3) pe_int (fun _ _ => rfl)) (pa_cons (pe_ix ix_list (pv 3) pe_int (fun _ _ => rfl)) (pa_cons (pe_ix ix_list (pv 3) pe_int (fun _ _ => rfl)) (pa_cons (pe_ix ix_list (pv 3) pe_int (fun _ _ => rfl)) pa_nil)))))))) (pk_cons (pv 4) pk_nil))))))))), ?_⟩
    have var : Ev1 b (tVar 0) (L2.start N_law_train [v]) H (carS z) := e_var rfl hv
    have rows : Ev1 b _ _ H (.l (z.rows.map (stepS T))) := e_lcB (K := K) (v := 5) (te := tCall (spStepL T) [] E0 (tCons (tVar 5) tNil)) rowS (stepS T) (fun x _ => pur_step T x) (e_ixT (K := K) (j := 2) var e_c rfl) (by omega) fun x m H1 y g i => evB_step (hrow x m) g.1 (n_cons (e_var (i := 5) rfl i) n_nil)
    refine q_tup4 hB (e_tup (n_cons (e_ixT (j := 0) var e_c rfl) (n_cons (e_ixT (j := 1) var e_c rfl) (n_cons rows (n_cons (e_ixT (j := 3) var e_c rfl) n_nil)))) (Nat.le_of_ble_eq_true rfl)) fun x1 x2 x3 x4 H1 g1 i1 i2 i3 i4 => ?_
    rw [show x1 = _ from i1, show x2 = _ from i2, show x4 = _ from i4]
    obtain ⟨l, xs, rfl, nl, o, r⟩ := i3
    have lx := r.length
    rw [List.length_map] at lx
    have fin : SkNew T.aTrain (spTI T) E0 H1 Q [.str z.n, .int z.len] xs (.int z.out) := new_train g1.1 hz r fun a H2 g2 na i => q a H2 (g1.trans g2) (none_go g1 na) i
    match xs, lx, o, fin with
    | [], lx, _, _ =>
      have : (0 : Nat) = z.rows.length := lx
      omega
    | [a0], _, o, fin =>
      exact ⟨.ref l, rfl, l, _, rfl, .inl (SqL.of o), _, 3, rfl, rfl, _, rfl, iteT ⟨.ref l, rfl, l, _, rfl, .inl (SqL.of o), rfl, _, rfl, iteT ⟨_, rfl, _, rfl, .ref l, rfl, l, _, (0 : Nat), _, rfl, rfl, SqL.of o, atI_nat (j := 0) rfl, _, rfl, [.str z.n, .int z.len], _, _, rfl, rfl, rfl, Nat.le_of_lt (small1000 (Nat.le_of_ble_eq_true rfl)), fin⟩⟩⟩
    | [a0, a1], _, o, fin =>
      exact ⟨.ref l, rfl, l, _, rfl, .inl (SqL.of o), _, 3, rfl, rfl, _, rfl, iteT ⟨.ref l, rfl, l, _, rfl, .inl (SqL.of o), rfl, _, rfl, iteF ⟨_, rfl, _, rfl, .ref l, rfl, l, _, (0 : Nat), _, rfl, rfl, SqL.of o, atI_nat (j := 0) rfl, .ref l, rfl, l, _, (1 : Nat), _, rfl, rfl, SqL.of o, atI_nat (j := 1) rfl, _, rfl, [.str z.n, .int z.len], _, _, rfl, rfl, rfl, Nat.le_of_lt (small1000 (Nat.le_of_ble_eq_true rfl)), fin⟩⟩⟩
    | [a0, a1, a2], _, o, fin =>
      exact ⟨.ref l, rfl, l, _, rfl, .inl (SqL.of o), _, 3, rfl, rfl, _, rfl, iteF ⟨.ref l, rfl, l, _, rfl, .inl (SqL.of o), rfl, _, rfl, iteT ⟨_, rfl, _, rfl, .ref l, rfl, l, _, (0 : Nat), _, rfl, rfl, SqL.of o, atI_nat (j := 0) rfl, .ref l, rfl, l, _, (1 : Nat), _, rfl, rfl, SqL.of o, atI_nat (j := 1) rfl, .ref l, rfl, l, _, (2 : Nat), _, rfl, rfl, SqL.of o, atI_nat (j := 2) rfl, _, rfl, [.str z.n, .int z.len], _, _, rfl, rfl, rfl, Nat.le_of_lt (small1000 (Nat.le_of_ble_eq_true rfl)), fin⟩⟩⟩
    | [a0, a1, a2, a3], _, o, fin =>
      exact ⟨.ref l, rfl, l, _, rfl, .inl (SqL.of o), _, 3, rfl, rfl, _, rfl, iteF ⟨.ref l, rfl, l, _, rfl, .inl (SqL.of o), rfl, _, rfl, iteF ⟨.ref l, rfl, l, _, rfl, .inl (SqL.of o), rfl, _, rfl, iteT ⟨_, rfl, _, rfl, .ref l, rfl, l, _, (0 : Nat), _, rfl, rfl, SqL.of o, atI_nat (j := 0) rfl, .ref l, rfl, l, _, (1 : Nat), _, rfl, rfl, SqL.of o, atI_nat (j := 1) rfl, .ref l, rfl, l, _, (2 : Nat), _, rfl, rfl, SqL.of o, atI_nat (j := 2) rfl, .ref l, rfl, l, _, (3 : Nat), _, rfl, rfl, SqL.of o, atI_nat (j := 3) rfl, _, rfl, [.str z.n, .int z.len], _, _, rfl, rfl, rfl, Nat.le_of_lt (small1000 (Nat.le_of_ble_eq_true rfl)), fin⟩⟩⟩⟩
    | [a0, a1, a2, a3, a4], _, o, fin =>
      exact ⟨.ref l, rfl, l, _, rfl, .inl (SqL.of o), _, 3, rfl, rfl, _, rfl, iteF ⟨.ref l, rfl, l, _, rfl, .inl (SqL.of o), rfl, _, rfl, iteF ⟨.ref l, rfl, l, _, rfl, .inl (SqL.of o), rfl, _, rfl, iteF ⟨.ref l, rfl, l, _, rfl, .inl (SqL.of o), rfl, _, rfl, iteT ⟨_, rfl, _, rfl, .ref l, rfl, l, _, (0 : Nat), _, rfl, rfl, SqL.of o, atI_nat (j := 0) rfl, .ref l, rfl, l, _, (1 : Nat), _, rfl, rfl, SqL.of o, atI_nat (j := 1) rfl, .ref l, rfl, l, _, (2 : Nat), _, rfl, rfl, SqL.of o, atI_nat (j := 2) rfl, .ref l, rfl, l, _, (3 : Nat), _, rfl, rfl, SqL.of o, atI_nat (j := 3) rfl, .ref l, rfl, l, _, (4 : Nat), _, rfl, rfl, SqL.of o, atI_nat (j := 4) rfl, _, rfl, [.str z.n, .int z.len], _, _, rfl, rfl, rfl, Nat.le_of_lt (small1000 (Nat.le_of_ble_eq_true rfl)), fin⟩⟩⟩⟩⟩
    | [a0, a1, a2, a3, a4, a5], _, o, fin =>
      exact ⟨.ref l, rfl, l, _, rfl, .inl (SqL.of o), _, 3, rfl, rfl, _, rfl, iteF ⟨.ref l, rfl, l, _, rfl, .inl (SqL.of o), rfl, _, rfl, iteF ⟨.ref l, rfl, l, _, rfl, .inl (SqL.of o), rfl, _, rfl, iteF ⟨.ref l, rfl, l, _, rfl, .inl (SqL.of o), rfl, _, rfl, iteF ⟨_, rfl, _, rfl, .ref l, rfl, l, _, (0 : Nat), _, rfl, rfl, SqL.of o, atI_nat (j := 0) rfl, .ref l, rfl, l, _, (1 : Nat), _, rfl, rfl, SqL.of o, atI_nat (j := 1) rfl, .ref l, rfl, l, _, (2 : Nat), _, rfl, rfl, SqL.of o, atI_nat (j := 2) rfl, .ref l, rfl, l, _, (3 : Nat), _, rfl, rfl, SqL.of o, atI_nat (j := 3) rfl, .ref l, rfl, l, _, (4 : Nat), _, rfl, rfl, SqL.of o, atI_nat (j := 4) rfl, .ref l, rfl, l, _, (5 : Nat), _, rfl, rfl, SqL.of o, atI_nat (j := 5) rfl, _, rfl, [.str z.n, .int z.len], _, _, rfl, rfl, rfl, Nat.le_of_lt (small1000 (Nat.le_of_ble_eq_true rfl)), fin⟩⟩⟩⟩⟩
    | _ :: _ :: _ :: _ :: _ :: _ :: _ :: xs, lx, _, _ =>
      simp only [List.length_cons] at lx
      omega
end
end Rd
set_option maxHeartbeats 4000000
namespace Rd
open PySem PySem.Spec PyProof.Rows L2 L2H HotX
/-! ## rising numbers, bad numbers -/
section
variable {P : Program} {w : World} {K : PySem.W.Frag} {mg : Str → Option Value} {base : Heap}
def spRising : Sp := fun vs H Q _ => ∃ (b : Addr) (n : Nat), vs = [.ref b, .int n] ∧ Bag H b ∧ n ≤ 20 ∧
  ∀ (is : List Int) v H', Go b H H' → Is b H' (intsS is) v → is.length = n → riseB 1 (is.map V.int) = true → (∀ i, i ∈ is → i ≤ 120) → Q v H'
theorem ok_law_rising (T : Txt K mg) : FnOk P w K mg base CX0 2 T.d__law_rising.f T.d__law_rising.fd ["_law_bag_here", "_law_many"] spRising := by
  refine T.d__law_rising.F.ok sc_law_rising (fun vs H Q E h => ?_) (fun cdv A outer s H vs Q E hr h => ?_)
  · obtain ⟨b, n, rfl, _⟩ := h
    rfl
  · obtain ⟨b, n, rfl, hB, hn, q⟩ := h
    refine ⟨_, (pss_cons (ps_par (i := 2) (j := 3) (by rfl) sc_law_rising.nd rfl rfl (by decide) rfl rfl (pa_cons (pe_lst pa_nil) (pa_cons pe_int pa_nil)) (by rfl))
      (pss_cons (ps_for PassesOwn.never rfl (pi_range1 (by rfl) T.z_range (pa_cons (pv 1) pa_nil)) (pg_name (i := 4) sc_law_rising.nd rfl (Or.inl rfl)) (pss_cons (ps_set (i := 3) sc_law_rising.nd rfl (Or.inl rfl) (pe_op op_add (pe_op op_add (pv 3) pe_int) (pe_call (ok_law_draw T) (hr.mono (by decide)) (by rfl) T.d__law_draw.g T.d__law_draw.F.kp T.d__law_draw.b .nil pass0 (pa_cons (pv 0) (pa_cons pe_int pa_nil)))))
      (pss_one (ps_expr (pe_bm PySem.F.plainAttrs_list PySem.F.slot_list_append PySem.F.type_list_append mt_append (pv 2) (pa_cons (pv 3) pa_nil))))))
      (pss_one (ps_ret (pv 2))))), ?_⟩
    refine ⟨by show 0 ≤ sizeLine; exact Nat.zero_le _, fun D nD => ⟨.ref D, .int 0, rfl, ?_⟩⟩
    have nb := hB.ne nD
    have e0 : (upd H D (.lst [])) D = some (.lst []) := upd_same
    refine ⟨.int n, rfl, n, rfl, by omega, by omega, for_range (lo := 0) (n := n) (fun i σ H2 => Go b H H2 ∧ ∃ (is : List Int) (now : Int) (x : Option V), σ = [some (.ref b), some (.int n), some (.ref D), some (.int now), x] ∧ H2 D = some (.lst (is.map V.int)) ∧ is.length = i ∧
      0 ≤ now ∧ now ≤ 6 * i ∧ (∀ ys, riseB (now + 1) ys = true → riseB 1 (is.map V.int ++ ys) = true) ∧ ∀ z, z ∈ is → z ≤ 120) ⟨(Go.refl hB).put hB nD, [], 0, none, rfl, e0, rfl, by omega, by omega, fun ys h => h, fun z m => by cases m⟩ ?_ ?_⟩
    · rintro i σ H2 hi ⟨g2, is, now, x, rfl, eD, hl, n0, n1, hr1, hm⟩
      refine ⟨.int now, rfl, now, 1, rfl, rfl, .ref b, rfl, b, 6, rfl, g2.1, by omega, by omega, fun d H3 g3 d0 d1 => ⟨now + 1, d, rfl, rfl, ?_⟩⟩
      have eD3 := g3.2 _ _ nb eD
      have hs : (is.map V.int).length < sizeLine := by rw [List.length_map]; exact small1000 (by omega)
      refine ⟨.ref D, rfl, .inl ⟨rfl, _, SqL.of eD3⟩, .int (now + 1 + d), rfl, D, _, _, rfl, rfl, eD3, hs, ?_⟩
      refine ⟨Go.put hB (g2.trans g3) nD, is ++ [now + 1 + d], now + 1 + d, _, rfl, by rw [List.map_append]; exact upd_same, by rw [List.length_append, hl]; rfl, by omega, by omega, fun ys h => ?_, fun z m => ?_⟩
      · rw [List.map_append, List.append_assoc]
        refine hr1 _ ?_
        show ((decide (now + 1 ≤ now + 1 + d) && decide (now + 1 + d ≤ 1000000)) && riseB (now + 1 + d + 1) ys) = true
        rw [decide_eq_true (by omega), decide_eq_true (by omega), h]
        rfl
      · rcases List.mem_append.mp m with h | h
        · exact hm z h
        · rw [List.mem_singleton.mp h]; omega
    · rintro σ H2 ⟨g2, is, now, x, rfl, eD, hl, n0, n1, hr1, hm⟩
      refine ⟨.ref D, rfl, q is _ H2 g2 ⟨D, _, rfl, nb, eD, ints_all is⟩ hl ?_ hm⟩
      have := hr1 [] rfl
      rwa [List.append_nil] at this
def badSh : List Sh := [.c (.int (-1)), .c (.int (10 ^ (6 : Int).toNat + 1)), .c (.bl true), .c (.bl false), .c (.str "0"), .l [.c (.int 0)], .t [.c (.int 1)], .c (.int (-(10 ^ (9 : Int).toNat)))]
def spBadN : Sp := fun vs H Q _ => ∃ b, vs = [.ref b] ∧ Bag H b ∧ ∀ v H', Go b H H' → Is b H' (.o badSh) v → Q v H'
theorem ok_law_bad_number (T : Txt K mg) : FnOk P w K mg base CX0 3 T.d__law_bad_number.f T.d__law_bad_number.fd ["_law_bag_here"] spBadN := by
  refine T.d__law_bad_number.F.ok sc_law_bad_number (fun vs H Q E h => ?_) (fun cdv A outer s H vs Q E hr h => ?_)
  · obtain ⟨b, rfl, _⟩ := h
    rfl
  · obtain ⟨b, rfl, hB, q⟩ := h
    refine ⟨_, (pss_one (ps_ret (pe_call (ok_law_ofL T) (hr.mono (by decide)) (by rfl) T.d__law_of.g T.d__law_of.F.kp T.d__law_of.b .nil pass0 (pa_cons (pv 0) (pa_cons (pe_lst (pa_cons (pe_un un_neg pe_int) (pa_cons (pe_op op_add (pe_op op_pow pe_int pe_int) pe_int) (pa_cons pe_bl (pa_cons pe_bl (pa_cons pe_str (pa_cons (pe_lst (pa_cons pe_int pa_nil)) (pa_cons (pe_tup (pa_cons pe_int pa_nil)) (pa_cons (pe_un un_neg (pe_op op_pow pe_int pe_int)) pa_nil))))))))) pa_nil))))), ?_⟩
    have c6 : CPow 10 6 := ⟨by decide, by decide, by decide⟩
    have c9 : CPow 10 9 := ⟨by decide, by decide, by decide⟩
    have h : Ev1 b _ _ H (.o badSh) := e_ofL (n_cons (e_var (i := 0) (σ := L2.start N_law_bad_number [.ref b]) rfl rfl) (n_cons (e_lst (n_cons (e_neg e_c) (n_cons (e_add (e_pow e_c e_c c6) e_c) (n_cons e_c (n_cons e_c (n_cons e_c (n_cons (e_lst (n_cons e_c n_nil) (by decide)) (n_cons (e_tup (n_cons e_c n_nil) (by decide)) (n_cons (e_neg (e_pow e_c e_c c9)) n_nil)))))))) (Nat.le_of_ble_eq_true rfl)) n_nil)) (by decide) (by decide)
    exact h H (Go.refl hB) _ fun v H' g i => q v H' g i
end
end Rd
set_option maxHeartbeats 4000000
namespace Rd
open PySem PySem.Spec PyProof.Rows L2 L2H HotX
/-! ## what steps and trains are asked, by shapes -/
theorem is_consts {b : Addr} {H : Hp} : ∀ {xs : List V}, IsAll b H (xs.map Sh.c) xs
  | [] => rfl
  | _ :: _ => ⟨_, _, rfl, rfl, is_consts⟩
def lastI (z : Row) : Int := z.is.getLast?.getD 0
theorem last_some {z : Row} (h : z.ok = true) : z.is.getLast? = some (lastI z) := by
  have l := (Row.len h).1
  unfold lastI
  cases e : z.is.getLast? with
  | none => rw [List.getLast?_eq_none_iff] at e; rw [e] at l; simp at l
  | some i => rfl
def rowB (z y : Row) : Bool := stepB (.str z.r) (.int z.st) z.pu z.is (.str y.r) (.int y.st) y.pu y.is
section
variable {K : PySem.W.Frag} {mg : Str → Option Value} {T : Txt K mg} {b : Addr} {σ : L2.St} {H0 : Hp} {te ta tb ti : TE} {tr : TA} {z y : Row} {c d : Car} {s : Sh}
theorem e_fldS {f : Str} {x : V} (hf : T.kStep.cls = T.kStep.cls) (n : NoAttr K T.aStep f) (l : ∀ p, (stepF (.str z.r) (.int z.st) z.pu (.ref p)).lookup f = some x) (h : Ev1 b te σ H0 (stepS T z)) : Ev1 b (tFld K te f) σ H0 (.c x) := fun H g Q q => h H g _ fun v H1 g1 i1 => by
  obtain ⟨a, d, p, rfl, _, _, ea, el⟩ := is_step i1
  exact ⟨a, _, d, _, x, rfl, ea, T.kStep.cls, n, l p, q _ H1 g1 rfl⟩
theorem e_route (h : Ev1 b te σ H0 (stepS T z)) : Ev1 b (tFld K te "route") σ H0 (.c (.str z.r)) := e_fldS rfl (T.kStep.noA "route") (fun _ => rfl) h
theorem e_stop (h : Ev1 b te σ H0 (stepS T z)) : Ev1 b (tFld K te "stop") σ H0 (.c (.int z.st)) := e_fldS rfl (T.kStep.noA "stop") (fun _ => rfl) h
theorem e_public (h : Ev1 b te σ H0 (stepS T z)) : Ev1 b (tFld K te "public") σ H0 (.c z.pu) := e_fldS rfl (T.kStep.noA "public") (fun _ => rfl) h
theorem e_times (hz : z.ok = true) (h : Ev1 b te σ H0 (stepS T z)) : Ev1 b (tMethF T.sS "times" (spTimes T) te tNil) σ H0 (intsS z.is) := fun H g Q q => h H g _ fun v H1 g1 i1 => by
  obtain ⟨a, d, p, rfl, _, _, ea, el⟩ := is_step i1
  exact ⟨a, _, d, _, rfl, rfl, ea, rfl, a, _, _, _, _, rfl, stepAt_of hz ea el, fun l nl => q _ _ (g1.new nl) ⟨l, _, rfl, g1.1.ne nl, upd_same, ints_all z.is⟩⟩
theorem e_arrival (hz : z.ok = true) (h : Ev1 b te σ H0 (stepS T z)) : Ev1 b (tProp T.aStep (spArr T) [] E0 te) σ H0 (.c (.int (lastI z))) := fun H g Q q => h H g _ fun v H1 g1 i1 => by
  obtain ⟨a, d, p, rfl, _, _, ea, el⟩ := is_step i1
  exact ⟨a, d, _, rfl, ea, a, _, _, _, _, _, rfl, stepAt_of hz ea el, last_some hz, q _ H1 g1 rfl⟩
theorem e_base (hz : z.ok = true) (h : Ev1 b te σ H0 (stepS T z)) : Ev1 b (tProp T.aStep (spBase T) [] E0 te) σ H0 (.c (if z.pu = .non then .int 0 else z.pu)) := fun H g Q q => h H g _ fun v H1 g1 i1 => by
  obtain ⟨a, d, p, rfl, _, _, ea, el⟩ := is_step i1
  exact ⟨a, d, _, rfl, ea, a, _, _, _, _, rfl, stepAt_of hz ea el, q _ H1 g1 rfl⟩
theorem e_reprS (hz : z.ok = true) (hn : z.r.length ≤ 1000) (h : Ev1 b te σ H0 (stepS T z)) : Ev1 b (tCB (rRepF T.sS (spSRepr T)) (tCons te tNil)) σ H0 (.c (.str ("Step(" ++ z.r ++ ")"))) := fun H g Q q => h H g _ fun v H1 g1 i1 => by
  obtain ⟨a, d, p, rfl, _, _, ea, el⟩ := is_step i1
  exact ⟨a, _, d, _, rfl, rfl, ea, a, _, _, _, _, rfl, stepAt_of hz ea el, hn, _, rfl, q _ H1 g1 rfl⟩
theorem e_eqS (hz : z.ok = true) (hy : y.ok = true) (h : Ev1 b ta σ H0 (stepS T z)) (k : Ev1 b tb σ H0 (stepS T y)) : Ev1 b (tOp (rEqF K T.sS (spSEq T)) ta tb) σ H0 (.c (.bl (rowB z y))) := fun H g Q q => h H g _ fun v H1 g1 i1 => k H1 (g.trans g1) _ fun w H2 g2 i2 => by
  obtain ⟨a, d, p, rfl, _, _, ea, el⟩ := is_step (i1.go g2)
  obtain ⟨a', d', p', rfl, _, _, ea', el'⟩ := is_step i2
  exact ⟨a, _, d, _, rfl, rfl, ea, .inl ⟨_, T.insS ea', T.kStep.self, a, _, _, _, _, _, rfl, stepAt_of hz ea el, Row.pub hz, .inr ⟨a', _, _, _, _, rfl, stepAt_of hy ea' el', Row.pub hy, _, rfl, q _ H2 (g1.trans g2) rfl⟩⟩⟩
theorem e_neS (hz : z.ok = true) (hy : y.ok = true) (h : Ev1 b ta σ H0 (stepS T z)) (k : Ev1 b tb σ H0 (stepS T y)) : Ev1 b (tOp (rNeF K T.sS (spSEq T)) ta tb) σ H0 (.c (.bl (!rowB z y))) := fun H g Q q => h H g _ fun v H1 g1 i1 => k H1 (g.trans g1) _ fun w H2 g2 i2 => by
  obtain ⟨a, d, p, rfl, _, _, ea, el⟩ := is_step (i1.go g2)
  obtain ⟨a', d', p', rfl, _, _, ea', el'⟩ := is_step i2
  exact ⟨a, _, d, _, _, rfl, rfl, ea, T.insS ea', T.kStep.self, a, _, _, _, _, _, rfl, stepAt_of hz ea el, Row.pub hz, .inr ⟨a', _, _, _, _, rfl, stepAt_of hy ea' el', Row.pub hy, _, rfl, q _ H2 (g1.trans g2) rfl⟩⟩
theorem e_eqSX {x : V} (hz : z.ok = true) (hx : isSc x = true) (h : Ev1 b ta σ H0 (stepS T z)) (k : Ev1 b tb σ H0 (.c x)) : Ev1 b (tOp (rEqF K T.sS (spSEq T)) ta tb) σ H0 (.c (.bl false)) := fun H g Q q => h H g _ fun v H1 g1 i1 => k H1 (g.trans g1) _ fun w H2 g2 i2 => by
  obtain ⟨a, d, p, rfl, _, _, ea, el⟩ := is_step (i1.go g2)
  rw [show w = x from i2]
  have kn : (["NoneType", "str", "int", "bool", "tuple", "list"] : List String).contains (tyn x) = true := Kd.known (K := K) (H := H2) (.sc hx)
  exact ⟨a, _, d, _, rfl, rfl, ea, .inl ⟨_, ty_sc hx, T.kStep.nt _ kn, a, _, _, _, _, _, rfl, stepAt_of hz ea el, Row.pub hz, .inl ⟨_, ty_sc hx, kn, _, rfl, q _ H2 (g1.trans g2) rfl⟩⟩⟩
/-! ### trains -/
theorem trainAt_of {H : Hp} {a d l : Addr} {xs : List V} (hc : c.ok = true) (e : H a = some (.ins T.aTrain d (trainF (.str c.n) (.int c.len) (.int c.out) (.ref l)))) (o : H l = some (.lst xs)) (r : IsAll b H (c.rows.map (stepS T)) xs) : TrainAt T H a (.str c.n) (.int c.len) (.int c.out) xs := by
  obtain ⟨_, _, _, l1, l6, _⟩ := Car.parts hc
  have lx := r.length
  rw [List.length_map] at lx
  exact ⟨d, l, e, o, by omega, by omega⟩
theorem e_fldT {f : Str} {x : V} (n : NoAttr K T.aTrain f) (l : ∀ p, (trainF (.str c.n) (.int c.len) (.int c.out) (.ref p)).lookup f = some x) (h : Ev1 b te σ H0 (trainS T c)) : Ev1 b (tFld K te f) σ H0 (.c x) := fun H g Q q => h H g _ fun v H1 g1 i1 => by
  obtain ⟨a, d, p, xs, rfl, _, _, ea, el, r⟩ := is_train i1
  exact ⟨a, _, d, _, x, rfl, ea, T.kTrain.cls, n, l p, q _ H1 g1 rfl⟩
theorem e_tname (h : Ev1 b te σ H0 (trainS T c)) : Ev1 b (tFld K te "name") σ H0 (.c (.str c.n)) := e_fldT (T.kTrain.noA "name") (fun _ => rfl) h
theorem e_tlength (h : Ev1 b te σ H0 (trainS T c)) : Ev1 b (tFld K te "length") σ H0 (.c (.int c.len)) := e_fldT (T.kTrain.noA "length") (fun _ => rfl) h
theorem e_tout (h : Ev1 b te σ H0 (trainS T c)) : Ev1 b (tFld K te "out") σ H0 (.c (.int c.out)) := e_fldT (T.kTrain.noA "out") (fun _ => rfl) h
theorem e_steps (hc : c.ok = true) (h : Ev1 b te σ H0 (trainS T c)) : Ev1 b (tMethF T.sT "steps" (spSteps T) te tNil) σ H0 (.l (c.rows.map (stepS T))) := fun H g Q q => h H g _ fun v H1 g1 i1 => by
  obtain ⟨a, d, p, xs, rfl, _, _, ea, el, r⟩ := is_train i1
  exact ⟨a, _, d, _, rfl, rfl, ea, rfl, a, _, _, _, _, rfl, trainAt_of hc ea el r, fun l nl => q _ _ (g1.new nl) ⟨l, _, rfl, g1.1.ne nl, upd_same, r.keep fun x o _ e => by rw [upd_ne (ne_of_none e nl)]; exact e⟩⟩
theorem e_lenT (hc : c.ok = true) (h : Ev1 b te σ H0 (trainS T c)) : Ev1 b (tCB (rLenF T.sT (spTLen T)) (tCons te tNil)) σ H0 (.c (.int c.rows.length)) := fun H g Q q => h H g _ fun v H1 g1 i1 => by
  obtain ⟨a, d, p, xs, rfl, _, _, ea, el, r⟩ := is_train i1
  have lx := r.length
  rw [List.length_map] at lx
  obtain ⟨_, _, _, l1, l6, _⟩ := Car.parts hc
  exact ⟨a, _, d, _, rfl, rfl, ea, a, _, _, _, _, rfl, trainAt_of hc ea el r, _, rfl, by omega, by omega, q _ H1 g1 (by rw [lx]; rfl)⟩
theorem e_boolT (h : Ev1 b te σ H0 (trainS T c)) : Ev1 b (tCB (rBoolF T.sT spTBool) (tCons te tNil)) σ H0 (.c (.bl true)) := fun H g Q q => h H g _ fun v H1 g1 i1 => by
  obtain ⟨a, d, p, xs, rfl, _, _, ea, el, r⟩ := is_train i1
  exact ⟨a, _, d, _, rfl, rfl, ea, a, rfl, _, rfl, q _ H1 g1 rfl⟩
theorem e_reprT (hc : c.ok = true) (h : Ev1 b te σ H0 (trainS T c)) : Ev1 b (tCB (rRepF T.sT (spTRepr T)) (tCons te tNil)) σ H0 (.c (.str ("Train(" ++ c.n ++ ", " ++ toString (c.rows.length : Int) ++ " steps)"))) := fun H g Q q => h H g _ fun v H1 g1 i1 => by
  obtain ⟨a, d, p, xs, rfl, _, _, ea, el, r⟩ := is_train i1
  have lx := r.length
  rw [List.length_map] at lx
  have hn : c.n.length ≤ 1000 := by
    have := (Car.parts hc).1
    rw [isNm_str] at this
    simp only [Bool.and_eq_true, decide_eq_true_eq] at this
    omega
  exact ⟨a, _, d, _, rfl, rfl, ea, a, _, _, _, _, rfl, trainAt_of hc ea el r, hn, _, rfl, q _ H1 g1 (by rw [lx]; rfl)⟩
theorem e_getT {j : Nat} (hc : c.ok = true) (hj : c.rows[j]? = some z) (h : Ev1 b ta σ H0 (trainS T c)) (k : Ev1 b ti σ H0 (.c (.int (j : Nat)))) : Ev1 b (tOp (rIxF T.sT (spTGet T) E0) ta ti) σ H0 (stepS T z) := fun H g Q q => h H g _ fun v H1 g1 i1 => k H1 (g.trans g1) _ fun w H2 g2 i2 => by
  obtain ⟨a, d, p, xs, rfl, _, _, ea, el, r⟩ := is_train (i1.go g2)
  have lx := r.length
  rw [List.length_map] at lx
  have hjl : j < xs.length := by rw [lx]; exact (List.getElem?_eq_some_iff.mp hj).1
  rw [show w = _ from i2]
  refine ⟨a, _, d, _, rfl, rfl, ea, a, _, _, _, _, xs, _, rfl, trainAt_of hc ea el r, .sc rfl, fun e => ?_, fun i x ei hx => ?_⟩
  · have : (decide ((0 : Int) ≤ (j : Int)) && decide ((j : Int) ≤ (xs.length : Int) - 1)) = false := e
    rw [decide_eq_true (by omega), decide_eq_true (by omega)] at this
    cases this
  · have ej : i = j := by
      have := V.int.inj ei
      omega
    subst ej
    obtain ⟨s, hs, is⟩ := r.at hx
    rw [List.getElem?_map, hj] at hs
    cases hs
    exact q _ H2 (g1.trans g2) is
/-! ### trains and lists of steps compared -/
theorem prs_of {H : Hp} : ∀ {rows : List Row} {xs ys : List V}, (∀ z, z ∈ rows → z.ok = true) → IsAll b H (rows.map (stepS T)) xs → IsAll b H (rows.map (stepS T)) ys → Prs (DStep T) xs ys H
  | [], _, _, _, h, k => by
    rw [show _ = [] from h, show _ = [] from k]
    exact Prs.nil
  | z :: rows, _, _, hz, h, k => by
    obtain ⟨v, vs, rfl, i1, r1⟩ := h
    obtain ⟨w, ws, rfl, i2, r2⟩ := k
    obtain ⟨a, d, p, rfl, _, _, ea, el⟩ := is_step i1
    obtain ⟨a', d', p', rfl, _, _, ea', el'⟩ := is_step i2
    have oz := hz z List.mem_cons_self
    exact Prs.cons (dstep_of ⟨z.r, z.st, z.pu, z.is, Row.pub oz, stepAt_of oz ea el, stepAt_of oz ea' el'⟩) (prs_of (fun y m => hz y (List.mem_cons_of_mem _ m)) r1 r2)
/-- are the rows the same, told where that is plain -/
def RowsAre (c d : Car) (e : Bool) : Prop := (c.rows = d.rows ∧ e = true) ∨ (c.rows.length ≠ d.rows.length ∧ e = false)
def carB (c d : Car) (e : Bool) : Bool := trainB c.n d.n c.len d.len e c.out d.out
theorem stepsEq_of {H : Hp} {e : Bool} {xs ys : List V} (hc : c.ok = true) (h : RowsAre c d e) (r : IsAll b H (c.rows.map (stepS T)) xs) (r' : IsAll b H (d.rows.map (stepS T)) ys) : StepsEq T H xs ys e := by
  have l1 := r.length
  have l2 := r'.length
  rw [List.length_map] at l1 l2
  rcases h with ⟨er, e1⟩ | ⟨ne, e1⟩
  · rw [← er] at r'
    exact .inr ⟨prs_of (Car.parts hc).2.2.2.2.2 r r', e1⟩
  · exact .inl ⟨by omega, e1⟩
theorem Go.ext {H H' : Hp} (h : Bag H b) (e : Ext H H') : Go b H H' := Go.of_same h e
theorem e_eqT {e : Bool} (hc : c.ok = true) (hd : d.ok = true) (he : RowsAre c d e) (h : Ev1 b ta σ H0 (trainS T c)) (k : Ev1 b tb σ H0 (trainS T d)) : Ev1 b (tOp (rEqF K T.sT (spTEq T)) ta tb) σ H0 (.c (.bl (carB c d e))) := fun H g Q q => h H g _ fun v H1 g1 i1 => k H1 (g.trans g1) _ fun w H2 g2 i2 => by
  obtain ⟨a, dd, p, xs, rfl, _, _, ea, el, r⟩ := is_train (i1.go g2)
  obtain ⟨a', dd', p', ys, rfl, _, _, ea', el', r'⟩ := is_train i2
  exact ⟨a, _, dd, _, rfl, rfl, ea, .inl ⟨_, T.insT ea', T.kTrain.self, a, _, _, _, _, _, rfl, trainAt_of hc ea el r, .inr ⟨a', _, _, _, _, e, rfl, trainAt_of hd ea' el' r', stepsEq_of hc he r r', fun H' x => ⟨_, rfl, q _ H' ((g1.trans g2).trans (Go.ext g2.1 x)) rfl⟩⟩⟩⟩
theorem e_neT {e : Bool} (hc : c.ok = true) (hd : d.ok = true) (he : RowsAre c d e) (h : Ev1 b ta σ H0 (trainS T c)) (k : Ev1 b tb σ H0 (trainS T d)) : Ev1 b (tOp (rNeF K T.sT (spTEq T)) ta tb) σ H0 (.c (.bl (!carB c d e))) := fun H g Q q => h H g _ fun v H1 g1 i1 => k H1 (g.trans g1) _ fun w H2 g2 i2 => by
  obtain ⟨a, dd, p, xs, rfl, _, _, ea, el, r⟩ := is_train (i1.go g2)
  obtain ⟨a', dd', p', ys, rfl, _, _, ea', el', r'⟩ := is_train i2
  exact ⟨a, _, dd, _, _, rfl, rfl, ea, T.insT ea', T.kTrain.self, a, _, _, _, _, _, rfl, trainAt_of hc ea el r, .inr ⟨a', _, _, _, _, e, rfl, trainAt_of hd ea' el' r', stepsEq_of hc he r r', fun H' x => ⟨_, rfl, q _ H' ((g1.trans g2).trans (Go.ext g2.1 x)) rfl⟩⟩⟩
theorem e_eqTX {x : V} (hc : c.ok = true) (hx : isSc x = true) (h : Ev1 b ta σ H0 (trainS T c)) (k : Ev1 b tb σ H0 (.c x)) : Ev1 b (tOp (rEqF K T.sT (spTEq T)) ta tb) σ H0 (.c (.bl false)) := fun H g Q q => h H g _ fun v H1 g1 i1 => k H1 (g.trans g1) _ fun w H2 g2 i2 => by
  obtain ⟨a, dd, p, xs, rfl, _, _, ea, el, r⟩ := is_train (i1.go g2)
  rw [show w = x from i2]
  have kn : (["NoneType", "str", "int", "bool", "tuple", "list"] : List String).contains (tyn x) = true := Kd.known (K := K) (H := H2) (.sc hx)
  exact ⟨a, _, dd, _, rfl, rfl, ea, .inl ⟨_, ty_sc hx, T.kTrain.nt _ kn, a, _, _, _, _, _, rfl, trainAt_of hc ea el r, .inl ⟨_, ty_sc hx, kn, _, rfl, q _ H2 (g1.trans g2) rfl⟩⟩⟩
theorem e_neLst {rows : List Row} (hz : ∀ z, z ∈ rows → z.ok = true) (h : Ev1 b ta σ H0 (.l (rows.map (stepS T)))) (k : Ev1 b tb σ H0 (.l (rows.map (stepS T)))) : Ev1 b (tOp (rLstQ (DStep T) false) ta tb) σ H0 (.c (.bl false)) := fun H g Q q => h H g _ fun v H1 g1 i1 => k H1 (g.trans g1) _ fun w H2 g2 i2 => by
  obtain ⟨p, xs, rfl, _, o, r⟩ := i1.go g2
  obtain ⟨p', ys, rfl, _, o', r'⟩ := i2
  exact ⟨p, p', xs, ys, rfl, rfl, o, o', .inr ⟨prs_of hz r r', fun H' x => q _ H' ((g1.trans g2).trans (Go.ext g2.1 x)) rfl⟩⟩
end
end Rd
set_option maxHeartbeats 4000000
namespace Rd
open PySem PySem.Spec PyProof.Rows L2 L2H HotX
/-! ## steps, asked by the law -/
mutual
/-- what stands has no part at a free address -/
theorem Is.fresh {b p : Addr} {H : Hp} (np : H p = none) : ∀ {s : Sh} {v : V}, pur s = true → Is b H s v → Is p H s v
  | .c x, v, _, h => h
  | .is q, v, _, h => h
  | .l xs, v, d, h => by
    obtain ⟨a, vs, e, n, o, r⟩ := h
    exact ⟨a, vs, e, (fun z => by rw [z, np] at o; cases o), o, IsAll.fresh np (show purs xs = true from d) r⟩
  | .t xs, v, d, h => by
    obtain ⟨a, vs, e, n, o, r⟩ := h
    exact ⟨a, vs, e, (fun z => by rw [z, np] at o; cases o), o, IsAll.fresh np (show purs xs = true from d) r⟩
  | .o xs, v, d, h => by cases d
  | .m C ns xs, v, d, h => by
    obtain ⟨a, dd, vs, e, n, o, l, r⟩ := h
    exact ⟨a, dd, vs, e, (fun z => by rw [z, np] at o; cases o), o, l, IsAll.fresh np (show purs xs = true from d) r⟩
theorem IsAll.fresh {b p : Addr} {H : Hp} (np : H p = none) : ∀ {ss : List Sh} {vs : List V}, purs ss = true → IsAll b H ss vs → IsAll p H ss vs
  | [], _, _, h => h
  | s :: r, _, d, h => by
    obtain ⟨d1, d2⟩ := Bool.and_eq_true_iff.mp (show (pur s && purs r) = true from d)
    obtain ⟨v, ws, e, i, q⟩ := h
    exact ⟨v, ws, e, Is.fresh np d1 i, IsAll.fresh np d2 q⟩
end
theorem Is.go2 {b p : Addr} {H H' : Hp} {s : Sh} {v : V} (d : pur s = true) (g : Go b H H') (h : Is b H s v) (k : Is p H s v) : Is p H' s v := (Is.two (b := p) (c := b) g.2 d k h).1
theorem pur_row (z : Row) : pur (rowS z) = true := by
  show (true && (purs (z.is.map fun i => Sh.c (.int i)) && (true && (true && true)))) = true
  rw [purs_map (fun _ => rfl)]
  rfl
theorem det_ints {n : Nat} {is : List Int} (l : is.length ≤ 1000) : det (n + 1) (intsS is) = true := by
  show (decide ((is.map fun i => Sh.c (.int i)).length ≤ 1000) && (is.map fun i => Sh.c (.int i)).all (det n)) = true
  rw [List.length_map, decide_eq_true l, List.all_map]
  have : ∀ l : List Int, l.all (det n ∘ fun i => Sh.c (.int i)) = true := fun l => List.all_eq_true.mpr fun i _ => by cases n <;> rfl
  rw [this]
  rfl
section
variable {b : Addr} {σ : L2.St} {H0 H : Hp} {te ta tb tc : TE} {tr : TA} {s : Sh} {ss : List Sh} {K : PySem.W.Frag} {mg : Str → Option Value} {T : Txt K mg} {D : Ends} {t1 t2 : TS}
theorem e_listL (h : Ev1 b te σ H0 (.l ss)) : Ev1 b (tCB (rLOf K) (tCons te tNil)) σ H0 (.l ss) := fun H g Q q => h H g _ fun v H1 g1 i1 => by
  obtain ⟨p, xs, rfl, n, o, r⟩ := i1
  exact ⟨p, xs, rfl, .inl (SqL.of o), fun l nl => q _ _ (g1.new nl) ⟨l, xs, rfl, g1.1.ne nl, upd_same, r.keep fun x u _ e => by rw [upd_ne (ne_of_none e nl)]; exact e⟩⟩
theorem e_lenL (h : Ev1 b te σ H0 (.l ss)) : Ev1 b (tCB (fun xs H Q => ∃ p ys, xs = [V.ref p] ∧ (SqL K H p ys ∨ SqT K H p ys) ∧ Q (.int ys.length) H) (tCons te tNil)) σ H0 (.c (.int ss.length)) := fun H g Q q => h H g _ fun v H1 g1 i1 => by
  obtain ⟨p, xs, rfl, n, o, r⟩ := i1
  exact ⟨p, xs, rfl, .inl (SqL.of o), q _ H1 g1 (by rw [r.length]; rfl)⟩
theorem e_ifNone {x : V} (h : Ev1 b tc σ H0 (.c x)) (k1 : x = .non → Ev1 b ta σ H0 s) (k2 : x ≠ .non → Ev1 b tb σ H0 s) : Ev1 b (tIf (tTest (tOp (fun x y H Q => y = .non ∧ Q (.bl (decide (x = .non))) H) tc (tC .non))) ta tb) σ H0 s := fun H g Q q =>
  h H g _ fun v H1 g1 i1 => by
    rw [show v = x from i1]
    refine ⟨rfl, _, rfl, ?_⟩
    by_cases e : x = .non
    · rw [decide_eq_true e]
      exact iteT (k1 e H1 (g.trans g1) _ fun w H2 g2 i2 => q w H2 (g1.trans g2) i2)
    · rw [decide_eq_false e]
      exact iteF (k2 e H1 (g.trans g1) _ fun w H2 g2 i2 => q w H2 (g1.trans g2) i2)
theorem e_ixLast {is : List Int} {i : Int} (h : Ev1 b ta σ H0 (intsS is)) (k : Ev1 b tc σ H0 (.c (.int 1))) (hi : is.getLast? = some i) : Ev1 b (tOp (rIxL K) ta (tUn (rU fun i => .int (-i)) tc)) σ H0 (.c (.int i)) := fun H g Q q =>
  h H g _ fun v H1 g1 i1 => k H1 (g.trans g1) _ fun w H2 g2 i2 => by
    obtain ⟨p, xs, rfl, n, o, r⟩ := i1.go g2
    rw [isAll_ints r] at o
    exact ⟨1, i2, p, _, -1, .int i, rfl, rfl, SqL.of o, at_last hi, q _ H2 (g1.trans g2) rfl⟩
theorem e_eqI {i j : Int} (h : Ev1 b ta σ H0 (.c (.int i))) (k : Ev1 b tb σ H0 (.c (.int j))) : Ev1 b (tOp rEq ta tb) σ H0 (.c (.bl (decide (i = j)))) := fun H g Q q =>
  h H g _ fun v H1 g1 i1 => k H1 (g.trans g1) _ fun w H2 g2 i2 => by
    rw [show v = _ from i1, show w = _ from i2]
    exact ⟨rfl, q _ H2 (g1.trans g2) (by rw [dec_intV]; rfl)⟩
theorem e_isN {x : V} (h : Ev1 b tc σ H0 (.c x)) : Ev1 b (tOp (fun x y H Q => y = .non ∧ Q (.bl (decide (x = .non))) H) tc (tC .non)) σ H0 (.c (.bl (decide (x = .non)))) := fun H g Q q =>
  h H g _ fun v H1 g1 i1 => by
    rw [show v = x from i1]
    exact ⟨rfl, q _ H1 g1 rfl⟩
theorem q_ifn (hB : Bag H b) (h : Ev1 b te σ H (.c (.bl true))) (q : ∀ H', Go b H H' → t2 D σ H') : tSeq (tIfS (tNot (tB te)) t1 tNext) t2 D σ H :=
  h H (.refl hB) _ fun v H1 g1 i1 => ⟨true, i1, iteF (q H1 g1)⟩
theorem Go.putB {H1 : Hp} {p : Addr} {o : HO} (hB : Bag H b) (g : Go b H H1) (nb : p ≠ b) (nk : ∀ a o, H a = some o → a ≠ b → p ≠ a) : Go b H (upd H1 p o) := by
  obtain ⟨c, ns, i, r, m, n, eb, hc, ec, k⟩ := hB
  have hcl : Cell H b c := ⟨_, eb⟩
  have nc : p ≠ c := nk c _ ec hc
  refine ⟨g.1.put (g.3 c hcl) nb nc, fun a u na e => ?_, fun c' h => (g.3 c' h).put nb⟩
  rw [upd_ne (nk a u e na).symm]
  exact g.2 a u na e
/-- a new list changes -/
theorem q_app (hB : Bag H b) (h : EvB b te σ H (.l ss)) (hl : ss.length ≤ 900) (x : V) (q : ∀ H', Go b H H' → D.nx σ H') : tDrop (tBM K "list" rAppend te (tCons (tC x) tNil)) D σ H :=
  h _ fun v H1 g1 i1 j1 => by
    obtain ⟨p, xs, rfl, nb, o, r⟩ := i1
    have lx := r.length
    refine ⟨.inl ⟨rfl, _, SqL.of o⟩, p, xs, x, rfl, rfl, o, small1000 (by omega), ?_⟩
    refine q _ (Go.putB hB g1 nb fun a u e na => ?_)
    obtain ⟨p', _, e', n', _⟩ := j1 a u e na
    cases e'
    exact n'
theorem q_clear (hB : Bag H b) (h : EvB b te σ H (.l ss)) (q : ∀ H', Go b H H' → D.nx σ H') : tDrop (tBM0 K "list" rClear te) D σ H :=
  h _ fun v H1 g1 i1 j1 => by
    obtain ⟨p, xs, rfl, nb, o, r⟩ := i1
    refine ⟨.inl ⟨rfl, _, SqL.of o⟩, p, xs, rfl, rfl, o, ?_⟩
    refine q _ (Go.putB hB g1 nb fun a u e na => ?_)
    obtain ⟨p', _, e', n', _⟩ := j1 a u e na
    cases e'
    exact n'
theorem evB_times {z : Row} (hz : z.ok = true) (hB : Bag H b) (h : Ev1 b te σ H (stepS T z)) : EvB b (tMethF T.sS "times" (spTimes T) te tNil) σ H (intsS z.is) := fun Q q => h H (.refl hB) _ fun v H1 g1 i1 => by
  obtain ⟨a, d, p, rfl, _, _, ea, el⟩ := is_step i1
  exact ⟨a, _, d, _, rfl, rfl, ea, rfl, a, _, _, _, _, rfl, stepAt_of hz ea el, fun l nl => q _ _ (g1.new nl) ⟨l, _, rfl, g1.1.ne nl, upd_same, ints_all z.is⟩ fun c o e n => ⟨l, _, rfl, (fun z => by rw [z, g1.2 _ _ n e] at nl; cases nl), upd_same, ints_all z.is⟩⟩
end
section
variable {b : Addr} {σ : L2.St} {H0 : Hp} {te ta tb tl : TE} {tr : TA} {tt : TT} {s s' : Sh} {ss : List Sh} {K : PySem.W.Frag}
theorem all_map {f : Sh → V} (b : Addr) (H : Hp) : ∀ (l : List Sh), IsAll b H (l.map fun i => .c (f i)) (l.map f)
  | [] => rfl
  | i :: r => ⟨f i, r.map f, rfl, rfl, all_map b H r⟩
/-- [e for x in xs], constants -/
theorem e_lcL {v : Nat} (f : Sh → V) (hl : Ev1 b tl σ H0 (.l ss)) (hn : ss.length ≤ 1000) (el : ∀ (i : Nat) s, ss[i]? = some s → ∀ H x, Go b H0 H → Is b H s x → Ev1 b te ((wipe σ [v]).set v (some x)) H (.c (f s))) : Ev1 b (tLc (iList K tl) (gName v) tYes te [v]) σ H0 (.l (ss.map fun s => .c (f s))) := fun H g Q q =>
  hl H g _ fun u H1 g1 i1 => by
    obtain ⟨a, xs, rfl, na, o, r⟩ := i1
    refine ⟨a, rfl, ⟨_, SqL.of o⟩, fun D nD => ?_⟩
    have hB := g1.1
    have nb := hB.ne nD
    have lx := r.length
    refine lc_list (K := K) (a := a) (xs := xs) (fun i H5 => Go b H1 H5 ∧ H5 D = some (.lst ((ss.take i).map f))) ⟨(Go.refl hB).put hB nD, upd_same⟩ (fun i H5 _ h => SqL.of (h.1.2 _ _ na o)) ?_ ?_
    · rintro i x H5 hx ⟨g5, eD⟩
      have hi : i < xs.length := (List.getElem?_eq_some_iff.mp hx).1
      obtain ⟨s, hs, is⟩ := r.at hx
      refine ⟨by show (((σ.set v none).set v _).set v none) = σ.set v none; rw [List.set_set, List.set_set], ?_⟩
      show te _ H5 _
      refine el i s hs H5 x (g.trans (g1.trans g5)) (is.go g5) H5 (Go.refl g5.1) _ fun y H6 g6 i6 => ⟨_, g6.2 _ _ nb eD, ?_, (g5.trans g6).put hB nD, ?_⟩
      · rw [List.length_map, List.length_take]; exact small1000 (by omega)
      · rw [upd_same, show y = f s from i6, List.take_add_one, hs, List.map_append]; rfl
    · rintro H5 ⟨g5, eD⟩
      rw [lx, List.take_length] at eD
      exact q _ H5 (g1.trans g5) ⟨D, _, rfl, nb, eD, all_map b H5 _⟩
theorem e_neD {n : Nat} {d : PyData} (h : Ev1 b ta σ H0 s) (k : Ev1 b tb σ H0 s) (hd : det n s = true) (ed : datOf s = d) (hs : SeqAt.shaped d = true) (he : PyData.eqv d d = true) : Ev1 b (tOp (rNeD K) ta tb) σ H0 (.c (.bl false)) := fun H g Q q =>
  h H g _ fun v H1 g1 i1 => k H1 (g.trans g1) _ fun w H2 g2 i2 => by
    refine ⟨d, d, ed ▸ Is.dp hd (i1.go g2), ed ▸ Is.dp hd i2, hs, hs, q _ H2 (g1.trans g2) ?_⟩
    rw [he]
    rfl
end
theorem e_rep {b : Addr} {σ : L2.St} {H0 : Hp} {te : TE} {ss : List Sh} {k : Nat} (h : Ev1 b te σ H0 (.l ss)) (l : ss.length * k ≤ 1000) (hk : k ≤ 1000) : Ev1 b (tOp rRep te (tC (.int (k : Nat)))) σ H0 (.l (List.replicate k ss).flatten) := fun H g Q q =>
  h H g _ fun v H1 g1 i1 => by
    obtain ⟨p, vs, rfl, n, o, r⟩ := i1
    refine ⟨p, k, vs, rfl, rfl, o, by omega, by omega, by rw [r.length]; exact Nat.le_of_lt (small1000 l), fun p2 np2 => ?_⟩
    refine q _ _ (g1.new np2) ⟨p2, _, rfl, g1.1.ne np2, upd_same, ?_⟩
    have r2 := r.go ((Go.refl g1.1).new (o := .lst (List.replicate (Int.toNat (k : Nat)) vs).flatten) np2)
    rw [show Int.toNat (k : Nat) = k from rfl] at r2 ⊢
    generalize upd H1 p2 (.lst (List.replicate k vs).flatten) = H2 at r2
    clear q
    induction k with
    | zero => exact rfl
    | succ k ih =>
      rw [List.replicate_succ, List.flatten_cons, List.replicate_succ, List.flatten_cons]
      refine IsAll.append r2 (ih (by rw [Nat.mul_succ] at l; omega) (by omega))
theorem q_ifOr5 {b : Addr} {σ : L2.St} {H : Hp} {t1 t2 t3 t4 t5 : TE} {D : Ends} {u1 u2 : TS} (hB : Bag H b) (h1 : Ev1 b t1 σ H (.c (.bl false))) (h2 : Ev1 b t2 σ H (.c (.bl true))) (h3 : Ev1 b t3 σ H (.c (.bl false))) (h4 : Ev1 b t4 σ H (.c (.bl false))) (h5 : Ev1 b t5 σ H (.c (.bl false)))
    (q : ∀ H', Go b H H' → u2 D σ H') : tSeq (tIfS (tOr (tTest t1) (tOr (tNot (tTest t2)) (tOr (tTest t3) (tOr (tTest t4) (tTest t5))))) u1 tNext) u2 D σ H :=
  h1 H (.refl hB) _ fun v H1 g1 i1 => ⟨false, i1, iteF (h2 H1 g1 _ fun w H2 g2 i2 => ⟨true, i2, iteF (h3 H2 (g1.trans g2) _ fun x H3 g3 i3 => ⟨false, i3, iteF (h4 H3 ((g1.trans g2).trans g3) _ fun y H4 g4 i4 => ⟨false, i4, iteF (h5 H4 (((g1.trans g2).trans g3).trans g4) _ fun z H5 g5 i5 =>
    ⟨false, i5, iteF (q H5 ((((g1.trans g2).trans g3).trans g4).trans g5))⟩)⟩)⟩)⟩)⟩
theorem q_raw {σ : L2.St} {H : Hp} {te : TE} {D : Ends} {t2 : TS} {i : Nat} (h : te σ H fun v H' => t2 D (σ.set i (some v)) H') : tSeq (tAsg te (gName i)) t2 D σ H := h
theorem row_raw {b : Addr} {H : Hp} {z : Row} {v : V} (h : Is b H (rowS z) v) : ∃ p l, v = .ref p ∧ p ≠ b ∧ l ≠ b ∧ H p = some (.tup [.str z.r, .ref l, .int z.st, z.pu]) ∧ H l = some (.lst (z.is.map V.int)) := by
  obtain ⟨p, ws, rfl, np, o, v1, w1, rfl, e1, v2, w2, rfl, ⟨l, ys, e2, nl, ol, rl⟩, v3, w3, rfl, e3, r⟩ := h
  obtain ⟨v4, rfl, e4⟩ := is1 r
  rw [isAll_ints rl] at ol
  rw [show v1 = _ from e1, e2, show v3 = _ from e3, show v4 = _ from e4] at o
  exact ⟨p, l, rfl, np, nl, o, ol⟩
/-- the last number is one more -/
def bump (is : List Int) : List Int := is.dropLast ++ [is.getLast?.getD 0 + 1]
theorem bump_of {ys : List Int} {x : Int} : bump (ys ++ [x]) = ys ++ [x + 1] := by
  unfold bump
  simp
theorem rise_bump : ∀ (ys : List Int) (l x : Int), x ≤ 999999 → riseB l ((ys ++ [x]).map V.int) = true → riseB l ((ys ++ [x + 1]).map V.int) = true
  | [], l, x, hx, h => by
    have h' : ((decide (l ≤ x) && decide (x ≤ 1000000)) && true) = true := h
    simp only [Bool.and_eq_true, decide_eq_true_eq] at h'
    show ((decide (l ≤ x + 1) && decide (x + 1 ≤ 1000000)) && true) = true
    rw [decide_eq_true (by omega), decide_eq_true (by omega)]
    rfl
  | y :: ys, l, x, hx, h => by
    have h' : ((decide (l ≤ y) && decide (y ≤ 1000000)) && riseB (y + 1) ((ys ++ [x]).map V.int)) = true := h
    rw [Bool.and_eq_true] at h'
    show ((decide (l ≤ y) && decide (y ≤ 1000000)) && riseB (y + 1) ((ys ++ [x + 1]).map V.int)) = true
    rw [h'.1, rise_bump ys _ x hx h'.2]
    rfl
theorem split_last {is : List Int} (h : 1 ≤ is.length) : ∃ ys x, is = ys ++ [x] := by
  cases e : is.getLast? with
  | none => rw [List.getLast?_eq_none_iff] at e; rw [e] at h; simp at h
  | some x =>
    obtain ⟨ys, rfl⟩ := List.getLast?_eq_some_iff.mp e
    exact ⟨ys, x, rfl⟩
theorem times_bump {is : List Int} (h : timesB (is.map V.int) = true) (k : ∀ i, i ∈ is → i ≤ 999999) : timesB ((bump is).map V.int) = true := by
  unfold timesB at h ⊢
  simp only [Bool.and_eq_true, decide_eq_true_eq, List.length_map] at h
  obtain ⟨⟨l1, l2⟩, hr⟩ := h
  obtain ⟨ys, x, rfl⟩ := split_last l1
  rw [bump_of, rise_bump ys 1 x (k x (by simp)) hr]
  simp only [List.length_map, List.length_append, List.length_singleton] at l1 l2 ⊢
  rw [decide_eq_true (by omega), decide_eq_true (by omega)]
  rfl
theorem e_step {b : Addr} {σ : L2.St} {H0 : Hp} {tr : TA} {K : PySem.W.Frag} {mg : Str → Option Value} {T : Txt K mg} {z : Row} (hz : z.ok = true) (h : EvN b tr σ H0 [rowS z]) : Ev1 b (tCall (spStepL T) [] E0 tr) σ H0 (stepS T z) := fun H g Q q =>
  h H g _ fun vs H1 g1 i1 => by
    obtain ⟨v, rfl, i2⟩ := is1 i1
    exact ⟨b, v, z, rfl, g1.1, i2, hz, fun a H2 g2 na is _ => q _ H2 (g1.trans g2) is⟩
local macro_rules | `(tactic| walk_at "ev") => `(tactic| repeat' (first
  | ((with_reducible show EvN _ tNil _ _ _); exact n_nil)
  | ((with_reducible show EvN _ (tCons _ _) _ _ _); apply n_cons)
  | ((with_reducible show Ev1 _ (tVar _) _ _ _); (apply e_var rfl; first | assumption | exact is_c | exact rfl))
  | ((with_reducible show Ev1 _ (tC _) _ _ _); (exact e_c))
  | ((with_reducible show Ev1 _ (tLst _) _ _ _); (apply e_lst))
  | ((with_reducible show Ev1 _ (tTup _) _ _ _); (apply e_tup))
  | ((with_reducible show Ev1 _ (tFld _ _ _) _ _ _); (first | apply e_route | apply e_stop | apply e_public | apply e_tname | apply e_tlength | apply e_tout))
  | ((with_reducible show Ev1 _ (tMethF _ _ _ _ _) _ _ _); (first | apply e_times | apply e_steps))
  | ((with_reducible show Ev1 _ (tProp _ _ _ _ _) _ _ _); (first | apply e_arrival | apply e_base))
  | ((with_reducible show Ev1 _ (tIf _ _ _) _ _ _); (apply e_ifNone))
  | ((with_reducible show Ev1 _ (tOp _ _ _) _ _ _); (first | with_reducible apply e_ixLast | with_reducible apply e_ixT (j := 0) | with_reducible apply e_cats | with_reducible apply e_add | with_reducible apply e_cat))
  | ((with_reducible show Ev1 _ (tCB _ _) _ _ _); (first | with_reducible apply e_reprS | with_reducible apply e_reprT | with_reducible apply e_lens | with_reducible apply e_strI))
  | ((with_reducible show Ev1 _ (tCall _ _ _ _) _ _ _); (first | with_reducible apply e_same))
  | with_reducible assumption
  | omega
  | exact Nat.le_of_ble_eq_true rfl
  | assumption))
section
variable {P : Program} {w : World} {K : PySem.W.Frag} {mg : Str → Option Value} {base : Heap}
theorem row_ix {b : Addr} {σ : L2.St} {H : Hp} {z : Row} {v : V} (h1 : σ[1]? = some (some v)) (hv : Is b H (rowS z) v) {j : Nat} {s : Sh} (n : [.c (.str z.r), intsS z.is, .c (.int z.st), .c z.pu][j]? = some s) : Ev1 b (tOp (rIxT K) (tVar 1) (tC (.int (j : Nat)))) σ H s := e_ixT (e_var h1 hv) e_c n
theorem isSc_base {pu : V} (h : isSc pu = true) : isSc (if pu = .non then .int 0 else pu) = true := by
  by_cases e : pu = .non
  · rw [if_pos e]; rfl
  · rw [if_neg e]; exact h
theorem row_base {b : Addr} {σ : L2.St} {H : Hp} {z : Row} {v : V} (h1 : σ[1]? = some (some v)) (hv : Is b H (rowS z) v) :
    Ev1 b (tIf (tTest (tOp (fun x y H Q => y = .non ∧ Q (.bl (decide (x = .non))) H) (tOp (rIxT K) (tVar 1) (tC (.int 3))) (tC .non))) (tC (.int 0)) (tOp (rIxT K) (tVar 1) (tC (.int 3)))) σ H (.c (if z.pu = .non then .int 0 else z.pu)) :=
  e_ifNone (s := .c (if z.pu = .non then .int 0 else z.pu)) (row_ix (K := K) (j := 3) (s := .c z.pu) h1 hv rfl) (fun e => by rw [if_pos e]; exact e_c) (fun e => by rw [if_neg e]; exact row_ix (j := 3) h1 hv rfl)
abbrev rTOf (K : PySem.W.Frag) : List V → Hp → VK → Prop := fun xs H Q => ∃ p ys, xs = [V.ref p] ∧ ((SqL K H p ys ∧ ∀ l, H l = none → Q (V.ref l) (upd H l (.tup ys))) ∨ (SqT K H p ys ∧ Q (V.ref p) H))
theorem late_made (T : Txt K mg) {b p3 : Addr} {σ : L2.St} {H : Hp} {z : Row} {v : V} (hz : z.ok = true) (h1 : σ[1]? = some (some v)) (h3 : σ[3]? = some (some (.ref p3))) (w : Is b H (rowS z) v) (e3 : H p3 = some (.lst (z.is.map V.int))) {Q : VK}
    (q : ∀ a d l H', Same H H' → H a = none → H l = none → H' a = some (.ins T.aStep d (stepF (.str z.r) (.int z.st) z.pu (.ref l))) → H' l = some (.lst (z.is.map V.int)) → Q (.ref a) H') :
    tMakeK T.aStep 0 4 (spSI T) (fun vs zs => vs ++ swap2 zs) E0 tNil (tCons (tCB (rTOf K) (tCons (tVar 3) tNil)) (tCons (tOp (rIxT K) (tVar 1) (tC (.int 0))) (tCons (tOp (rIxT K) (tVar 1) (tC (.int 2))) (tCons (tOp (rIxT K) (tVar 1) (tC (.int 3))) tNil)))) σ H Q := by
  obtain ⟨pr, lr, ev, nr, nlr, opr, olr⟩ := row_raw w
  obtain ⟨r1, r2, r3, r4⟩ := Row.parts hz
  have hl := Row.len hz
  refine ⟨.ref p3, h3, p3, _, rfl, .inl ⟨SqL.of e3, fun c nc => ?_⟩⟩
  have s6 := same_new (o := .tup (z.is.map V.int)) nc
  have sq := SqT.of (K := K) (s6 _ _ opr)
  refine ⟨v, h1, pr, _, 0, _, ev, rfl, sq, atI_nat (j := 0) rfl, ?_⟩
  refine ⟨v, h1, pr, _, 2, _, ev, rfl, sq, atI_nat (j := 2) rfl, ?_⟩
  refine ⟨v, h1, pr, _, 3, _, ev, rfl, sq, atI_nat (j := 3) rfl, rfl, rfl, ?_⟩
  have ht : TimesV K (upd H c (.tup (z.is.map V.int))) (.ref c) true (z.is.map V.int) := r1 ▸ .tup upd_same (by rw [List.length_map]; omega) (fun x m => by obtain ⟨i, _, rfl⟩ := List.mem_map.mp m; exact ⟨_, .sc rfl⟩)
  exact mk_step (T := T) (r := z.r) (st := z.st) (pu := z.pu) (ts := .ref c) (is := z.is) ht r2 r3 r4 fun a d l H' s na nl ea el => q a d l H' (s6.trans s) (none_of s6 na) (none_of s6 nl) ea el
theorem plain_made (T : Txt K mg) {b : Addr} {σ : L2.St} {H : Hp} {z : Row} {v : V} (hz : z.ok = true) (h1 : σ[1]? = some (some v)) (w : Is b H (rowS z) v) {Q : VK}
    (q : ∀ a d l H', Same H H' → H a = none → H l = none → H' a = some (.ins T.aStep d (stepF (.str z.r) (.int 0) .non (.ref l))) → H' l = some (.lst (z.is.map V.int)) → Q (.ref a) H') :
    tMake T.aStep (spSI T) [.int 0, .non] E0 (tCons (tOp (rIxT K) (tVar 1) (tC (.int 0))) (tCons (tOp (rIxT K) (tVar 1) (tC (.int 1))) tNil)) σ H Q := by
  obtain ⟨pr, lr, ev, nr, nlr, opr, olr⟩ := row_raw w
  obtain ⟨r1, r2, r3, r4⟩ := Row.parts hz
  have hl := Row.len hz
  have sq := SqT.of (K := K) opr
  refine ⟨v, h1, pr, _, 0, _, ev, rfl, sq, atI_nat (j := 0) rfl, ?_⟩
  refine ⟨v, h1, pr, _, 1, _, ev, rfl, sq, atI_nat (j := 1) rfl, ?_⟩
  have ht : TimesV K H (.ref lr) true (z.is.map V.int) := r1 ▸ .lst olr (by rw [List.length_map]; omega) (fun x m => by obtain ⟨i, _, rfl⟩ := List.mem_map.mp m; exact ⟨_, .sc rfl⟩)
  exact mk_step (T := T) (r := z.r) (st := 0) (pu := .non) (ts := .ref lr) (is := z.is) ht (by decide) (by decide) rfl fun a d l H' s na nl ea el => q a d l H' s na nl ea el
def RowL (z : Row) : Prop := z.ok = true ∧ z.st ≤ 999999 ∧ (∀ i, i ∈ z.is → i ≤ 999999) ∧ z.r.length ≤ 900
def spSSo : Sp := fun vs H Q _ => ∃ (b : Addr) (v : V) (z : Row), vs = [.ref b, v] ∧ Bag H b ∧ Is b H (rowS z) v ∧ RowL z ∧ ∀ H', Go b H H' → Q (.bl true) H'
theorem ok_law_steps_so (T : Txt K mg) : FnOk P w K mg base CX0 9 T.d__law_steps_so.f T.d__law_steps_so.fd ["_law_bag_here", "_law_row"] spSSo := by
  refine T.d__law_steps_so.F.ok sc_law_steps_so (fun vs H Q E h => ?_) (fun cdv A outer s H vs Q E hr h => ?_)
  · obtain ⟨b, v, z, rfl, _⟩ := h
    rfl
  · obtain ⟨b, v, z, rfl, hB, hv, ⟨hz, h2, h3, h4⟩, q⟩ := h
    obtain ⟨mva, kb_times_route_stop_public⟩ := kb_a T
    obtain ⟨ds, vals_bare, kb_bare⟩ := kb_0 T
    refine ⟨_, (pss_cons (ps_asg (pe_tup (pa_cons (pe_call (ok_law_step T) (hr.mono (by decide)) (by rfl) T.d__law_step.g T.d__law_step.F.kp T.d__law_step.b .nil pass0 (pa_cons (pv 1) pa_nil)) (pa_cons (pe_callTy call_list_of (by rfl) T.z_list (by decide +kernel) (pa_cons (pe_ix ix_tup (pv 1) pe_int (fun _ _ => rfl)) pa_nil)) pa_nil))) (pg_tup rfl (pgs_cons (pg_name (i := 2) sc_law_steps_so.nd rfl (Or.inr rfl)) (pgs_cons (pg_name (i := 3) sc_law_steps_so.nd rfl (Or.inl rfl)) pgs_nil))))
      (pss_cons (ps_for PassesOwn.never rfl (pi_range1 (by rfl) T.z_range (pa_cons pe_int pa_nil)) (pg_name (i := 4) sc_law_steps_so.nd rfl (Or.inl rfl)) (pss_cons (ps_set (i := 5) sc_law_steps_so.nd rfl (Or.inl rfl) (pe_lst (pa_cons (pe_fld (pv 2) (by rfl)) (pa_cons (pe_methF0 (pv 2) T.famStep T.ms_times.M (ok_ms_times T) (hr.mono (by decide)) T.ms_times.b pass0) (pa_cons (pe_fld (pv 2) (by rfl)) (pa_cons (pe_fld (pv 2) (by rfl)) (pa_cons (pe_prop (pv 2) T.kStep.cls T.ms_arrival.P (ok_ms_arrival T) (hr.mono (by decide)) T.ms_arrival.b .nil pass0 (by rfl)) (pa_cons (pe_prop (pv 2) T.kStep.cls T.ms_base.P (ok_ms_base T) (hr.mono (by decide)) T.ms_base.b .nil pass0 (by rfl)) (pa_cons (pe_callB (call_repF (S := T.sS) (fun C h => (T.ms_repr.M C h).at_) (T.ms_repr.M _ rfl).fn (ok_ms_repr T) (hr.mono (by decide)) T.ms_repr.b pass0) (by rfl) T.z_repr (by decide +kernel) (pa_cons (pv 2) pa_nil)) pa_nil)))))))))
      (pss_cons (ps_set (i := 6) sc_law_steps_so.nd rfl (Or.inl rfl) (pe_ifExp (pt_cmpR op_isN (pe_ix ix_tup (pv 1) pe_int (fun _ _ => rfl)) pe_non (nomark _)) pe_int (pe_ix ix_tup (pv 1) pe_int (fun _ _ => rfl))))
      (pss_cons (ps_if (pt_not (pt_val (pe_call (ok_law_same T 4) (hr.mono (by decide)) (by rfl) T.d__law_same.g T.d__law_same.F.kp T.d__law_same.b .nil pass0 (pa_cons (pv 5) (pa_cons (pe_lst (pa_cons (pe_ix ix_tup (pv 1) pe_int (fun _ _ => rfl)) (pa_cons (pe_ix ix_tup (pv 1) pe_int (fun _ _ => rfl)) (pa_cons (pe_ix ix_tup (pv 1) pe_int (fun _ _ => rfl)) (pa_cons (pe_ix ix_tup (pv 1) pe_int (fun _ _ => rfl)) (pa_cons (pe_ix ix_list (pe_ix ix_tup (pv 1) pe_int (fun _ _ => rfl)) (pe_un un_neg pe_int) (fun _ _ => rfl)) (pa_cons (pv 6) (pa_cons (pe_op op_add_str (pe_op op_add_str pe_str (pe_ix ix_tup (pv 1) pe_int (fun _ _ => rfl))) pe_str) pa_nil)))))))) pa_nil))))) (pss_one (ps_ret pe_bl)) pss_nil)
      (pss_one (ps_expr (pe_bm PySem.F.plainAttrs_list PySem.F.slot_list_append PySem.F.type_list_append mt_append (pe_methF0 (pv 2) T.famStep T.ms_times.M (ok_ms_times T) (hr.mono (by decide)) T.ms_times.b pass0) (pa_cons pe_int pa_nil))))))))
      (pss_cons (ps_set (i := 7) sc_law_steps_so.nd rfl (Or.inl rfl) (pe_makeK0 T.kStep.made (ok_ms_init T) (hr.mono (by decide)) (by rfl) T.c_Step kb_times_route_stop_public passLN (pk_cons (pe_callTy call_tuple_of (by rfl) T.z_tuple (by decide +kernel) (pa_cons (pv 3) pa_nil)) (pk_cons (pe_ix ix_tup (pv 1) pe_int (fun _ _ => rfl)) (pk_cons (pe_ix ix_tup (pv 1) pe_int (fun _ _ => rfl)) (pk_cons (pe_ix ix_tup (pv 1) pe_int (fun _ _ => rfl)) pk_nil))))))
      (pss_cons (ps_asg (pe_op op_add (pe_ix ix_list (pv 3) (pe_un un_neg pe_int) (fun _ _ => rfl)) pe_int) (pg_sub (pv 3) (pe_un un_neg pe_int) set_list))
      (pss_cons (ps_set (i := 8) sc_law_steps_so.nd rfl (Or.inl rfl) (pe_lst (pa_cons (pe_call (ok_law_step T) (hr.mono (by decide)) (by rfl) T.d__law_step.g T.d__law_step.F.kp T.d__law_step.b .nil pass0 (pa_cons (pe_tup (pa_cons (pe_op op_add_str (pe_ix ix_tup (pv 1) pe_int (fun _ _ => rfl)) pe_str) (pa_cons (pe_ix ix_tup (pv 1) pe_int (fun _ _ => rfl)) (pa_cons (pe_ix ix_tup (pv 1) pe_int (fun _ _ => rfl)) (pa_cons (pe_ix ix_tup (pv 1) pe_int (fun _ _ => rfl)) pa_nil))))) pa_nil)) (pa_cons (pe_call (ok_law_step T) (hr.mono (by decide)) (by rfl) T.d__law_step.g T.d__law_step.F.kp T.d__law_step.b .nil pass0 (pa_cons (pe_tup (pa_cons (pe_ix ix_tup (pv 1) pe_int (fun _ _ => rfl)) (pa_cons (pv 3) (pa_cons (pe_ix ix_tup (pv 1) pe_int (fun _ _ => rfl)) (pa_cons (pe_ix ix_tup (pv 1) pe_int (fun _ _ => rfl)) pa_nil))))) pa_nil)) pa_nil))))
      (pss_cons (ps_set (i := 8) sc_law_steps_so.nd rfl (Or.inl rfl) (pe_op op_cat (pv 8) (pe_lst (pa_cons (pe_call (ok_law_step T) (hr.mono (by decide)) (by rfl) T.d__law_step.g T.d__law_step.F.kp T.d__law_step.b .nil pass0 (pa_cons (pe_tup (pa_cons (pe_ix ix_tup (pv 1) pe_int (fun _ _ => rfl)) (pa_cons (pe_ix ix_tup (pv 1) pe_int (fun _ _ => rfl)) (pa_cons (pe_op op_add (pe_ix ix_tup (pv 1) pe_int (fun _ _ => rfl)) pe_int) (pa_cons (pe_ix ix_tup (pv 1) pe_int (fun _ _ => rfl)) pa_nil))))) pa_nil)) (pa_cons (pe_call (ok_law_step T) (hr.mono (by decide)) (by rfl) T.d__law_step.g T.d__law_step.F.kp T.d__law_step.b .nil pass0 (pa_cons (pe_tup (pa_cons (pe_ix ix_tup (pv 1) pe_int (fun _ _ => rfl)) (pa_cons (pe_ix ix_tup (pv 1) pe_int (fun _ _ => rfl)) (pa_cons (pe_ix ix_tup (pv 1) pe_int (fun _ _ => rfl)) (pa_cons (pe_ifExp (pt_cmpR op_isN (pe_ix ix_tup (pv 1) pe_int (fun _ _ => rfl)) pe_non (nomark _)) pe_int pe_non) pa_nil))))) pa_nil)) pa_nil)))))
      (pss_cons (ps_if (PW.pt (pw_or (pt_cmpR (op_neF T.famStep T.eqStep (ok_ms_eq T) (hr.mono (by decide)) T.ms_eq.b pass0) (pv 2) (pv 7) (nomark _)) (pw_or (pt_not (pt_cmpR (op_eqF T.eqStep (ok_ms_eq T) (hr.mono (by decide)) T.ms_eq.b pass0) (pv 2) (pv 7) (nomark _))) (pw_or (pt_cmpR (op_neD hr.units) (pe_lc (own := [("_law_far", 10)]) (g := gName 10) (tt := tYes) (te := tOp (rEqF K T.sS (spSEq T)) (tVar 2) (tVar 10)) (by rfl) sc_law_steps_so.nd (pi_list (pv 8)) (blkOk_by (own := [("_law_far", 10)]) (N := N_law_steps_so) (sc := defScope s_law_steps_so) (by decide +kernel)) (fun _ _ _ _ _ => (pg_name (i := 10) sc_law_steps_so.nd rfl (Or.inl rfl))) (fun _ _ _ _ _ => pts_nil) (fun _ _ _ _ _ => (pe_cmpR (op_eqF T.eqStep (ok_ms_eq T) (hr.mono (by decide)) T.ms_eq.b pass0) (pv 2) (pv 10) (nomark _)))) (pe_op op_rep (pe_lst (pa_cons pe_bl pa_nil)) pe_int) (nomark _)) (pw_or (pt_cmpR (op_eqF T.eqStep (ok_ms_eq T) (hr.mono (by decide)) T.ms_eq.b pass0) (pv 2) (pe_ix ix_tup (pv 1) pe_int (fun _ _ => rfl)) (nomark _)) (pw_or1 (pt_cmpR (op_eqF T.eqStep (ok_ms_eq T) (hr.mono (by decide)) T.ms_eq.b pass0) (pv 2) pe_non (nomark _)))))))) (pss_one (ps_ret pe_bl)) pss_nil)
      (pss_cons (ps_set (i := 9) sc_law_steps_so.nd rfl (Or.inl rfl) (pe_make T.kStep.made (ok_ms_init T) (hr.mono (by decide)) (by rfl) T.c_Step kb_bare vals_bare passLN (pa_cons (pe_ix ix_tup (pv 1) pe_int (fun _ _ => rfl)) (pa_cons (pe_ix ix_tup (pv 1) pe_int (fun _ _ => rfl)) pa_nil))))
      (pss_one (ps_ret (pe_call (ok_law_same T 4) (hr.mono (by decide)) (by rfl) T.d__law_same.g T.d__law_same.F.kp T.d__law_same.b .nil pass0 (pa_cons (pe_lst (pa_cons (pe_fld (pv 9) (by rfl)) (pa_cons (pe_fld (pv 9) (by rfl)) (pa_cons (pe_prop (pv 9) T.kStep.cls T.ms_base.P (ok_ms_base T) (hr.mono (by decide)) T.ms_base.b .nil pass0 (by rfl)) (pa_cons (pe_cmpR (op_eqF T.eqStep (ok_ms_eq T) (hr.mono (by decide)) T.ms_eq.b pass0) (pv 2) (pv 9) (nomark _)) pa_nil))))) (pa_cons (pe_lst (pa_cons pe_int (pa_cons pe_non (pa_cons pe_int (pa_cons (pe_and (pe_cmpR op_eq (pe_ix ix_tup (pv 1) pe_int (fun _ _ => rfl)) pe_int (nomark _)) (pe_one (pe_cmpR op_isN (pe_ix ix_tup (pv 1) pe_int (fun _ _ => rfl)) pe_non (nomark _)))) pa_nil))))) pa_nil))))))))))))), ?_⟩
    have sc := (Row.parts hz).2.2.2
    have hl := Row.len hz
    refine ⟨v, rfl, b, v, z, rfl, hB, hv, hz, fun a H1 g1 na i1 _ => ?_⟩
    refine row_ix (K := K) (j := 1) (s := intsS z.is) rfl hv rfl H1 g1 _ fun w0 H2 g2 i2 => ?_
    obtain ⟨p0, ys, rfl, n0, o0, r0⟩ := i2
    refine ⟨p0, ys, rfl, .inl (SqL.of o0), fun p3 np3 => ?_⟩
    have ey := isAll_ints r0
    subst ey
    refine ⟨by show 2 ≤ sizeLine; decide, fun t nt => ⟨t, _, rfl, SqT.of upd_same, rfl, .ref a, _, rfl, .ref p3, _, rfl, rfl, ?_⟩⟩
    have s4 : Same H2 (upd (upd H2 p3 (.lst (z.is.map V.int))) t (.tup [.ref a, .ref p3])) := (same_new np3).trans (same_new nt)
    have g4 : Go b H (upd (upd H2 p3 (.lst (z.is.map V.int))) t (.tup [.ref a, .ref p3])) := (g1.trans g2).same s4
    have e3 : (upd (upd H2 p3 (.lst (z.is.map V.int))) t (.tup [.ref a, .ref p3])) p3 = some (.lst (z.is.map V.int)) := by
      rw [upd_ne (fun z => by rw [← z, upd_same] at nt; cases nt)]
      exact upd_same
    have np3H : H p3 = none := none_go (g1.trans g2) np3
    have m1 := (i1.go g2)
    have m2 := (m1.fresh np3 (pur_step T z)).same s4
    replace m1 := m1.same s4
    have w1 := (hv.go g1).go g2
    have w2 := (w1.fresh np3 (pur_row z)).same s4
    replace w1 := w1.same s4
    have nb3 : p3 ≠ b := (g1.trans g2).1.ne np3
    generalize upd (upd H2 p3 (.lst (z.is.map V.int))) t (.tup [.ref a, .ref p3]) = H4 at g4 e3 m1 m2 w1 w2
    refine ⟨2, rfl, by decide, by decide, for_range (n := 2) (fun i σ H5 => Go b H4 H5 ∧ ∃ x4 x5 x6, σ = [some (.ref b), some v, some (.ref a), some (.ref p3), x4, x5, x6, none, none, none, none]) ⟨.refl g4.1, none, none, none, rfl⟩ ?_ ?_⟩
    · rintro i σ H5 hi ⟨g5, x4, x5, x6, rfl⟩
      have m5 := m1.go g5
      have w5 := w1.go g5
      refine q_set (b := b) (s := .l [.c (.str z.r), intsS z.is, .c (.int z.st), .c z.pu, .c (.int (lastI z)), .c (if z.pu = .non then .int 0 else z.pu), .c (.str ("Step(" ++ z.r ++ ")"))]) g5.1 (by walk_at "ev") fun y5 H6 g6 i6 => ?_
      replace m5 := m5.go g6
      replace w5 := w5.go g6
      refine q_set (b := b) g6.1 (row_base (K := K) rfl w5) fun y6 H7 g7 i7 => ?_
      replace m5 := m5.go g7
      replace w5 := w5.go g7
      replace i6 := i6.go g7
      have dt : det 4 (.l [.c (.str z.r), intsS z.is, .c (.int z.st), .c z.pu, .c (.int (lastI z)), .c (if z.pu = .non then .int 0 else z.pu), .c (.str ("Step(" ++ z.r ++ ")"))]) = true := by
        show (true && (true && (det 3 (intsS z.is) && (true && (isSc z.pu && (true && (isSc _ && (true && true)))))))) = true
        rw [det_ints (by omega), sc, isSc_base sc]
        rfl
      have l5 : (("Step(" : Str)).length = 5 := by decide
      have l1 : ((")" : Str)).length = 1 := by decide
      have due : Ev1 b _ _ H7 (.c (.bl true)) := e_same (K := K) (n := 4) (σ := [some (.ref b), some v, some (.ref a), some (.ref p3), some (.int (0 + i)), some y5, some y6, none, none, none, none]) (n_cons (e_var (i := 5) rfl i6) (n_cons (e_lst (n_cons (row_ix (K := K) (j := 0) rfl w5 rfl) (n_cons (row_ix (K := K) (j := 1) rfl w5 rfl) (n_cons (row_ix (K := K) (j := 2) rfl w5 rfl) (n_cons (row_ix (K := K) (j := 3) rfl w5 rfl)
        (n_cons (e_ixLast (K := K) (row_ix (K := K) (j := 1) rfl w5 rfl) e_c (last_some hz)) (n_cons (e_var (i := 6) rfl i7) (n_cons (e_cats (e_cats e_c (row_ix (K := K) (j := 0) rfl w5 rfl) (by rw [l5]; omega)) e_c (by rw [app_len, l5, l1]; omega)) n_nil))))))) (Nat.le_of_ble_eq_true rfl)) n_nil)) dt
      refine q_ifn (b := b) g7.1 due fun H8 g8 => ?_
      refine q_app (K := K) (b := b) g8.1 (evB_times hz g8.1 (e_var rfl (m5.go g8))) (by rw [List.length_map]; omega) (.int 0) fun H9 g9 => ?_
      exact ⟨g5.trans (g6.trans (g7.trans (g8.trans g9))), _, _, _, rfl⟩
    · rintro σ H5 ⟨g5, x4, x5, x6, rfl⟩
      obtain ⟨r1, r2, r3, r4⟩ := Row.parts hz
      have m5 := m1.go g5
      have m25 := Is.go2 (pur_step T z) g5 m1 m2
      have w5 := w1.go g5
      have w25 := Is.go2 (pur_row z) g5 w1 w2
      have e5 := g5.2 _ _ nb3 e3
      dsimp only
      refine q_raw (i := 7) ?_
      refine late_made (K := K) (σ := [some (.ref b), some v, some (.ref a), some (.ref p3), x4, x5, x6, none, none, none, none]) T hz rfl rfl w5 e5 fun a2 d2 l2 H7 s67 na2 nl2 ea2 el2 => ?_
      have g7 : Go b H5 H7 := Go.of_same g5.1 s67
      have e7 := s67 _ _ e5
      have fa : a2 ≠ b ∧ l2 ≠ b := ⟨g5.1.ne na2, g5.1.ne nl2⟩
      have f3 : a2 ≠ p3 ∧ l2 ≠ p3 := ⟨fun z => (by rw [z, e5] at na2; cases na2), fun z => (by rw [z, e5] at nl2; cases nl2)⟩
      have t1 : Is b H7 (stepS T z) (.ref a2) := step_is fa.1 fa.2 ea2 el2
      have t2 : Is p3 H7 (stepS T z) (.ref a2) := step_is f3.1 f3.2 ea2 el2
      replace m25 := m25.same s67
      replace w25 := w25.same s67
      replace m5 := m5.same s67
      replace w5 := w5.same s67
      obtain ⟨ys, x, eis⟩ := split_last hl.1
      have ll : z.is.getLast? = some x := by rw [eis]; simp
      refine ⟨.ref p3, rfl, 1, rfl, p3, _, -1, .int x, rfl, rfl, SqL.of e7, at_last ll, x, 1, rfl, rfl, .ref p3, rfl, 1, rfl, p3, _, -1, ys.length, rfl, rfl, e7, ?_, ?_⟩
      · rw [List.length_map, eis, List.length_append, List.length_singleton]
        unfold ixN
        rw [if_neg (by decide), if_pos (by omega)]
        congr 1
        omega
      have eb : (z.is.map V.int).set ys.length (.int (x + 1)) = (bump z.is).map V.int := by
        rw [eis, bump_of]
        simp
      rw [eb]
      have gm : ∀ a o, a ≠ p3 → H7 a = some o → upd H7 p3 (.lst ((bump z.is).map V.int)) a = some o := fun a o n e => by rw [upd_ne n]; exact e
      obtain ⟨m8, _⟩ := Is.two gm (pur_step T z) m5 m25
      obtain ⟨w8, _⟩ := Is.two gm (pur_row z) w5 w25
      obtain ⟨t8, _⟩ := Is.two gm (pur_step T z) t1 t2
      have g8 : Go b H (upd H7 p3 (.lst ((bump z.is).map V.int))) := Go.put hB (g4.trans (g5.trans g7)) np3H
      have p8 : Is b (upd H7 p3 (.lst ((bump z.is).map V.int))) (intsS (bump z.is)) (.ref p3) := ⟨p3, _, rfl, nb3, upd_same, ints_all _⟩
      generalize upd H7 p3 (.lst ((bump z.is).map V.int)) = H8 at m8 w8 t8 g8 p8
      dsimp only
      let z1 : Row := { z with r := z.r ++ "x" }
      let z2 : Row := { z with is := bump z.is }
      let z3 : Row := { z with st := z.st + 1 }
      let z4 : Row := { z with pu := if z.pu = .non then .int 61 else .non }
      have st1 : isNum (.int (z.st + 1)) 0 1000000 = true := by
        have : (decide (0 ≤ z.st) && decide (z.st ≤ 1000000)) = true := r2
        simp only [Bool.and_eq_true, decide_eq_true_eq] at this
        show (decide (0 ≤ z.st + 1) && decide (z.st + 1 ≤ 1000000)) = true
        rw [decide_eq_true (by omega), decide_eq_true (by omega)]
        rfl
      have p4 : pubB (if z.pu = .non then .int 61 else .non) = true ∧ isSc (if z.pu = .non then .int 61 else .non) = true := by
        by_cases e : z.pu = .non
        · rw [if_pos e]; exact ⟨by decide, rfl⟩
        · rw [if_neg e]; exact ⟨by decide, rfl⟩
      have ok_of : ∀ {y : Row}, timesB (y.is.map V.int) = true → isNum (.int y.st) 0 1000000 = true → pubB y.pu = true → isSc y.pu = true → y.ok = true := fun h1 h2 h3 h4 => by
        unfold Row.ok
        rw [h1, h2, h3, h4]
        rfl
      have o1 : z1.ok = true := ok_of r1 r2 r3 r4
      have o2 : z2.ok = true := ok_of (times_bump r1 h3) r2 r3 r4
      have o3 : z3.ok = true := ok_of r1 st1 r3 r4
      have o4 : z4.ok = true := ok_of r1 r2 p4.1 p4.2
      have f1 : rowB z z1 = false := by
        have : ¬ V.str z.r = V.str (z.r ++ "x") := fun e => by
          have := congrArg Str.length (V.str.inj e)
          rw [app_len] at this
          have : (("x" : Str)).length = 1 := by decide
          omega
        show stepB _ _ _ _ _ _ _ _ = false
        unfold stepB
        rw [decide_eq_false this]
        rfl
      have f2 : rowB z z2 = false := by
        have : ¬ z.is = bump z.is := fun e => by
          rw [eis, bump_of] at e
          have := List.append_cancel_left e
          injection this with h _
          omega
        show stepB _ _ _ _ _ _ _ _ = false
        unfold stepB
        rw [decide_eq_false this, Bool.false_and, Bool.and_false]
      have f3 : rowB z z3 = false := by
        have : ¬ V.int z.st = V.int (z.st + 1) := fun e => by have := V.int.inj e; omega
        show stepB _ _ _ _ _ _ _ _ = false
        unfold stepB
        rw [decide_eq_false this, Bool.false_and, Bool.and_false, Bool.and_false]
      have f4 : rowB z z4 = false := by
        have : ¬ z.pu = (if z.pu = .non then .int 61 else .non) := fun e => by
          by_cases h : z.pu = .non
          · rw [if_pos h] at e; rw [e] at h; cases h
          · rw [if_neg h] at e; exact h e
        show stepB _ _ _ _ _ _ _ _ = false
        unfold stepB
        rw [decide_eq_false this, Bool.and_false, Bool.and_false, Bool.and_false]
      have ff : rowB z z = true := by unfold rowB stepB; simp
      have lx : (("x" : Str)).length = 1 := by decide
      have rw8 : ∀ {H' : Hp} {σ' : L2.St} {j : Nat} {s : Sh}, Go b H8 H' → σ'[1]? = some (some v) → [.c (.str z.r), intsS z.is, .c (.int z.st), .c z.pu][j]? = some s → Ev1 b (tOp (rIxT K) (tVar 1) (tC (.int (j : Nat)))) σ' H' s := fun g h1 n => row_ix h1 (w8.go g) n
      refine q_set (b := b) (s := .l [stepS T z1, stepS T z2]) g8.1 (e_lst (n_cons (e_step o1 (n_cons (e_tup (n_cons (e_cats (rw8 (j := 0) (.refl g8.1) rfl rfl) e_c (by rw [lx]; omega)) (n_cons (rw8 (j := 1) (.refl g8.1) rfl rfl) (n_cons (rw8 (j := 2) (.refl g8.1) rfl rfl) (n_cons (rw8 (j := 3) (.refl g8.1) rfl rfl) n_nil)))) (Nat.le_of_ble_eq_true rfl)) n_nil))
        (n_cons (e_step o2 (n_cons (e_tup (n_cons (rw8 (j := 0) (.refl g8.1) rfl rfl) (n_cons (e_var (i := 3) rfl p8) (n_cons (rw8 (j := 2) (.refl g8.1) rfl rfl) (n_cons (rw8 (j := 3) (.refl g8.1) rfl rfl) n_nil)))) (Nat.le_of_ble_eq_true rfl)) n_nil)) n_nil)) (Nat.le_of_ble_eq_true rfl)) fun y8 H9 g9 i9 => ?_
      have ifp : ∀ {σ' : L2.St}, σ'[1]? = some (some v) → Ev1 b (tIf (tTest (tOp (fun x y H Q => y = .non ∧ Q (.bl (decide (x = .non))) H) (tOp (rIxT K) (tVar 1) (tC (.int 3))) (tC .non))) (tC (.int 61)) (tC .non)) σ' H9 (.c z4.pu) := fun {σ'} h1 =>
        e_ifNone (s := .c z4.pu) (rw8 (j := 3) (s := .c z.pu) g9 h1 rfl) (fun e => by show Ev1 b _ _ _ (.c (if z.pu = .non then .int 61 else .non)); rw [if_pos e]; exact e_c) (fun e => by show Ev1 b _ _ _ (.c (if z.pu = .non then .int 61 else .non)); rw [if_neg e]; exact e_c)
      refine q_set (b := b) (s := .l ([stepS T z1, stepS T z2] ++ [stepS T z3, stepS T z4])) g9.1 (e_cat (e_var (i := 8) rfl i9) (e_lst (n_cons (e_step o3 (n_cons (e_tup (n_cons (rw8 (j := 0) g9 rfl rfl) (n_cons (rw8 (j := 1) g9 rfl rfl) (n_cons (e_add (rw8 (j := 2) (s := .c (.int z.st)) g9 rfl rfl) e_c) (n_cons (rw8 (j := 3) g9 rfl rfl) n_nil)))) (Nat.le_of_ble_eq_true rfl)) n_nil))
        (n_cons (e_step o4 (n_cons (e_tup (n_cons (rw8 (j := 0) g9 rfl rfl) (n_cons (rw8 (j := 1) g9 rfl rfl) (n_cons (rw8 (j := 2) g9 rfl rfl) (n_cons (ifp rfl) n_nil)))) (Nat.le_of_ble_eq_true rfl)) n_nil)) n_nil)) (Nat.le_of_ble_eq_true rfl)) (Nat.le_of_ble_eq_true rfl)) fun y9 HA gA iA => ?_
      have g8A := g9.trans gA
      have mA := m8.go g8A
      have tA := t8.go g8A
      have oks : ∀ (i : Nat) s, [stepS T z1, stepS T z2, stepS T z3, stepS T z4][i]? = some s → ∃ y : Row, s = stepS T y ∧ y.ok = true ∧ rowB z y = false := fun i s h => by
        match i, h with
        | 0, h => cases h; exact ⟨z1, rfl, o1, f1⟩
        | 1, h => cases h; exact ⟨z2, rfl, o2, f2⟩
        | 2, h => cases h; exact ⟨z3, rfl, o3, f3⟩
        | 3, h => cases h; exact ⟨z4, rfl, o4, f4⟩
        | i + 4, h => cases h
      refine q_ifOr5 (b := b) gA.1 ?n1 ?n2 ?n3 ?n4 ?n5 fun HB gB => ?rest
      case n1 =>
        have := e_neS (K := K) (T := T) (b := b) (z := z) (y := z) (σ := (([some (.ref b), some v, some (.ref a), some (.ref p3), x4, x5, x6, some (.ref a2), none, none, none] : L2.St).set 8 (some y8)).set 8 (some y9)) hz hz (e_var (i := 2) rfl mA) (e_var (i := 7) rfl tA)
        rw [ff] at this
        exact this
      case n2 =>
        have := e_eqS (K := K) (T := T) (b := b) (z := z) (y := z) (σ := (([some (.ref b), some v, some (.ref a), some (.ref p3), x4, x5, x6, some (.ref a2), none, none, none] : L2.St).set 8 (some y8)).set 8 (some y9)) hz hz (e_var (i := 2) rfl mA) (e_var (i := 7) rfl tA)
        rw [ff] at this
        exact this
      case n3 =>
        refine e_neD (n := 4) (s := .l [.c (.bl false), .c (.bl false), .c (.bl false), .c (.bl false)]) (d := .list [.bool false, .bool false, .bool false, .bool false]) ?_ (e_rep (k := 4) (ss := [.c (.bl false)]) (e_lst (n_cons e_c n_nil) (by decide)) (by decide) (by decide)) rfl ?_ (by decide +kernel) (by decide +kernel)
        · refine e_lcL (K := K) (ss := [stepS T z1, stepS T z2, stepS T z3, stepS T z4]) (fun _ => .bl false) (e_var (i := 8) rfl iA) (Nat.le_of_ble_eq_true rfl) fun i s hs H' x g ix => ?_
          obtain ⟨y, rfl, oy, fy⟩ := oks i s hs
          have := e_eqS (K := K) (T := T) (b := b) (z := z) (y := y) (σ := (wipe ((([some (.ref b), some v, some (.ref a), some (.ref p3), x4, x5, x6, some (.ref a2), none, none, none] : L2.St).set 8 (some y8)).set 8 (some y9)) [10]).set 10 (some x)) hz oy (e_var (i := 2) rfl (mA.go g)) (e_var (i := 10) rfl ix)
          rw [fy] at this
          exact this
        · rw [datOf_l]; simp [datOf]
      case n4 => exact e_eqSX (K := K) (x := .str z.r) hz rfl (e_var (i := 2) rfl mA) (rw8 (j := 0) g8A rfl rfl)
      case n5 => exact e_eqSX (K := K) hz rfl (e_var (i := 2) rfl mA) e_c
      case rest =>
        have g8B := g8A.trans gB
        have mB := m8.go g8B
        have wB := w8.go g8B
        refine q_raw (i := 9) ?_
        refine plain_made (K := K) (z := z) T hz rfl wB fun a3 d3 l3 HC sC na3 nl3 ea3 el3 => ?_
        have gC : Go b HB HC := Go.of_same gB.1 sC
        let zp : Row := { z with st := 0, pu := .non }
        have op : zp.ok = true := ok_of r1 (show isNum (.int 0) 0 1000000 = true by decide) (show pubB .non = true by decide) rfl
        have pC : Is b HC (stepS T zp) (.ref a3) := step_is (gB.1.ne na3) (gB.1.ne nl3) ea3 el3
        have mC := mB.go gC
        have fp : rowB z zp = (decide (z.st = 0) && decide (z.pu = .non)) := by
          show stepB _ _ _ _ _ _ _ _ = _
          unfold stepB
          rw [dec_intV]
          simp [zp]
        have wC := wB.go gC
        have rwC : ∀ {σ' : L2.St} {j : Nat} {s : Sh}, σ'[1]? = some (some v) → [.c (.str z.r), intsS z.is, .c (.int z.st), .c z.pu][j]? = some s → Ev1 b (tOp (rIxT K) (tVar 1) (tC (.int (j : Nat)))) σ' HC s := fun h1 n => row_ix h1 wC n
        have eqp := e_eqS (K := K) (T := T) (b := b) (z := z) (y := zp) (σ := ((([some (.ref b), some v, some (.ref a), some (.ref p3), x4, x5, x6, some (.ref a2), none, none, none] : L2.St).set 8 (some y8)).set 8 (some y9)).set 9 (some (.ref a3))) hz op (e_var (i := 2) rfl mC) (e_var (i := 9) rfl pC)
        rw [fp] at eqp
        refine q_ret (b := b) (s := .c (.bl true)) gC.1 (e_same (s := .l [.c (.int 0), .c .non, .c (.int 0), .c (.bl (decide (z.st = 0) && decide (z.pu = .non)))]) (n_cons (e_lst (n_cons (e_stop (T := T) (z := zp) (e_var (i := 9) rfl pC)) (n_cons (e_public (T := T) (z := zp) (e_var (i := 9) rfl pC)) (n_cons (e_base (T := T) (z := zp) op (e_var (i := 9) rfl pC)) (n_cons eqp n_nil)))) (Nat.le_of_ble_eq_true rfl))
          (n_cons (e_lst (n_cons e_c (n_cons e_c (n_cons e_c (n_cons (e_and (e_eqI (rwC (j := 2) (s := .c (.int z.st)) rfl rfl) e_c) (fun _ => e_isN (rwC (j := 3) (s := .c z.pu) rfl rfl))) n_nil)))) (Nat.le_of_ble_eq_true rfl)) n_nil)) rfl) fun y HD gD iD => ?_
        rw [show y = _ from iD]
        exact q HD (g8.trans (g8B.trans (gC.trans gD)))
end
end Rd
set_option maxHeartbeats 2000000
namespace Rd
open PySem PySem.Spec PyProof.Rows L2
/-! ## a lambda is made, other defs' tables stay -/
def KeepO (P : Addr) (H H' : Hp) : Prop := ∀ a ps, a ≠ P → H a = some (.tbl ps) → H' a = some (.tbl ps)
theorem KeepO.trans {P : Addr} {H H1 H2 : Hp} (a : KeepO P H H1) (b : KeepO P H1 H2) : KeepO P H H2 := fun x ps n e => b x ps n (a x ps n e)
theorem KeepO.same {P : Addr} {H H' : Hp} (s : ∀ a o, H a = some o → H' a = some o) : KeepO P H H' := fun x ps _ e => s x _ e
theorem KeepO.put {P l : Addr} {H : Hp} {ys : List V} {o : HO} (e : H l = some (.lst ys)) : KeepO P H (upd H l o) := fun a ps _ h => by
  rw [upd_ne (fun z => by rw [z, e] at h; cases h)]
  exact h
section
variable {X : Cx} {pins : List (Addr × Obj)} {σ : L2.St} {H : Hp} {s : Shared}
/-- behind the defaults: the tail of the making -/
theorem lam_tailO {P c : Addr} {params : Arguments} {body : Expr} {scope : Scope} {pos : Pos} {dV : Value} {ds : List V} {E : Value → Shared → Prop} {Q : Value → Shared → Prop} (I : Inv X pins σ H s) (TB : LamX.TabB X.base X.mg c P) (hcode : X.env.code = .ref c)
    (hT : TabF H P (X.env.qual ++ "<lambda>")) (hfree : ∀ y ∈ scope.names, y.2 = .free → ∃ c, X.env.cells.lookup y.1 = some c) (hd : (ds = [] ∧ dV = .none) ∨ (ds ≠ [] ∧ ∃ T, dV = .ref T ∧ H T = some (.tup ds)))
    (h : ∀ (f : Addr) (H1 : Hp) (s' : Shared), Inv X pins σ H1 s' → KeepT H H1 → KeepO P H H1 → TabF H1 P (X.env.qual ++ "<lambda>") → H f = none → LamAt H1 f (X.env.qual ++ "<lambda>") params body scope (cloFrom X.env.cells scope.names []) ds → Q (.ref f) s') :
    wpAny (model X.prog X.w) X.A (makeTail "<lambda>" (X.env.qual ++ "<lambda>") params (.expr body) scope X.env dV .none none pos pos.line) Q E s := by
  obtain ⟨ps, hP, ht, ha⟩ := hT
  have bP : s.heap.BuiltinsAt X.mg P := TB.bm.keeps I.bk
  have gP : s.heap.get? P = some { cls := .none, data := .fields ps } := I.hok P _ hP
  cases hc : codeAmong pos ps.toList with
  | none =>
    refine PySem.W.kdv_makeTail (mg := X.mg) (c := c) (P := P) (ps := ps) (closure_ok hfree) I.ok.glob (I.mod.glob.keeps I.bk) hcode (TB.code.keeps I.bk) gP ht hc TB.gP bP fun c' ctv doc h' tk hx hge hlt hrec htb => ?_
    obtain ⟨c2, oc, vs, t, e2, hoc, hdt, hv⟩ := hrec
    cases e2
    have hsz : s.heap.objs.size ≤ h'.objs.size := Nat.le_trans hge (Nat.le_of_lt hlt)
    have cN : H c' = none := I.hok.fresh hge
    have I1 := inv_tabF (t' := tk) (more := #[rawInt pos.line, rawInt pos.col, .ref c']) (h' := h') I hP hx htb hge hoc
    have kT : KeepT H (upd (upd H P (.tbl (ps ++ #[rawInt pos.line, rawInt pos.col, .ref c']))) c' (.frz oc (.own c'))) := fun b o e n => by
      rw [upd_ne (ne_of_none e cN), upd_ne fun z => by subst z; rw [hP] at e; exact n ps (Option.some.inj e).symm]
      exact e
    have kO : KeepO P H (upd (upd H P (.tbl (ps ++ #[rawInt pos.line, rawInt pos.col, .ref c']))) c' (.frz oc (.own c'))) := fun b ps' nb e => by
      rw [upd_ne (ne_of_none e cN), upd_ne nb]
      exact e
    have tF : TabF (upd (upd H P (.tbl (ps ++ #[rawInt pos.line, rawInt pos.col, .ref c']))) c' (.frz oc (.own c'))) P (X.env.qual ++ "<lambda>") := by
      have eL : (ps ++ #[rawInt pos.line, rawInt pos.col, .ref c']).toList = ps.toList ++ [rawInt pos.line, rawInt pos.col, .ref c'] := by simp
      refine ⟨_, by rw [upd_ne (ne_of_none hP cN), upd_same], by rw [eL]; exact PySem.TriplesOk_snoc _ _ _ _ ht, fun p' cv hcv => ?_⟩
      rw [eL] at hcv
      rcases amongF _ ht hcv with z | z
      · obtain ⟨c0, u0, e1, e2, e3⟩ := ha p' cv z
        exact ⟨c0, u0, e1, kT _ _ e2 e3.ne, e3⟩
      · exact ⟨c', _, z, upd_same, oc, vs, t, rfl, hdt, hv⟩
    have fN : upd (upd H P (.tbl (ps ++ #[rawInt pos.line, rawInt pos.col, .ref c']))) c' (.frz oc (.own c')) h'.objs.size = none := by
      rw [upd_ne (Nat.ne_of_gt hlt), upd_ne (Nat.ne_of_gt (Nat.lt_of_lt_of_le (Heap.lt_size gP) hsz))]
      exact I.hok.fresh hsz
    have same1 := fun b o (e : upd (upd H P (.tbl (ps ++ #[rawInt pos.line, rawInt pos.col, .ref c']))) c' (.frz oc (.own c')) b = some o) => ne_of_none e fN
    have gN : (h'.push (PySem.W.kdv_obj "<lambda>" (X.env.qual ++ "<lambda>") params (.expr body) scope (cloFrom X.env.cells scope.names []) dV doc ((X.mg "__name__").getD .none) c' ctv)).get? h'.objs.size = some _ := Heap.get?_push_size _ rfl
    have I2 := I1.laid (t' := tk) (a := h'.objs.size) (o := .frz (PySem.W.kdv_obj "<lambda>" (X.env.qual ++ "<lambda>") params (.expr body) scope (cloFrom X.env.cells scope.names []) dV doc ((X.mg "__name__").getD .none) c' ctv) (.own h'.objs.size))
      (fun b u e => Heap.get?_push_of_some _ e) (Nat.le_refl _) ⟨gN, _, gN⟩
    refine h h'.objs.size _ _ I2 (kT.trans fun b o e _ => by rw [upd_ne (same1 b o e)]; exact e) (fun b ps' nb e => by have e1 := kO b ps' nb e; rw [upd_ne (same1 b _ e1)]; exact e1) (tF.same fun b o e => by rw [upd_ne (same1 b o e)]; exact e) (I.hok.fresh hsz)
      ⟨dV, doc, _, c', ctv, _, upd_same, by rw [upd_ne (Nat.ne_of_lt hlt), upd_same], ⟨oc, vs, t, rfl, hdt, hv⟩, ?_⟩
    rcases hd with hd | ⟨n, T, e, hT⟩
    · exact .inl hd
    · have e1 := kT _ _ hT fun _ z => by cases z
      exact .inr ⟨n, T, e, by rw [upd_ne (same1 _ _ e1)]; exact e1⟩
  | some cv =>
    obtain ⟨c', u', e, hu, hco⟩ := ha pos cv hc
    subst e
    refine PySem.W.kdv_makeTailHit (mg := X.mg) (c := c) (P := P) (ps := ps) (closure_ok hfree) I.ok.glob (I.mod.glob.keeps I.bk) hcode (TB.code.keeps I.bk) gP ht hc bP fun ctv doc h' tk hx hsz => ?_
    have I1 : Inv X pins σ H { s with heap := h', toks := tk } := I.kept hx
    have fN : H h'.objs.size = none := I.hok.fresh hsz
    have gN : (h'.push (PySem.W.kdv_obj "<lambda>" (X.env.qual ++ "<lambda>") params (.expr body) scope (cloFrom X.env.cells scope.names []) dV doc ((X.mg "__name__").getD .none) c' ctv)).get? h'.objs.size = some _ := Heap.get?_push_size _ rfl
    have I2 := I1.laid (t' := tk) (a := h'.objs.size) (o := .frz (PySem.W.kdv_obj "<lambda>" (X.env.qual ++ "<lambda>") params (.expr body) scope (cloFrom X.env.cells scope.names []) dV doc ((X.mg "__name__").getD .none) c' ctv) (.own h'.objs.size))
      (fun b u e => Heap.get?_push_of_some _ e) (Nat.le_refl _) ⟨gN, _, gN⟩
    have same1 : ∀ b o, H b = some o → upd H h'.objs.size (.frz (PySem.W.kdv_obj "<lambda>" (X.env.qual ++ "<lambda>") params (.expr body) scope (cloFrom X.env.cells scope.names []) dV doc ((X.mg "__name__").getD .none) c' ctv) (.own h'.objs.size)) b = some o := fun b o e => by
      rw [upd_ne (ne_of_none e fN)]; exact e
    refine h h'.objs.size _ _ I2 (fun b o e _ => same1 b o e) (fun b ps' _ e => same1 b _ e) (TabF.same ⟨ps, hP, ht, ha⟩ same1) fN ⟨dV, doc, _, c', ctv, u', upd_same, same1 _ _ hu, hco, ?_⟩
    rcases hd with hd | ⟨n, T, e, hT⟩
    · exact .inl hd
    · exact .inr ⟨n, T, e, same1 _ _ hT⟩
end
/-- lambda: e, without parameters -/
def tLam0O (P : Addr) (q : Str) (params : Arguments) (body : Expr) (scope : Scope) (cl : List (Str × Addr)) : TE := fun _ H Q => TabF H P q ∧ ∀ (f : Addr) (H1 : Hp), KeepT H H1 → KeepO P H H1 → TabF H1 P q → H f = none → LamAt H1 f q params body scope cl [] → Q (.ref f) H1
/-- lambda x = i: e -/
def tLam1O (P : Addr) (q : Str) (params : Arguments) (body : Expr) (scope : Scope) (cl : List (Str × Addr)) (i : Int) : TE := fun _ H Q => TabF H P q ∧ ∀ (f : Addr) (H1 : Hp), KeepT H H1 → KeepO P H H1 → TabF H1 P q → H f = none → LamAt H1 f q params body scope cl [.int i] → Q (.ref f) H1
section
variable {X : Cx} {P c : Addr} {params : Arguments} {body : Expr} {scope : Scope} {pos dpos : Pos} {i : Int} {j : Nat}
theorem pe_lam0O (TB : LamX.TabB X.base X.mg c P) (hcode : X.env.code = .ref c) (hfree : X.Ok → ∀ y ∈ scope.names, y.2 = .free → ∃ c, X.env.cells.lookup y.1 = some c) (hdef : defaultsOf params X.env = ([], []) := by rfl) :
    PE X (.Lambda params body scope pos) (tLam0O P (X.env.qual ++ "<lambda>") params body scope (cloFrom X.env.cells scope.names [])) := by
  refine ⟨fun pins s σ H Q I h => ?_⟩
  obtain ⟨hT, h⟩ := h
  refine PySem.W.kla_eval hdef ?_
  rw [makeFunction_eq]
  simp only [List.zip_nil_right, List.filterMap_nil, List.isEmpty_nil, if_true, pure_bind]
  exact lam_tailO I TB hcode hT (hfree I.ok) (.inl ⟨rfl, rfl⟩) fun f H1 s' I1 k1 o1 t1 n1 l1 => ⟨.ref f, H1, I1, rfl, h f H1 k1 o1 t1 n1 l1⟩
theorem pe_lam1O (TB : LamX.TabB X.base X.mg c P) (hcode : X.env.code = .ref c) (hfree : X.Ok → ∀ y ∈ scope.names, y.2 = .free → ∃ c, X.env.cells.lookup y.1 = some c) (hd : params.defaults = [.Constant (.int i) j dpos] := by rfl) (hk : params.kw_defaults = [] := by rfl) :
    PE X (.Lambda params body scope pos) (tLam1O P (X.env.qual ++ "<lambda>") params body scope (cloFrom X.env.cells scope.names []) i) := by
  refine ⟨fun pins s σ H Q I h => ?_⟩
  obtain ⟨hT, h⟩ := h
  refine PySem.W.kdv_lam (by rw [hd]; rfl) hk ?_
  rw [hd]
  refine PySem.W.kdv_all1 (thn ((pe_int (X := X) (i := i) (j := j) (pos := dpos)).run pins s σ H (fun v H1 => v = .int i ∧ H1 = H) I ⟨rfl, rfl⟩) fun u s1 ⟨v, H1, I1, r1, e1, e2⟩ => ?_)
  subst e1
  rw [e2] at I1
  refine PySem.W.kdv_all0 ?_
  rw [makeFunction_eq]
  simp only [List.zip_nil_right, List.filterMap_nil, List.isEmpty_nil, if_true, pure_bind, List.isEmpty_cons, Bool.false_eq_true, if_false]
  refine wpAny_bind (wpAny_newTextTuple ?_)
  have hN : H s1.heap.objs.size = none := I1.hok.fresh (Nat.le_refl _)
  have I2 := I1.laid (t' := s1.toks) (a := s1.heap.objs.size) (o := .tup [.int i]) (h' := s1.heap.push (PySem.W.kdv_tup [u])) (fun b u e => Heap.get?_push_of_some _ e) (Nat.le_refl _)
    ⟨by show 1 ≤ sizeLine; decide, [u], .cons r1 .nil, ⟨_, Heap.get?_push_size _ rfl, rfl, _, rfl⟩⟩
  have s1k : ∀ b o, H b = some o → upd H s1.heap.objs.size (.tup [.int i]) b = some o := fun b o e => by rw [upd_ne (ne_of_none e hN)]; exact e
  exact lam_tailO I2 TB hcode (hT.same s1k) (hfree I2.ok) (.inr ⟨by simp, _, rfl, upd_same⟩) fun f H1 s' I3 k1 o1 t1 n1 l1 => ⟨.ref f, H1, I3, rfl, h f H1 (fun b o e n => k1 b o (s1k b o e) n) (fun b ps' nb e => o1 b ps' nb (s1k b _ e)) t1 (by
    cases e : H f with
    | none => rfl
    | some o => rw [s1k _ _ e] at n1; cases n1) l1⟩
end
end Rd
set_option maxHeartbeats 4000000
namespace Rd
open PySem PySem.Spec PyProof.Rows L2 L2H HotX
/-! ## lambdas, what they hold, what asking them comes to -/
/-- a plain value: a constant, a list, a tuple -/
def Pl (H : Hp) (v : V) : Prop := isSc v = true ∨ (∃ a xs, v = .ref a ∧ H a = some (.lst xs)) ∨ ∃ a xs, v = .ref a ∧ H a = some (.tup xs)
theorem Pl.kd {K : PySem.W.Frag} {H : Hp} {v : V} (h : Pl H v) : ∃ t, Kd K H v t := by
  rcases h with h | ⟨a, xs, rfl, h⟩ | ⟨a, xs, rfl, h⟩
  · exact ⟨_, .sc h⟩
  · exact ⟨_, .lst (SqL.of h)⟩
  · exact ⟨_, .tup (SqT.of h)⟩
theorem Pl.same {H H' : Hp} {v : V} (h : Pl H v) (s : Same H H') : Pl H' v := by
  rcases h with h | ⟨a, xs, e, h⟩ | ⟨a, xs, e, h⟩
  · exact .inl h
  · exact .inr (.inl ⟨a, xs, e, s _ _ h⟩)
  · exact .inr (.inr ⟨a, xs, e, s _ _ h⟩)
theorem Pl.off {H : Hp} {v : V} {cs : List Addr} (h : Pl H v) (z : FzC H cs) : Pl (offC H cs) v := by
  rcases h with h | ⟨a, xs, e, h⟩ | ⟨a, xs, e, h⟩
  · exact .inl h
  · exact .inr (.inl ⟨a, xs, e, by rw [offC_out fun m => by obtain ⟨oc, e2⟩ := z a m; rw [h] at e2; cases e2]; exact h⟩)
  · exact .inr (.inr ⟨a, xs, e, by rw [offC_out fun m => by obtain ⟨oc, e2⟩ := z a m; rw [h] at e2; cases e2]; exact h⟩)
theorem free_ok {names : List (Str × NameKind)} {sc : Scope} {n : Nat} (h : (names.all fun y => match y.2 with | .free => decide (sc.names.lookup y.1 = some .cell) | _ => true) = true) : ∀ y ∈ names, y.2 = .free → ∃ c, (cellsFrom n sc.names []).lookup y.1 = some c := fun y hy hf => by
  have a := List.all_eq_true.mp h y hy
  rw [hf] at a
  exact cell_has (of_decide_eq_true a)
theorem cells_pw : ∀ (names : List (Str × NameKind)) (n : Nat) (acc : List (Str × Addr)), (∀ p ∈ acc, p.2 < n) → (acc.Pairwise fun x y => x.2 ≠ y.2) → (cellsFrom n names acc).Pairwise fun x y => x.2 ≠ y.2
  | [], _, _, _, h => h
  | (name, kind) :: r, n, acc, l, h => by
    unfold cellsFrom
    split
    · refine cells_pw r (n + 1) ((name, n) :: acc) (fun p hp => ?_) (List.pairwise_cons.mpr ⟨fun y hy => Nat.ne_of_gt (l y hy), h⟩)
      rcases List.mem_cons.mp hp with rfl | hp
      · exact Nat.lt_succ_self _
      · exact Nat.lt_succ_of_lt (l p hp)
    · exact cells_pw r n acc l h
theorem cells_inj {names : List (Str × NameKind)} {n : Nat} (x y : Str) (c : Addr) (h1 : (cellsFrom n names []).lookup x = some c) (h2 : (cellsFrom n names []).lookup y = some c) : x = y :=
  PySem.name_of_addr (cells_pw names n [] (fun p hp => by cases hp) .nil) (PySem.mem_of_lookup h1) (PySem.mem_of_lookup h2)
theorem FzOf.same {H Hz : Hp} {cs : List Addr} (z : FzOf H Hz cs) : Same H Hz := fun b o e => by
  rw [z.out b fun m => by rw [z.non b m] at e; cases e]
  exact e
theorem FzOf.back {H Hz H' : Hp} {cs : List Addr} (z : FzOf H Hz cs) (s : Same Hz H') : Same H (offC H' cs) := fun b o e => by
  have m : b ∉ cs := fun m => by rw [z.non b m] at e; cases e
  rw [offC_out m]
  exact s _ _ (z.same _ _ e)
/-- what is new beside the cells is no cell -/
theorem FzOf.kept {H Hz H' : Hp} {cs : List Addr} (z : FzOf H Hz cs) (s : Same Hz H') {b : Addr} {o : HO} (e : H' b = some o) (n : ∀ oc u, o ≠ .frz oc u) : offC H' cs b = some o := by
  rw [offC_out fun m => by
    obtain ⟨oc, e2⟩ := z.fz b m
    rw [s _ _ e2] at e
    cases e
    exact n _ _ rfl]
  exact e
theorem TabF.go {H H' : Hp} {b Pt : Addr} {q : Str} (hB : Bag H b) (g : Go b H H') (t : TabF H Pt q) : TabF H' Pt q := by
  obtain ⟨xs, eb⟩ := hB.some
  obtain ⟨ps, e1, e2, e3⟩ := t
  refine ⟨ps, g.2 _ _ (fun z => by rw [z, eb] at e1; cases e1) e1, e2, fun pos cv h => ?_⟩
  obtain ⟨c, u, a1, a2, a3⟩ := e3 pos cv h
  refine ⟨c, u, a1, g.2 _ _ (fun z => ?_) a2, a3⟩
  obtain ⟨oc, vs, t, e, _⟩ := a3
  rw [z, eb] at a2
  cases a2
  cases e
/-- the values of a lambda's names -/
theorem hval2 {N : List Str} {σ : L2.St} {sc : Scope} {x0 x1 : Str} {v0 v1 : V} (j0 j1 : Nat) (a0 : N[j0]? = some x0) (b0 : σ[j0]? = some (some v0)) (c0 : sc.names.lookup x0 = some .cell) (a1 : N[j1]? = some x1) (b1 : σ[j1]? = some (some v1)) (c1 : sc.names.lookup x1 = some .cell) :
    ∀ (i : Nat) (x : Str) (v : V), ([x0, x1] : List Str)[i]? = some x → ([some v0, some v1] : L2.St)[i]? = some (some v) → ∃ j : Nat, N[j]? = some x ∧ σ[j]? = some (some v) ∧ sc.names.lookup x = some .cell
  | 0, x, v, h1, h2 => by cases h1; cases h2; exact ⟨j0, a0, b0, c0⟩
  | 1, x, v, h1, h2 => by cases h1; cases h2; exact ⟨j1, a1, b1, c1⟩
  | i + 2, x, v, h1, h2 => by simp at h1
theorem hval1 {N : List Str} {σ : L2.St} {sc : Scope} {x0 : Str} {v0 : V} (j0 : Nat) (a0 : N[j0]? = some x0) (b0 : σ[j0]? = some (some v0)) (c0 : sc.names.lookup x0 = some .cell) :
    ∀ (i : Nat) (x : Str) (v : V), ([x0] : List Str)[i]? = some x → ([some v0] : L2.St)[i]? = some (some v) → ∃ j : Nat, N[j]? = some x ∧ σ[j]? = some (some v) ∧ sc.names.lookup x = some .cell
  | 0, x, v, h1, h2 => by cases h1; cases h2; exact ⟨j0, a0, b0, c0⟩
  | i + 1, x, v, h1, h2 => by simp at h1
theorem hval3 {N : List Str} {σ : L2.St} {sc : Scope} {x0 x1 x2 : Str} {v0 v1 v2 : V} (j0 j1 j2 : Nat) (a0 : N[j0]? = some x0) (b0 : σ[j0]? = some (some v0)) (c0 : sc.names.lookup x0 = some .cell) (a1 : N[j1]? = some x1) (b1 : σ[j1]? = some (some v1)) (c1 : sc.names.lookup x1 = some .cell)
    (a2 : N[j2]? = some x2) (b2 : σ[j2]? = some (some v2)) (c2 : sc.names.lookup x2 = some .cell) :
    ∀ (i : Nat) (x : Str) (v : V), ([x0, x1, x2] : List Str)[i]? = some x → ([some v0, some v1, some v2] : L2.St)[i]? = some (some v) → ∃ j : Nat, N[j]? = some x ∧ σ[j]? = some (some v) ∧ sc.names.lookup x = some .cell
  | 0, x, v, h1, h2 => by cases h1; cases h2; exact ⟨j0, a0, b0, c0⟩
  | 1, x, v, h1, h2 => by cases h1; cases h2; exact ⟨j1, a1, b1, c1⟩
  | 2, x, v, h1, h2 => by cases h1; cases h2; exact ⟨j2, a2, b2, c2⟩
  | i + 3, x, v, h1, h2 => by simp at h1
theorem hval4 {N : List Str} {σ : L2.St} {sc : Scope} {x0 x1 x2 x3 : Str} {v0 v1 v2 v3 : V} (j0 j1 j2 j3 : Nat) (a0 : N[j0]? = some x0) (b0 : σ[j0]? = some (some v0)) (c0 : sc.names.lookup x0 = some .cell) (a1 : N[j1]? = some x1) (b1 : σ[j1]? = some (some v1)) (c1 : sc.names.lookup x1 = some .cell)
    (a2 : N[j2]? = some x2) (b2 : σ[j2]? = some (some v2)) (c2 : sc.names.lookup x2 = some .cell) (a3 : N[j3]? = some x3) (b3 : σ[j3]? = some (some v3)) (c3 : sc.names.lookup x3 = some .cell) :
    ∀ (i : Nat) (x : Str) (v : V), ([x0, x1, x2, x3] : List Str)[i]? = some x → ([some v0, some v1, some v2, some v3] : L2.St)[i]? = some (some v) → ∃ j : Nat, N[j]? = some x ∧ σ[j]? = some (some v) ∧ sc.names.lookup x = some .cell
  | 0, x, v, h1, h2 => by cases h1; cases h2; exact ⟨j0, a0, b0, c0⟩
  | 1, x, v, h1, h2 => by cases h1; cases h2; exact ⟨j1, a1, b1, c1⟩
  | 2, x, v, h1, h2 => by cases h1; cases h2; exact ⟨j2, a2, b2, c2⟩
  | 3, x, v, h1, h2 => by cases h1; cases h2; exact ⟨j3, a3, b3, c3⟩
  | i + 4, x, v, h1, h2 => by simp at h1
def shortB : V → Bool
  | .str z => decide (z.length ≤ 1000)
  | _ => true
def okSh (p : V → Bool) : Sh → Bool
  | .c x => isSc x && p x && shortB x
  | .l _ => true
  | .t _ => true
  | _ => false
theorem okSh_val {p : V → Bool} (hp : ∀ a, p (.ref a) = true) {b : Addr} {H : Hp} {s : Sh} {v : V} (h : okSh p s = true) (i : Is b H s v) : p v = true ∧ Pl H v ∧ ∀ z, v = .str z → z.length ≤ 1000 := by
  cases s with
  | c x =>
    rw [show v = x from i]
    have h : (isSc x && p x && shortB x) = true := h
    rw [Bool.and_eq_true, Bool.and_eq_true] at h
    refine ⟨h.1.2, .inl h.1.1, fun z e => ?_⟩
    subst e
    exact of_decide_eq_true h.2
  | l xs => obtain ⟨q, vs, rfl, _, o, _⟩ := i; exact ⟨hp q, .inr (.inl ⟨_, _, rfl, o⟩), fun z e => nomatch e⟩
  | t xs => obtain ⟨q, vs, rfl, _, o, _⟩ := i; exact ⟨hp q, .inr (.inr ⟨_, _, rfl, o⟩), fun z e => nomatch e⟩
  | is q => cases h
  | o xs => cases h
  | m C ns fs => cases h
mutual
theorem Is.keepT {b : Addr} {H H' : Hp} (g : ∀ a o, a ≠ b → H a = some o → (∀ ps, o ≠ .tbl ps) → H' a = some o) : ∀ {s : Sh} {v : V}, Is b H s v → Is b H' s v
  | .c x, v, h => h
  | .is p, v, h => h
  | .l xs, v, h => by
    obtain ⟨p, vs, e, n, o, r⟩ := h
    exact ⟨p, vs, e, n, g _ _ n o (fun _ z => by cases z), IsAll.keepT g r⟩
  | .t xs, v, h => by
    obtain ⟨p, vs, e, n, o, r⟩ := h
    exact ⟨p, vs, e, n, g _ _ n o (fun _ z => by cases z), IsAll.keepT g r⟩
  | .o xs, v, h => IsOne.keepT g (show IsOne b H xs v from h)
  | .m C ns xs, v, h => by
    obtain ⟨a, d, vs, e, n1, o1, l, r⟩ := h
    exact ⟨a, d, vs, e, n1, g _ _ n1 o1 (fun _ z => by cases z), l, IsAll.keepT g r⟩
theorem IsAll.keepT {b : Addr} {H H' : Hp} (g : ∀ a o, a ≠ b → H a = some o → (∀ ps, o ≠ .tbl ps) → H' a = some o) : ∀ {ss : List Sh} {vs : List V}, IsAll b H ss vs → IsAll b H' ss vs
  | [], _, h => h
  | _ :: _, _, h => by
    obtain ⟨v, ws, e, r, q⟩ := h
    exact ⟨v, ws, e, Is.keepT g r, IsAll.keepT g q⟩
theorem IsOne.keepT {b : Addr} {H H' : Hp} (g : ∀ a o, a ≠ b → H a = some o → (∀ ps, o ≠ .tbl ps) → H' a = some o) : ∀ {ss : List Sh} {v : V}, IsOne b H ss v → IsOne b H' ss v
  | [], _, h => h
  | _ :: _, _, h => by
    rcases h with h | h
    · exact .inl (Is.keepT g h)
    · exact .inr (IsOne.keepT g h)
end
theorem Bag.keepT {b : Addr} {H H' : Hp} (h : Bag H b) (k : KeepT H H') : Bag H' b := by
  obtain ⟨c, ns, i, r, m, n, e, hc, ec, q⟩ := h
  exact ⟨c, ns, i, r, m, n, k _ _ e (fun _ z => by cases z), hc, k _ _ ec (fun _ z => by cases z), q⟩
theorem ev_use {b : Addr} {te : TE} {σ : L2.St} {H : Hp} {s : Sh} {Q : VK} (h : Ev1 b te σ H s) (hB : Bag H b) (q : ∀ v H', Go b H H' → Is b H' s v → Q v H') : te σ H Q := h H (.refl hB) Q q
section
variable {P : Program} {w : World} {K : PySem.W.Frag} {mg : Str → Option Value} {base : Heap}
theorem Fun.okC {x qual : Str} {st : Stmt} {f : Addr} {fd : FuncData} {N ps : List Str} {k : Nat} {sp : Sp} (F : L2.Fun K x qual st f fd) (S : FnScope N ps (defScope st)) (len : ∀ vs H Q E, sp vs H Q E → vs.length = ps.length)
    (hbody : ∀ (cdv : Value) (A : Around) (outer : List Env) (s : Shared) (H : Hp) (vs : List V) (Q : VK) (E : XK), fd.code = cdv → Room k (A.deeper (envOfC qual (defScope st) s.heap.objs.size f cdv)) → sp vs H Q E →
      ∃ t, PSs (cxOf CX0 P w K mg base N qual (defScope st) f cdv A outer s H E).nox (defBody st) t ∧ t { nx := fun _ H' => Q .non H', rt := Q } (start N vs) H) : FnOk P w K mg base CX0 (k + 1) f fd ps sp := by
  obtain ⟨oc, od, kV, doc, pm, an, cdv, ct, osl, rfl, lk, hcd⟩ := F.ex
  refine fn_of lk hcd S len fun A outer s H vs Q E hr hsp => ?_
  obtain ⟨t, h, q⟩ := hbody cdv A outer s H vs Q E rfl hr hsp
  exact ⟨t, h.nox, q⟩
end
/-- from one heap to a later one: all but the bag and tables stands -/
def KeepB (b : Addr) (H H' : Hp) : Prop := ∀ a o, a ≠ b → H a = some o → (∀ ps, o ≠ .tbl ps) → H' a = some o
theorem KeepB.trans {b : Addr} {H H1 H2 : Hp} (a : KeepB b H H1) (c : KeepB b H1 H2) : KeepB b H H2 := fun x o n e t => c x o n (a x o n e t) t
theorem KeepB.go {b : Addr} {H H1 : Hp} (g : Go b H H1) : KeepB b H H1 := fun x o n e _ => g.2 x o n e
theorem KeepB.keepT {b : Addr} {H H1 : Hp} (g : KeepT H H1) : KeepB b H H1 := fun x o _ e t => g x o e t
theorem KeepB.same {b : Addr} {H H1 : Hp} (g : Same H H1) : KeepB b H H1 := fun x o _ e _ => g x o e
theorem keeps_put {H : Hp} {l : Addr} {ys : List V} {o : HO} (e : H l = some (.lst ys)) : Keeps H (upd H l o) :=
  ⟨fun a x u h => by rw [upd_ne (fun z => by rw [z, e] at h; cases h)]; exact h, fun a xs h => by rw [upd_ne (fun z => by rw [z, e] at h; cases h)]; exact h⟩
theorem TabF.put {H : Hp} {l Pt : Addr} {q : Str} {ys : List V} {o : HO} (e : H l = some (.lst ys)) (t : TabF H Pt q) : TabF (upd H l o) Pt q := by
  obtain ⟨ps, e1, e2, e3⟩ := t
  refine ⟨ps, by rw [upd_ne (fun z => by rw [z, e] at e1; cases e1)]; exact e1, e2, fun pos cv h => ?_⟩
  obtain ⟨c, u, a1, a2, a3⟩ := e3 pos cv h
  have nl : c ≠ l := fun z => by
    obtain ⟨oc, vs, t, eu, _⟩ := a3
    rw [z, e] at a2
    cases a2
    cases eu
  exact ⟨c, u, a1, by rw [upd_ne nl]; exact a2, a3⟩
theorem KeepO.go {b P : Addr} {H H1 : Hp} (hB : Bag H b) (g : Go b H H1) : KeepO P H H1 := fun x ps _ e => g.2 _ _ (fun z => by obtain ⟨xs, eb⟩ := hB.some; rw [z, eb] at e; cases e) e
def tMethFKE (S : Addr → Prop) (m : Str) (n : Nat) (sp : Sp) (gV : List V → List V → List V) (E : XK) (ta : TE) (tk : TA) : TE := fun σ H Q => ta σ H fun x H1 => ∃ a C dx fs, x = .ref a ∧ S C ∧ H1 a = some (.ins C dx fs) ∧ fs.lookup m = none ∧ tk σ H1 fun zs H2 => zs.length = n ∧ sp (gV [x] zs) H2 Q E
section
variable {X : Cx} {CX : CXT} {k : Nat} {f : Addr} {fd : FuncData} {ps ks : List Str} {sp : Sp} {S : Addr → Prop} {m : Str} {E : XK}
variable {o e : Expr} {es : List Expr} {kws : List Keyword} {ta : TE} {t tk : TA} {apos pos : Pos} {g : List Value → List Value → List Value} {gV : List V → List V → List V}
/-- o.m(k = v, ..) -/
theorem pe_methFKE {pl : Sem Bool} (he : PE X o ta) (W : Fam X.K S) (hm : MethF X.K S m f) (F : FnOk X.prog X.w X.K X.mg X.base CX k f fd ps sp) (hr : Room k X.A) (hb : KBn X.K fd ps 1 ks g gV) (hx : Passes CX X E) (hkw : PK X kws tk)
    (hall : (backToKw pos (keywordEach kws X.env)).all (·.1.isSome) = true := by rfl) (hks : (backToKw pos (keywordEach kws X.env)).filterMap (·.1) = ks := by rfl)
    (hpl : ((backTo pos (starEach [] X.env)).any (·.1) || (backToKw pos (keywordEach kws X.env)).any (·.1.isNone)) = false := by rfl)
    (ht : eval (.Call (.Attribute o m apos) [] kws pos) X.env = (do
      let ov ← eval o X.env
      standAt apos.atName
      let (f, first) ← holding [ov] (getMethod ov m pl)
      callWith pos f first (backTo pos (starEach [] X.env)) (backToKw pos (keywordEach kws X.env))) := by rfl) :
    PE X (.Call (.Attribute o m apos) [] kws pos) (tMethFKE S m ks.length sp gV E ta tk) := by
  refine ⟨fun pins s σ H Q I h => ?_⟩
  refine PySem.W.methodCall_KW (pl := pl) (thn (he.run pins s σ H _ I h) fun u s1 ⟨x, H1, I1, rx, a, C, dx, fs, ex, hC, ea, l, q⟩ => ?_) ht
  subst ex
  obtain rfl : u = Value.ref a := rx
  refine getmeth_ok I1 ea (W.cls C hC) (hm C hC) l ?_
  refine PySem.W.callWith_KW0 (first := [.ref a]) (h₀ := X.base) I.ok.mod.kin (hm C hC).kp hall (thn (hkw.run pos pins s1 σ H1 _ I1 q) fun ws s2 ⟨zs, H2, I2, rz, l2, q2⟩ => ⟨I2.kIn, ?_⟩) hpl
  rw [hks]
  have r2 := hb.rel (vs := [V.ref a]) (us := [Value.ref a]) (.cons rfl .nil) rz
  have hl : (g [Value.ref a] ws).length = ps.length := by rw [← r2.length]; exact F.len _ _ _ _ q2
  refine wpAny_call (codeAny_mono (F.run X.A X.stack s2 H2 ⟨[Value.ref a], ks.zip ws⟩ (g [Value.ref a] ws) (gV [V.ref a] zs) Q E hr I2.env0 (hb.to _ [Value.ref a] ws I2.kIn rfl (rz.length.symm.trans l2)) r2 q2) fun r s' hq => ?_)
  cases r with
  | error e => exact hx pins σ H2 s2 e s' I2 hq
  | ok fl =>
    cases fl with
    | ret u => exact I2.after hq
    | next => exact False.elim hq
    | brk => exact False.elim hq
    | cont => exact False.elim hq
end
section
variable {P : Program} {w : World} {K : PySem.W.Frag} {mg : Str → Option Value} {base : Heap} {T : Txt K mg}
/-- what the reading of a lambda's body gives, told beside its cells -/
def lamSp (Hz : Hp) (cs : List Addr) (σl : L2.St) (tb : XK → TE) : Hp → VK → XK → Prop := fun H1 Q' E' => Same Hz H1 ∧ tb (fun cls d H2 => (∀ c ∈ cs, H2 c = none) → E' cls d (mixC H1 H2 cs)) σl (offC H1 cs) (fun v H2 => (∀ c ∈ cs, H2 c = none) → Q' v (mixC H1 H2 cs))
theorem lam_gen {k : Nat} {env : Env} {N : List Str} {σ : L2.St} {Hz : Hp} (z : FzVal env N σ Hz) (inj : ∀ x y c, env.cells.lookup x = some c → env.cells.lookup y = some c → x = y)
    {f : Addr} {q : Str} {params : Arguments} {body : Expr} {scope : Scope} {ds : List V} (hL : LamAt Hz f q params body scope (cloFrom env.cells scope.names []) ds)
    (hfree : ∀ y ∈ scope.names, y.2 = .free → ∃ c, env.cells.lookup y.1 = some c) {Nl ps : List Str} {σl : L2.St} (S : LScope Nl ps scope)
    (hval : ∀ (i : Nat) (x : Str) (v : V), Nl[i]? = some x → σl[i]? = some (some v) → ∃ j : Nat, N[j]? = some x ∧ σ[j]? = some (some v) ∧ env.scope.names.lookup x = some .cell) (hlen : σl.length = Nl.length)
    (hb0 : ds = [] → ps = [] ∧ ∀ doc pm cv ctv, bindArgs (PySem.W.kdv_fn "<lambda>" q params (.expr body) scope (cloFrom env.cells scope.names []) .none doc pm cv ctv) ⟨[], []⟩ = pure [])
    (hb1 : ds ≠ [] → ∀ (A : Addr) doc pm cv ctv (its : List Value), its.length = ds.length → ∃ kk, bindArgs (PySem.W.kdv_fn "<lambda>" q params (.expr body) scope (cloFrom env.cells scope.names []) (.ref A) doc pm cv ctv) ⟨[], []⟩ = seqItems? (.ref A) >>= kk ∧ kk (some its.toArray) = pure (ps.zip its))
    {tb : XK → TE} (hbody : ∀ (c' : Addr) (A : Around) (outer : List Env) (s : Shared) (H' : Hp) (E : XK), Room k (lCx P w K mg base Nl q scope (cloFrom env.cells scope.names []) f c' A outer s H' E).A → PE (lCx P w K mg base Nl q scope (cloFrom env.cells scope.names []) f c' A outer s H' E) body (tb E)) :
    IsLam Hz f ∧ Act P w K mg base (k + 1) Hz f (lamSp Hz ((cloFrom env.cells scope.names []).map (·.2)) σl tb) ∧ FzC Hz ((cloFrom env.cells scope.names []).map (·.2)) := by
  have cm : ∀ {n c}, (cloFrom env.cells scope.names []).lookup n = some c → env.cells.lookup n = some c := fun e => NdefX.clo_cm hfree e
  have cell : ∀ p ∈ cloFrom env.cells scope.names [], ∃ oc u, Hz p.2 = some (.frz oc (.own p.2)) ∧ oc.data = .cell u := fun p hp => by
    obtain ⟨n, c⟩ := p
    rcases cloFrom_mem hp with h | ⟨h1, h2⟩
    · cases h
    · obtain ⟨c2, h3⟩ := hfree _ h1 rfl
      have h3 : env.cells.lookup n = some c2 := h3
      rw [h3] at h2
      have h2 : c = c2 := h2
      subst h2
      exact z.cell n c h3
  refine ⟨hL.is, ?_, fun c hc => ?_⟩
  · refine lam_act (N := Nl) (ps := ps) (σ := σl) (tb := tb) hL S (fun a b c h1 h2 => inj a b c (cm h1) (cm h2)) (fun n hn hf => ?_) cell (fun i n u h1 h2 h3 => ?_) hlen hb0 hb1 hbody (fun H1 Q E kp ⟨s1, h⟩ => h)
    · obtain ⟨c, e⟩ := hfree n hn hf
      exact ⟨c, NdefX.clo_has hfree (by obtain ⟨a, b⟩ := n; cases hf; exact hn) e⟩
    · obtain ⟨j, j1, j2, j3⟩ := hval i n u h1 h2
      obtain ⟨c, e⟩ := hfree _ (PySem.mem_of_lookup h3) rfl
      obtain ⟨oc, u', e1, e2, e3⟩ := z.val j n u c j1 j2 j3 e
      exact ⟨c, oc, u', NdefX.clo_has hfree (PySem.mem_of_lookup h3) e, e1, e2, e3⟩
  · obtain ⟨p, hp, e⟩ := List.mem_map.mp hc
    subst e
    obtain ⟨oc, u, e1, _⟩ := cell p hp
    exact ⟨oc, e1⟩
variable {cs : List Addr} {k : Nat} {Hz : Hp} {f : Addr} {σl : L2.St} {tb : XK → TE}
theorem mix_same {H1 H2 : Hp} (s : Same (offC H1 cs) H2) : Same H1 (mixC H1 H2 cs) := fun b o hb => by
  by_cases m : b ∈ cs
  · rw [mixC_in m]; exact hb
  · rw [mixC_out m]; exact s _ _ (by rw [offC_out m]; exact hb)
theorem mix_new {H1 H2 : Hp} (hn : ∀ c ∈ cs, H2 c = none) {b : Addr} {o : HO} (e : H2 b = some o) : mixC H1 H2 cs b = some o := by
  rw [mixC_out fun m => by rw [hn b m] at e; cases e]
  exact e
theorem same_off {Hz H1 : Hp} (fz : FzC Hz cs) (s : Same Hz H1) : Same (offC Hz cs) (offC H1 cs) := fun b o e => by
  by_cases m : b ∈ cs
  · rw [offC_in m] at e; cases e
  · rw [offC_out m] at e ⊢; exact s _ _ e
/-- a lambda that is refused -/
theorem does_err {code : Str} {ws : List V} (g : IsLam Hz f ∧ Act P w K mg base k Hz f (lamSp Hz cs σl tb) ∧ FzC Hz cs)
    (h : ∀ H (Q : VK) (E : XK), Same (offC Hz cs) H → (∀ cls d H2, Same H H2 → ErrOf T cls d H2 code ws → E cls d H2) → tb E σl H Q) : Does P w K mg base T k Hz (.err code ws) f := by
  obtain ⟨l, a, fz⟩ := g
  refine ⟨l, _, a, fun H1 Q' E' s1 he => ⟨s1, h _ _ _ (same_off fz s1) fun cls d H2 s2 ⟨dd, nm, e1, e2, e3, e4⟩ hn => ?_⟩⟩
  exact he _ _ _ (mix_same s2) ⟨dd, nm, e1, mix_new hn e2, e3, e4⟩
theorem does_val {v : V} (g : IsLam Hz f ∧ Act P w K mg base k Hz f (lamSp Hz cs σl tb) ∧ FzC Hz cs)
    (h : ∀ H (Q : VK) (E : XK), Same (offC Hz cs) H → (∀ H2, Same H H2 → Q v H2) → tb E σl H Q) : Does P w K mg base T k Hz (.val v) f := by
  obtain ⟨l, a, fz⟩ := g
  exact ⟨l, _, a, fun H1 Q' E' s1 hq => ⟨s1, h _ _ _ (same_off fz s1) fun H2 s2 hn => hq _ (mix_same s2)⟩⟩
end
end Rd
set_option maxHeartbeats 4000000
namespace Rd
open PySem PySem.Spec PyProof.Rows L2 L2H HotX
/-! ## what the law's trains need -/
theorem IsAll.take {b : Addr} {H : Hp} : ∀ (n : Nat) {ss : List Sh} {vs : List V}, IsAll b H ss vs → IsAll b H (ss.take n) (vs.take n)
  | 0, _, _, _ => by rw [List.take_zero, List.take_zero]; rfl
  | n + 1, [], _, h => by rw [show _ = [] from h]; rfl
  | n + 1, s :: r, _, h => by
    obtain ⟨v, ws, rfl, i, q⟩ := h
    exact ⟨v, ws.take n, rfl, i, IsAll.take n q⟩
theorem cutV_to (xs : List V) (n : Nat) : cutV xs none (some (n : Int)) = xs.take n := by
  unfold cutV
  rw [HT.sIx_none, HT.sIx_nat, List.drop_zero, Nat.sub_zero]
  by_cases h : n ≤ xs.length
  · rw [Nat.min_eq_left h]
  · rw [Nat.min_eq_right (by omega), List.take_of_length_le (Nat.le_refl _), List.take_of_length_le (by omega)]
section
variable {b : Addr} {σ : L2.St} {H0 H : Hp} {te ta tb tn : TE} {tr : TA} {s : Sh} {ss : List Sh} {K : PySem.W.Frag} {mg : Str → Option Value} {T : Txt K mg} {D : Ends} {t1 t2 : TS} {c : Car} {z : Row}
theorem e_cutTo {n : Nat} (h : Ev1 b te σ H0 (.l ss)) : Ev1 b (tSl (rSlL K) te tNoPart (tPart (tC (.int (n : Nat))))) σ H0 (.l (ss.take n)) := fun H g Q q => h H g _ fun v H1 g1 i1 => by
  obtain ⟨p, xs, rfl, np, o, r⟩ := i1
  refine ⟨(n : Int), rfl, p, xs, rfl, SqL.of o, fun l nl => ?_⟩
  rw [cutV_to]
  exact q _ _ (g1.new nl) ⟨l, _, rfl, g1.1.ne nl, upd_same, (r.take n).keep fun x u _ e => by rw [upd_ne (ne_of_none e nl)]; exact e⟩
theorem e_lt {i j : Int} (h : Ev1 b ta σ H0 (.c (.int i))) (k : Ev1 b tb σ H0 (.c (.int j))) : Ev1 b (tOp (rI0 fun i j => .bl (decide (i < j))) ta tb) σ H0 (.c (.bl (decide (i < j)))) := fun H g Q q =>
  h H g _ fun v H1 g1 i1 => k H1 (g.trans g1) _ fun w H2 g2 i2 => ⟨i, j, i1, i2, q _ H2 (g1.trans g2) rfl⟩
theorem e_if {x : Bool} {tc : TE} (h : Ev1 b tc σ H0 (.c (.bl x))) (k1 : x = true → Ev1 b ta σ H0 s) (k2 : x = false → Ev1 b tb σ H0 s) : Ev1 b (tIf (tTest tc) ta tb) σ H0 s := fun H g Q q =>
  h H g _ fun v H1 g1 i1 => ⟨x, i1, ite2 (fun e => k1 e H1 (g.trans g1) _ fun w H2 g2 i2 => q w H2 (g1.trans g2) i2) (fun e => k2 (Bool.eq_false_iff.mpr e) H1 (g.trans g1) _ fun w H2 g2 i2 => q w H2 (g1.trans g2) i2)⟩
/-- [e for i in range(n)], each of what stands -/
theorem e_lcR {v n : Nat} {xs : List V} (hn : Ev1 b tn σ H0 (.c (.int (n : Nat)))) (r : IsAll b H0 ss xs) (ln : xs.length = n) (l1 : n ≤ 1000)
    (el : ∀ (i : Nat) x, xs[i]? = some x → ∀ H5, Go b H0 H5 → ∀ Q : VK, Q x H5 → te ((wipe σ [v]).set v (some (.int (0 + (i : Int))))) H5 Q) : Ev1 b (tLc (iRng1 (tCons tn tNil)) (gName v) tYes te [v]) σ H0 (.l ss) := fun H g Q q =>
  hn H g _ fun u H1 g1 i1 => by
    rw [show u = _ from i1]
    refine ⟨n, rfl, by omega, by omega, fun D nD => ?_⟩
    have hB := g1.1
    have nb := hB.ne nD
    refine lc_range (lo := 0) (n := ((n : Nat) : Int).toNat) (fun i H5 => Go b H1 H5 ∧ H5 D = some (.lst (xs.take i))) ⟨(Go.refl hB).put hB nD, upd_same⟩ ?_ ?_
    · rintro i H5 hi ⟨g5, eD⟩
      have hi : i < xs.length := by omega
      refine ⟨by show (((σ.set v none).set v _).set v none) = σ.set v none; rw [List.set_set, List.set_set], ?_⟩
      show te _ H5 _
      refine el i xs[i] (List.getElem?_eq_getElem hi) H5 (g.trans (g1.trans g5)) _ ⟨_, eD, ?_, g5.put hB nD, ?_⟩
      · rw [List.length_take]; exact small1000 (by omega)
      · rw [upd_same, List.take_add_one, List.getElem?_eq_getElem hi]; rfl
    · rintro H5 ⟨g5, eD⟩
      rw [show ((n : Nat) : Int).toNat = xs.length by omega, List.take_length] at eD
      exact q _ H5 (g1.trans g5) ⟨D, _, rfl, nb, eD, (r.go (g.trans (g1.trans g5)))⟩
theorem q_clearT (hB : Bag H b) (hc : c.ok = true) (h : Ev1 b te σ H (trainS T c)) (q : ∀ H', Go b H H' → D.nx σ H') : tDrop (tBM0 K "list" rClear (tMethF T.sT "steps" (spSteps T) te tNil)) D σ H :=
  h H (.refl hB) _ fun v H1 g1 i1 => by
    obtain ⟨a, d, p, xs, rfl, _, _, ea, el, r⟩ := is_train i1
    refine ⟨a, _, d, _, rfl, rfl, ea, rfl, a, _, _, _, _, rfl, trainAt_of hc ea el r, fun l nl => ?_⟩
    refine ⟨.inl ⟨rfl, _, SqL.of upd_same⟩, l, xs, rfl, rfl, upd_same, ?_⟩
    refine q _ (Go.putB hB (g1.new nl) (g1.1.ne nl) fun a o e na => ?_)
    exact fun z => by rw [z, g1.2 _ _ na e] at nl; cases nl
theorem e_train (hc : c.ok = true) (h : EvN b tr σ H0 [carS c]) : Ev1 b (tCall (spTrainL T) [] E0 tr) σ H0 (trainS T c) := fun H g Q q =>
  h H g _ fun vs H1 g1 i1 => by
    obtain ⟨v, rfl, i2⟩ := is1 i1
    exact ⟨b, v, c, rfl, g1.1, i2, hc, fun a H2 g2 na is => q _ H2 (g1.trans g2) is⟩
theorem q_ifF (hB : Bag H b) (h : Ev1 b te σ H (.c (.bl false))) (q : ∀ H', Go b H H' → t2 D σ H') : tSeq (tIfS (tTest te) t1 tNext) t2 D σ H :=
  h H (.refl hB) _ fun v H1 g1 i1 => ⟨false, i1, iteF (q H1 g1)⟩
theorem q_ifOr2 (hB : Bag H b) (h1 : Ev1 b ta σ H (.c (.bl true))) (h2 : Ev1 b tb σ H (.c (.bl false))) (q : ∀ H', Go b H H' → t2 D σ H') : tSeq (tIfS (tOr (tNot (tB ta)) (tTest tb)) t1 tNext) t2 D σ H :=
  h1 H (.refl hB) _ fun v H1 g1 i1 => ⟨true, i1, iteF (h2 H1 g1 _ fun w H2 g2 i2 => ⟨false, i2, iteF (q H2 (g1.trans g2))⟩)⟩
theorem q_ifOr4 {u1 u2 u3 u4 : TE} (hB : Bag H b) (h1 : Ev1 b u1 σ H (.c (.bl false))) (h2 : Ev1 b u2 σ H (.c (.bl false))) (h3 : Ev1 b u3 σ H (.c (.bl false))) (h4 : Ev1 b u4 σ H (.c (.bl false)))
    (q : ∀ H', Go b H H' → t2 D σ H') : tSeq (tIfS (tOr (tTest u1) (tOr (tTest u2) (tOr (tTest u3) (tTest u4)))) t1 tNext) t2 D σ H :=
  h1 H (.refl hB) _ fun v H1 g1 i1 => ⟨false, i1, iteF (h2 H1 g1 _ fun w H2 g2 i2 => ⟨false, i2, iteF (h3 H2 (g1.trans g2) _ fun x H3 g3 i3 => ⟨false, i3, iteF (h4 H3 ((g1.trans g2).trans g3) _ fun y H4 g4 i4 =>
    ⟨false, i4, iteF (q H4 (((g1.trans g2).trans g3).trans g4))⟩)⟩)⟩)⟩
/-- made[k] for each k -/
theorem getT_raw {a d l : Addr} {xs : List V} {j : Nat} {x : V} {Q : VK} {ta tb : TE} (hc : c.ok = true) (ea : H a = some (.ins T.aTrain d (trainF (.str c.n) (.int c.len) (.int c.out) (.ref l)))) (el : H l = some (.lst xs)) (r : IsAll b H (c.rows.map (stepS T)) xs) (hx : xs[j]? = some x)
    (h1 : ∀ Q' : VK, Q' (.ref a) H → ta σ H Q') (h2 : ∀ Q' : VK, Q' (.int (0 + (j : Int))) H → tb σ H Q') (q : Q x H) : tOp (rIxF T.sT (spTGet T) E0) ta tb σ H Q := by
  have hj : j < xs.length := (List.getElem?_eq_some_iff.mp hx).1
  refine h1 _ (h2 _ ?_)
  refine ⟨a, _, d, _, rfl, rfl, ea, a, _, _, _, _, xs, _, rfl, trainAt_of hc ea el r, .sc rfl, fun e => ?_, fun i y ei hy => ?_⟩
  · have : (decide ((0 : Int) ≤ 0 + (j : Int)) && decide (0 + (j : Int) ≤ (xs.length : Int) - 1)) = false := e
    rw [decide_eq_true (by omega), decide_eq_true (by omega)] at this
    cases this
  · have ej : i = j := by
      have := V.int.inj ei
      omega
    subst ej
    rw [hx] at hy
    cases hy
    exact q
end
theorem MD0.kw {K : PySem.W.Frag} {m qual : Str} {st : Stmt} {ps : List Str} (D : MD0 K m qual st ps) (ks : List Str)
    (h : ∀ (kV doc pm : Value) (an : Option Addr) (cdv ct : Value) (us ws : List Value), us.length = 1 → ws.length = ks.length → bindArgs (PySem.W.fnOf m qual (defArgs st) (defBody st) (defScope st) .none kV doc pm an cdv ct) ⟨us, ks.zip ws⟩ = pure (ps.zip (us ++ ws.reverse))) :
    KBn K D.fd ps 1 ks (fun us ws => us ++ ws.reverse) (fun vs zs => vs ++ zs.reverse) where
  to := fun s us ws _ l1 l2 => by
    obtain ⟨oc, od, kV, doc, pm, an, cdv, ct, osl, e, lk, hcd⟩ := D.F.ex
    rw [e]
    exact .of_eq (h kV doc pm an cdv ct us ws l1 l2)
  rel := fun r rz => r.append (vals_rev rz)
theorem kb_longer {K : PySem.W.Frag} {mg : Str → Option Value} (T : Txt K mg) : KBn K T.mt_longer.fd ["self", "by"] 1 ["by"] (fun us ws => us ++ ws.reverse) (fun vs zs => vs ++ zs.reverse) :=
  T.mt_longer.kw ["by"] fun _ _ _ _ _ _ us ws l1 l2 => match us, ws, l1, l2 with | [_], [_], _, _ => rfl
theorem e_eqZ {b : Addr} {σ : L2.St} {H0 : Hp} {ta tb : TE} {z : Str} (h : Ev1 b ta σ H0 (.c (.str z))) (k : Ev1 b tb σ H0 (.c (.str z))) : Ev1 b (tOp rEq ta tb) σ H0 (.c (.bl true)) := fun H g Q q =>
  h H g _ fun v H1 g1 i1 => k H1 (g.trans g1) _ fun w H2 g2 i2 => by
    rw [show v = _ from i1, show w = _ from i2]
    exact ⟨rfl, q _ H2 (g1.trans g2) (by rw [decide_eq_true rfl]; rfl)⟩
theorem off_keep {Hz : Hp} {cs : List Addr} (fz : FzC Hz cs) {a : Addr} {o : HO} (e : Hz a = some o) (n : ∀ oc u, o ≠ .frz oc u) : offC Hz cs a = some o := by
  rw [offC_out fun m => by obtain ⟨oc, e2⟩ := fz a m; rw [e] at e2; cases e2; exact n _ _ rfl]
  exact e
/-- what the law asks for in vain -/
def oddT (n : Nat) : List Sh := [.c (.int (-1)), .c (.int n), .c (.int (n + 5)), .c .non, .c (.bl true), .c (.bl false), .c (.str "0"), .t [.c (.int 0)], .l [.c (.int 0)], .c (.int (10 ^ (9 : Int).toNat))]
theorem oddT_all {n : Nat} (h : n ≤ 6) : ∀ s ∈ oddT n, okSh (fun v => !isNum v 0 ((n : Int) - 1)) s = true ∧ det 1 s = true := by
  have a : ((List.range 7).all fun n => (oddT n).all fun s => okSh (fun v => !isNum v 0 ((n : Int) - 1)) s && det 1 s) = true := by decide +kernel
  intro s m
  have := List.all_eq_true.mp (List.all_eq_true.mp a n (List.mem_range.mpr (by omega))) s m
  rw [Bool.and_eq_true] at this
  exact this
/-- the cars that are compared -/
def more (rows : List Row) : List Row := if rows.length < 6 then rows ++ rows.take 1 else rows.take 5
theorem more_len {rows : List Row} (h1 : 1 ≤ rows.length) (h6 : rows.length ≤ 6) : 1 ≤ (more rows).length ∧ (more rows).length ≤ 6 ∧ rows.length ≠ (more rows).length := by
  unfold more
  by_cases h : rows.length < 6
  · rw [if_pos h, List.length_append, List.length_take]; omega
  · rw [if_neg h, List.length_take]; omega
theorem more_mem {rows : List Row} {x : Row} (h : x ∈ more rows) : x ∈ rows := by
  unfold more at h
  by_cases e : rows.length < 6
  · rw [if_pos e] at h
    rcases List.mem_append.mp h with h | h
    · exact h
    · exact List.mem_of_mem_take h
  · rw [if_neg e] at h
    exact List.mem_of_mem_take h
theorem Car.of {z : Car} (h1 : isNm (.str z.n) = true) (h2 : isNum (.int z.len) 1 60 = true) (h3 : isNum (.int z.out) 1 1000000 = true) (h4 : 1 ≤ z.rows.length) (h5 : z.rows.length ≤ 6) (h6 : ∀ x, x ∈ z.rows → x.ok = true) : z.ok = true := by
  unfold Car.ok
  rw [h1, h2, h3, decide_eq_true h4, decide_eq_true h5, List.all_eq_true.mpr h6]
  rfl
theorem isNum_of {i lo hi : Int} (h1 : lo ≤ i) (h2 : i ≤ hi) : isNum (.int i) lo hi = true := by
  show (decide (lo ≤ i) && decide (i ≤ hi)) = true
  rw [decide_eq_true h1, decide_eq_true h2]
  rfl
theorem isNum_to {i lo hi : Int} (h : isNum (.int i) lo hi = true) : lo ≤ i ∧ i ≤ hi := by
  have h' : (decide (lo ≤ i) && decide (i ≤ hi)) = true := h
  simpa using h'
end Rd
set_option maxHeartbeats 4000000
namespace Rd
open PySem PySem.Spec PyProof.Rows L2 L2H HotX
/-! ## what the refusals need -/
def valS : Sh → V
  | .c x => x
  | _ => .ref 0
def plainS : Sh → Bool
  | .c x => isSc x
  | .l _ => true
  | .t _ => true
  | _ => false
/-- no times, told by the shape -/
def oddWok : Sh → Bool
  | .c x => isSc x
  | .l xs => (decide (xs.length ≤ 1000) && xs.all plainS) && !timesB (xs.map valS)
  | .t xs => (decide (xs.length ≤ 1000) && xs.all plainS) && !timesB (xs.map valS)
  | _ => false
theorem riseB_shape {b : Addr} {H : Hp} : ∀ {xs : List Sh} {vs : List V} {l : Int}, IsAll b H xs vs → xs.all plainS = true → riseB l vs = riseB l (xs.map valS)
  | [], _, _, h, _ => by rw [show _ = [] from h]; rfl
  | s :: r, _, l, h, p => by
    obtain ⟨v, ws, rfl, i, q⟩ := h
    rw [List.all_cons, Bool.and_eq_true] at p
    rw [List.map_cons]
    cases s with
    | c x =>
      rw [show v = x from i]
      clear i
      show riseB l (x :: ws) = riseB l (x :: r.map valS)
      cases x with
      | int j =>
        show ((decide (l ≤ j) && decide (j ≤ 1000000)) && riseB (j + 1) ws) = ((decide (l ≤ j) && decide (j ≤ 1000000)) && riseB (j + 1) (r.map valS))
        rw [riseB_shape q p.2]
      | _ => rfl
    | l xs => obtain ⟨a, us, rfl, _⟩ := i; rfl
    | t xs => obtain ⟨a, us, rfl, _⟩ := i; rfl
    | _ => cases p.1
section
variable {K : PySem.W.Frag} {b : Addr} {H : Hp}
theorem plain_kd {s : Sh} {v : V} (h : plainS s = true) (i : Is b H s v) : ∃ t, Kd K H v t := by
  cases s with
  | c x => rw [show v = x from i]; exact ⟨_, .sc h⟩
  | l xs => obtain ⟨a, us, rfl, _, o, _⟩ := i; exact ⟨_, .lst (SqL.of o)⟩
  | t xs => obtain ⟨a, us, rfl, _, o, _⟩ := i; exact ⟨_, .tup (SqT.of o)⟩
  | _ => cases h
theorem times_shape {xs : List Sh} {vs : List V} (r : IsAll b H xs vs) (h : ((decide (xs.length ≤ 1000) && xs.all plainS) && !timesB (xs.map valS)) = true) : vs.length ≤ 1000 ∧ timesB vs = false ∧ ∀ x, x ∈ vs → ∃ t, Kd K H x t := by
  simp only [Bool.and_eq_true, decide_eq_true_eq, Bool.not_eq_true'] at h
  obtain ⟨⟨h1, h2⟩, h3⟩ := h
  refine ⟨by rw [r.length]; exact h1, ?_, fun x m => ?_⟩
  · unfold timesB at h3 ⊢
    rw [riseB_shape r h2, r.length]
    rw [List.length_map] at h3
    exact h3
  · obtain ⟨s, ms, i⟩ := r.mem m
    exact plain_kd (List.all_eq_true.mp h2 s ms) i
theorem oddW_times {s : Sh} {v : V} (h : oddWok s = true) (i : Is b H s v) : ∃ ys, TimesV K H v false ys := by
  cases s with
  | c x => rw [show v = x from i]; exact ⟨_, .sc h⟩
  | l xs =>
    obtain ⟨a, us, rfl, _, o, r⟩ := i
    obtain ⟨h1, h2, h3⟩ := times_shape (K := K) r h
    exact ⟨us, h2 ▸ .lst o h1 h3⟩
  | t xs =>
    obtain ⟨a, us, rfl, _, o, r⟩ := i
    obtain ⟨h1, h2, h3⟩ := times_shape (K := K) r h
    exact ⟨us, h2 ▸ .tup o h1 h3⟩
  | _ => cases h
end
def oddW : List Sh := [.l [], .t [], .l [.c (.int 0)], .l [.c (.int 2), .c (.int 2)], .l [.c (.int 3), .c (.int 1)], .l [.c (.int 1), .c (.bl true)], .l [.c (.bl true)], .l [.c (.str "1")], .c .non, .c (.int 5), .c (.str "1"), .l ((rgV 1 26).map Sh.c), .l [.c (.int (10 ^ (6 : Int).toNat + 1))],
  .l [.c (.int 1), .l [.c (.int 2)]], .l [.c (.int 1), .c .non], .l [.c (.int (-3)), .c (.int 4)], .c (.str "12"), .l [.c (.int 1), .c (.int 2), .c (.int 2)]]
theorem oddW_all : ∀ s ∈ oddW, oddWok s = true ∧ det 3 s = true := by
  have h : (oddW.all fun s => oddWok s && det 3 s) = true := by decide +kernel
  exact fun s m => by have := List.all_eq_true.mp h s m; rw [Bool.and_eq_true] at this; exact this
theorem badSh_all : ∀ s ∈ badSh, okSh (fun v => !isNum v 0 1000000 && !pubB v) s = true ∧ det 3 s = true := by
  have h : (badSh.all fun s => okSh (fun v => !isNum v 0 1000000 && !pubB v) s && det 3 s) = true := by decide +kernel
  exact fun s m => by have := List.all_eq_true.mp h s m; rw [Bool.and_eq_true] at this; exact this
section
variable {b : Addr} {σ : L2.St} {H0 H : Hp} {te ta tb : TE} {tr : TA} {s : Sh} {K : PySem.W.Frag} {mg : Str → Option Value} {T : Txt K mg}
theorem e_listRg {lo hi : Int} (h : Ev1 b ta σ H0 (.c (.int lo))) (k : Ev1 b tb σ H0 (.c (.int hi))) (ok : RgOk lo hi) : Ev1 b (tLstRg (tRg2 ta tb)) σ H0 (.l ((rgV lo hi).map Sh.c)) := fun H g Q q =>
  h H g _ fun v H1 g1 i1 => k H1 (g.trans g1) _ fun w H2 g2 i2 => ⟨lo, hi, i1, i2, ok, fun l nl => q _ _ ((g1.trans g2).new nl) ⟨l, _, rfl, g2.1.ne nl, upd_same, is_consts⟩⟩
theorem e_badN (h : EvN b tr σ H0 [.c (.ref b)]) : Ev1 b (tCall spBadN [] E0 tr) σ H0 (.o badSh) := fun H g Q q =>
  h H g _ fun vs H1 g1 i1 => by
    obtain ⟨v, rfl, i2⟩ := is1 i1
    rw [show v = _ from i2]
    exact ⟨b, rfl, g1.1, fun v H2 g2 i => q v H2 (g1.trans g2) i⟩
/-- a step is refused -/
theorem mk_step_err {Q : VK} {E : XK} {r ts st pu x : V} {tb : Bool} {ys : List V} {code : Str} (ht : TimesV K H ts tb ys) (ks : ∃ t, Kd K H st t) (kp : ∃ t, Kd K H pu t)
    (bad : (tb = false ∧ code = "InvalidTimes" ∧ x = ts) ∨ (tb = true ∧ isNum st 0 1000000 = false ∧ code = "InvalidNumber" ∧ x = st) ∨ (tb = true ∧ isNum st 0 1000000 = true ∧ pubB pu = false ∧ code = "InvalidNumber" ∧ x = pu))
    (q : ∀ cls d H', Same H H' → ErrOf T cls d H' code [x] → E cls d H') (a dx : Addr) (na : H a = none) (nd : H dx = none) (hd : dx ≠ a) : spSI T [.ref a, r, ts, st, pu] (upd (upd H dx (.own a)) a (.ins T.aStep dx [])) Q E := by
  have s : Same H (upd (upd H dx (.own a)) a (.ins T.aStep dx [])) := fun b o e => by
    rw [upd_ne (ne_of_none e na), upd_ne (ne_of_none e nd)]
    exact e
  obtain ⟨t1, k1⟩ := ks
  obtain ⟨t2, k2⟩ := kp
  refine ⟨a, dx, r, ts, st, pu, tb, ys, t1, t2, rfl, upd_same, ht.same s, k1.same s, k2.same s, ⟨fun e => ?_, fun e1 e2 => ?_, fun e1 e2 e3 => ?_, fun e1 e2 e3 => ?_⟩⟩
  · rcases bad with ⟨_, rfl, rfl⟩ | ⟨e', _⟩ | ⟨e', _⟩
    · exact fun e H' s' he => q _ _ _ (s.trans s') ⟨e, _, rfl, he, .e2, rfl⟩
    · rw [e] at e'; cases e'
    · rw [e] at e'; cases e'
  · rcases bad with ⟨e', _⟩ | ⟨_, _, rfl, rfl⟩ | ⟨_, e', _⟩
    · rw [e1] at e'; cases e'
    · exact fun e H' s' he => q _ _ _ (s.trans s') ⟨e, _, rfl, he, .e1, rfl⟩
    · rw [e2] at e'; cases e'
  · rcases bad with ⟨e', _⟩ | ⟨_, e', _⟩ | ⟨_, _, _, rfl, rfl⟩
    · rw [e1] at e'; cases e'
    · rw [e2] at e'; cases e'
    · exact fun e H' s' he => q _ _ _ (s.trans s') ⟨e, _, rfl, he, .e1, rfl⟩
  · exfalso
    rcases bad with ⟨e', _⟩ | ⟨_, e', _⟩ | ⟨_, _, e', _⟩
    · rw [e1] at e'; cases e'
    · rw [e2] at e'; cases e'
    · rw [e3] at e'; cases e'
/-- what was told, by shapes -/
theorem told_err {code : Str} {x v : V} {xb : List V} (hb : H b = some (.lst xb)) (h : Told H (.err code [x]) v) (i : Is b H s x) : Is b H (.t [.c (.str code), .t [s]]) v := by
  obtain ⟨t, q, rfl, e1, e2⟩ := h
  have n1 : t ≠ b := fun z => by rw [z, hb] at e1; cases e1
  have n2 : q ≠ b := fun z => by rw [z, hb] at e2; cases e2
  exact ⟨t, _, rfl, n1, e1, _, _, rfl, rfl, _, _, rfl, ⟨q, _, rfl, n2, e2, x, [], rfl, i, rfl⟩, rfl⟩
theorem told_err2 {code : Str} {x y v : V} {xb : List V} (hb : H b = some (.lst xb)) (h : Told H (.err code [x, y]) v) : Is b H (.t [.c (.str code), .t [.c x, .c y]]) v := by
  obtain ⟨t, q, rfl, e1, e2⟩ := h
  have n1 : t ≠ b := fun z => by rw [z, hb] at e1; cases e1
  have n2 : q ≠ b := fun z => by rw [z, hb] at e2; cases e2
  exact ⟨t, _, rfl, n1, e1, _, _, rfl, rfl, _, _, rfl, ⟨q, _, rfl, n2, e2, x, _, rfl, rfl, y, [], rfl, rfl, rfl⟩, rfl⟩
theorem told_val {x v : V} {xb : List V} (hb : H b = some (.lst xb)) (h : Told H (.val x) v) (i : Is b H s x) : Is b H (.t [.c (.str ""), s]) v := by
  obtain ⟨t, rfl, e1⟩ := h
  have n1 : t ≠ b := fun z => by rw [z, hb] at e1; cases e1
  exact ⟨t, _, rfl, n1, e1, _, _, rfl, rfl, _, _, rfl, i, rfl⟩
end
theorem clo_sub {env : Env} {names : List (Str × NameKind)} (hfree : ∀ y ∈ names, y.2 = .free → ∃ c, env.cells.lookup y.1 = some c) : ∀ c ∈ (cloFrom env.cells names []).map (·.2), c ∈ cellsOf env := fun c hc => by
  obtain ⟨p, hp, e⟩ := List.mem_map.mp hc
  subst e
  obtain ⟨n, c⟩ := p
  rcases cloFrom_mem hp with h | ⟨h1, h2⟩
  · cases h
  · obtain ⟨c2, h3⟩ := hfree _ h1 rfl
    have h3 : env.cells.lookup n = some c2 := h3
    rw [h3] at h2
    have h2 : c = c2 := h2
    subst h2
    exact mem_cellsOf.mpr ⟨n, h3⟩
theorem same_offz {HE Hz : Hp} {cells cs : List Addr} (fz : FzOf HE Hz cells) (sub : ∀ c ∈ cs, c ∈ cells) : Same HE (offC Hz cs) := fun a o e => by
  rw [offC_out fun m => by rw [fz.non a (sub a m)] at e; cases e]
  exact fz.same _ _ e
section
variable {P : Program} {w : World} {K : PySem.W.Frag} {mg : Str → Option Value} {base : Heap} {T : Txt K mg}
/-- a lambda of this frame that is refused, or tells v -/
theorem lam_err {HE : Hp} {code : Str} {ws : List V} {k : Nat} {env : Env} {N : List Str} {σ : L2.St} {Hz : Hp} (fz : FzOf HE Hz (cellsOf env)) (z : FzVal env N σ Hz) (inj : ∀ x y c, env.cells.lookup x = some c → env.cells.lookup y = some c → x = y)
    {f : Addr} {q : Str} {params : Arguments} {body : Expr} {scope : Scope} {ds : List V} (hL : LamAt Hz f q params body scope (cloFrom env.cells scope.names []) ds)
    (hfree : ∀ y ∈ scope.names, y.2 = .free → ∃ c, env.cells.lookup y.1 = some c) {Nl ps : List Str} {σl : L2.St} (S : LScope Nl ps scope)
    (hval : ∀ (i : Nat) (x : Str) (v : V), Nl[i]? = some x → σl[i]? = some (some v) → ∃ j : Nat, N[j]? = some x ∧ σ[j]? = some (some v) ∧ env.scope.names.lookup x = some .cell) (hlen : σl.length = Nl.length)
    (hb0 : ds = [] → ps = [] ∧ ∀ doc pm cv ctv, bindArgs (PySem.W.kdv_fn "<lambda>" q params (.expr body) scope (cloFrom env.cells scope.names []) .none doc pm cv ctv) ⟨[], []⟩ = pure [])
    (hb1 : ds ≠ [] → ∀ (A : Addr) doc pm cv ctv (its : List Value), its.length = ds.length → ∃ kk, bindArgs (PySem.W.kdv_fn "<lambda>" q params (.expr body) scope (cloFrom env.cells scope.names []) (.ref A) doc pm cv ctv) ⟨[], []⟩ = seqItems? (.ref A) >>= kk ∧ kk (some its.toArray) = pure (ps.zip its))
    {tb : XK → TE} (hbody : ∀ (c' : Addr) (A : Around) (outer : List Env) (s : Shared) (H' : Hp) (E : XK), Room k (lCx P w K mg base Nl q scope (cloFrom env.cells scope.names []) f c' A outer s H' E).A → PE (lCx P w K mg base Nl q scope (cloFrom env.cells scope.names []) f c' A outer s H' E) body (tb E))
    (h : ∀ (H : Hp) (Q : VK) (E : XK), Same HE H → (∀ cls d H2, Same H H2 → ErrOf T cls d H2 code ws → E cls d H2) → tb E σl H Q) : Does P w K mg base T (k + 1) Hz (.err code ws) f :=
  does_err (lam_gen z inj hL hfree S hval hlen hb0 hb1 hbody) fun H Q E s he => h H Q E ((same_offz fz (clo_sub hfree)).trans s) he
theorem lam_val {HE : Hp} {v : V} {k : Nat} {env : Env} {N : List Str} {σ : L2.St} {Hz : Hp} (fz : FzOf HE Hz (cellsOf env)) (z : FzVal env N σ Hz) (inj : ∀ x y c, env.cells.lookup x = some c → env.cells.lookup y = some c → x = y)
    {f : Addr} {q : Str} {params : Arguments} {body : Expr} {scope : Scope} {ds : List V} (hL : LamAt Hz f q params body scope (cloFrom env.cells scope.names []) ds)
    (hfree : ∀ y ∈ scope.names, y.2 = .free → ∃ c, env.cells.lookup y.1 = some c) {Nl ps : List Str} {σl : L2.St} (S : LScope Nl ps scope)
    (hval : ∀ (i : Nat) (x : Str) (v : V), Nl[i]? = some x → σl[i]? = some (some v) → ∃ j : Nat, N[j]? = some x ∧ σ[j]? = some (some v) ∧ env.scope.names.lookup x = some .cell) (hlen : σl.length = Nl.length)
    (hb0 : ds = [] → ps = [] ∧ ∀ doc pm cv ctv, bindArgs (PySem.W.kdv_fn "<lambda>" q params (.expr body) scope (cloFrom env.cells scope.names []) .none doc pm cv ctv) ⟨[], []⟩ = pure [])
    (hb1 : ds ≠ [] → ∀ (A : Addr) doc pm cv ctv (its : List Value), its.length = ds.length → ∃ kk, bindArgs (PySem.W.kdv_fn "<lambda>" q params (.expr body) scope (cloFrom env.cells scope.names []) (.ref A) doc pm cv ctv) ⟨[], []⟩ = seqItems? (.ref A) >>= kk ∧ kk (some its.toArray) = pure (ps.zip its))
    {tb : XK → TE} (hbody : ∀ (c' : Addr) (A : Around) (outer : List Env) (s : Shared) (H' : Hp) (E : XK), Room k (lCx P w K mg base Nl q scope (cloFrom env.cells scope.names []) f c' A outer s H' E).A → PE (lCx P w K mg base Nl q scope (cloFrom env.cells scope.names []) f c' A outer s H' E) body (tb E))
    (h : ∀ (H : Hp) (Q : VK) (E : XK), Same HE H → (∀ H2, Same H H2 → Q v H2) → tb E σl H Q) : Does P w K mg base T (k + 1) Hz (.val v) f :=
  does_val (lam_gen z inj hL hfree S hval hlen hb0 hb1 hbody) fun H Q E s hq => h H Q E ((same_offz fz (clo_sub hfree)).trans s) hq
end
end Rd
set_option maxHeartbeats 4000000
namespace Rd
open PySem PySem.Spec PyProof.Rows L2 L2H HotX
/-! ## steps refused, asked by the law -/
section
variable {P : Program} {w : World} {K : PySem.W.Frag} {mg : Str → Option Value} {base : Heap}
abbrev lamS : Str := "_law_steps_refused_so" ++ ".<locals>." ++ "<lambda>"
def spSRef (Pt : Addr) : Sp := fun vs H Q _ => ∃ (b : Addr) (z : Str), vs = [.ref b, .str z] ∧ Bag H b ∧ TabF H Pt lamS ∧ ∀ H', Bag H' b → TabF H' Pt lamS → KeepB b H H' → KeepO Pt H H' → Q (.bl true) H'
theorem ok_law_steps_refused_so (T : Txt K mg) {ct Pt : Addr} (TB : LamX.TabB base mg ct Pt) (hc : T.d__law_steps_refused_so.fd.code = .ref ct) : FnOk P w K mg base CX0 11 T.d__law_steps_refused_so.f T.d__law_steps_refused_so.fd ["_law_bag_here", "_law_word"] (spSRef Pt) := by
  refine Fun.okC T.d__law_steps_refused_so.F sc_law_steps_refused_so (fun vs H Q E h => ?_) (fun cdv A outer s H vs Q E hcode hr h => ?_)
  · obtain ⟨b, z, rfl, _⟩ := h
    rfl
  · obtain ⟨b, z, rfl, hB, hT, q⟩ := h
    rw [hc] at hcode
    subst hcode
    have hcode : ∀ {X : Cx}, X = (cxOf CX0 P w K mg base N_law_steps_refused_so "_law_steps_refused_so" (defScope s_law_steps_refused_so) T.d__law_steps_refused_so.f (.ref ct) A outer s H E).nox → X.env.code = .ref ct := fun e => by rw [e]; rfl
    have hcode := hcode rfl
    obtain ⟨mv1, kb_sp⟩ := kb_sp T
    obtain ⟨mv2, kb_p⟩ := kb_p T
    refine ⟨_, (pss_cons (ps_set (i := 6) sc_law_steps_refused_so.nd rfl (Or.inr rfl) (pe_call (ok_law_ofL T) (hr.mono (by decide)) (by rfl) T.d__law_of.g T.d__law_of.F.kp T.d__law_of.b .nil pass0 (pa_cons (pv 0) (pa_cons (pe_lst (pa_cons (pe_lst pa_nil) (pa_cons (pe_tup pa_nil) (pa_cons (pe_lst (pa_cons pe_int pa_nil)) (pa_cons (pe_lst (pa_cons pe_int (pa_cons pe_int pa_nil))) (pa_cons (pe_lst (pa_cons pe_int (pa_cons pe_int pa_nil))) (pa_cons (pe_lst (pa_cons pe_int (pa_cons pe_bl pa_nil))) (pa_cons (pe_lst (pa_cons pe_bl pa_nil)) (pa_cons (pe_lst (pa_cons pe_str pa_nil)) (pa_cons pe_non (pa_cons pe_int (pa_cons pe_str (pa_cons (pe_listRg rfl (by rfl) T.z_list (prg_2 (by rfl) T.z_range pe_int pe_int)) (pa_cons (pe_lst (pa_cons (pe_op op_add (pe_op op_pow pe_int pe_int) pe_int) pa_nil)) (pa_cons (pe_lst (pa_cons pe_int (pa_cons (pe_lst (pa_cons pe_int pa_nil)) pa_nil))) (pa_cons (pe_lst (pa_cons pe_int (pa_cons pe_non pa_nil))) (pa_cons (pe_lst (pa_cons (pe_un un_neg pe_int) (pa_cons pe_int pa_nil))) (pa_cons pe_str (pa_cons (pe_lst (pa_cons pe_int (pa_cons pe_int (pa_cons pe_int pa_nil)))) pa_nil))))))))))))))))))) pa_nil))))
      (pss_cons (ps_asg (pe_tup (pa_cons (pe_call (ok_law_bad_number T) (hr.mono (by decide)) (by rfl) T.d__law_bad_number.g T.d__law_bad_number.F.kp T.d__law_bad_number.b .nil pass0 (pa_cons (pv 0) pa_nil)) (pa_cons (pe_call (ok_law_ofL T) (hr.mono (by decide)) (by rfl) T.d__law_of.g T.d__law_of.F.kp T.d__law_of.b .nil pass0 (pa_cons (pv 0) (pa_cons (pe_lst (pa_cons pe_non (pa_cons (pe_call (ok_law_bad_number T) (hr.mono (by decide)) (by rfl) T.d__law_bad_number.g T.d__law_bad_number.F.kp T.d__law_bad_number.b .nil pass0 (pa_cons (pv 0) pa_nil)) pa_nil))) pa_nil))) pa_nil))) (pg_tup rfl (pgs_cons (pg_name (i := 4) sc_law_steps_refused_so.nd rfl (Or.inr rfl)) (pgs_cons (pg_name (i := 7) sc_law_steps_refused_so.nd rfl (Or.inr rfl)) pgs_nil))))
      (pss_cons (ps_set (i := 5) sc_law_steps_refused_so.nd rfl (Or.inr rfl) (pe_call (ok_law_bad_number T) (hr.mono (by decide)) (by rfl) T.d__law_bad_number.g T.d__law_bad_number.F.kp T.d__law_bad_number.b .nil pass0 (pa_cons (pv 0) pa_nil)))
      (pss_cons (ps_set (i := 2) sc_law_steps_refused_so.nd rfl (Or.inl rfl) (pe_lst (pa_cons (pe_lam0O TB hcode (fun _ => free_ok rfl)) (pa_cons (pe_lam1O TB hcode (fun _ => free_ok rfl)) pa_nil))))
      (pss_cons (ps_set (i := 2) sc_law_steps_refused_so.nd rfl (Or.inl rfl) (pe_op op_cat (pv 2) (pe_lst (pa_cons (pe_lam1O TB hcode (fun _ => free_ok rfl)) (pa_cons (pe_lam1O TB hcode (fun _ => free_ok rfl)) pa_nil)))))
      (pss_cons (ps_expr (pe_bm PySem.F.plainAttrs_list PySem.F.slot_list_append PySem.F.type_list_append mt_append (pv 2) (pa_cons (pe_lam1O TB hcode (fun _ => free_ok rfl)) pa_nil)))
      (pss_cons (ps_set (i := 3) sc_law_steps_refused_so.nd rfl (Or.inl rfl) (pe_lst (pa_cons (pe_tup (pa_cons pe_str (pa_cons (pe_tup (pa_cons (pv 6) pa_nil)) pa_nil))) (pa_cons (pe_tup (pa_cons pe_str (pa_cons (pe_tup (pa_cons (pv 7) pa_nil)) pa_nil))) (pa_cons (pe_tup (pa_cons pe_str (pa_cons (pe_tup (pa_cons (pv 5) pa_nil)) pa_nil))) (pa_cons (pe_tup (pa_cons pe_str (pa_cons pe_int pa_nil))) (pa_cons (pe_tup (pa_cons pe_str (pa_cons pe_int pa_nil))) pa_nil)))))))
      (pss_one (ps_ret (pe_call (ok_law_same T 6) (hr.mono (by decide)) (by rfl) T.d__law_same.g T.d__law_same.F.kp T.d__law_same.b .nil pass0 (pa_cons (pe_callZ (ok_law_tries T 6) (hr.mono (by decide)) (fun _ => rfl) (by rfl) T.d__law_tries.g T.d__law_tries.F.kp T.d__law_tries.b (fun _ _ _ _ _ h => h) (pa_cons (pv 2) pa_nil)) (pa_cons (pv 3) pa_nil)))))))))))), ?_⟩
    refine q_set (b := b) (s := .o oddW) hB (e_ofL (n_cons (e_var rfl rfl) (n_cons (e_lst (n_cons (e_lst n_nil (by decide)) (n_cons (e_tup n_nil (by decide)) (n_cons (e_lst (n_cons e_c n_nil) (by decide)) (n_cons (e_lst (n_cons e_c (n_cons e_c n_nil)) (by decide)) (n_cons (e_lst (n_cons e_c (n_cons e_c n_nil)) (by decide)) (n_cons (e_lst (n_cons e_c (n_cons e_c n_nil)) (by decide))
      (n_cons (e_lst (n_cons e_c n_nil) (by decide)) (n_cons (e_lst (n_cons e_c n_nil) (by decide)) (n_cons e_c (n_cons e_c (n_cons e_c (n_cons (e_listRg e_c e_c (RgOk.of_le (by decide) (by decide) (by decide) (by decide))) (n_cons (e_lst (n_cons (e_add (e_pow e_c e_c ⟨by decide, by decide, by decide⟩) e_c) n_nil) (by decide)) (n_cons (e_lst (n_cons e_c (n_cons (e_lst (n_cons e_c n_nil) (by decide)) n_nil)) (by decide))
      (n_cons (e_lst (n_cons e_c (n_cons e_c n_nil)) (by decide)) (n_cons (e_lst (n_cons (e_neg e_c) (n_cons e_c n_nil)) (by decide)) (n_cons e_c (n_cons (e_lst (n_cons e_c (n_cons e_c (n_cons e_c n_nil))) (by decide)) n_nil)))))))))))))))))) (Nat.le_of_ble_eq_true rfl)) n_nil)) (by decide) (by decide)) fun vo H1 g1 i1 => ?_
    obtain ⟨so, mo, io⟩ := IsOne.mem i1
    obtain ⟨okO, dO⟩ := oddW_all so mo
    refine q_tup2 (b := b) (s1 := .o badSh) (s2 := .o [.c .non, .o badSh]) g1.1 (e_tup (n_cons (e_badN (n_cons (e_var rfl rfl) n_nil)) (n_cons (e_ofL (n_cons (e_var rfl rfl) (n_cons (e_lst (n_cons e_c (n_cons (e_badN (n_cons (e_var rfl rfl) n_nil)) n_nil)) (by decide)) n_nil)) (by decide) (by decide)) n_nil)) (Nat.le_of_ble_eq_true rfl)) fun vb vw H2 g2 ib iw => ?_
    obtain ⟨sb, mb, ib⟩ := IsOne.mem ib
    obtain ⟨okB, dB⟩ := badSh_all sb mb
    obtain ⟨sw, okW, dW, iw⟩ : ∃ sw, okSh (fun v => !isNum v 0 1000000) sw = true ∧ det 3 sw = true ∧ Is b H2 sw vw := by
      obtain ⟨s1, m1, i1⟩ := IsOne.mem iw
      rcases List.mem_cons.mp m1 with rfl | m1
      · exact ⟨_, by decide, by decide, i1⟩
      · rw [List.mem_singleton.mp m1] at i1
        obtain ⟨s2, m2, i2⟩ := IsOne.mem i1
        have h : (badSh.all fun s => okSh (fun v => !isNum v 0 1000000) s && det 3 s) = true := by decide +kernel
        have h := List.all_eq_true.mp h s2 m2
        rw [Bool.and_eq_true] at h
        exact ⟨s2, h.1, h.2, i2⟩
    refine q_set (b := b) (s := .o badSh) g2.1 (e_badN (n_cons (e_var rfl rfl) n_nil)) fun vl H3 g3 il => ?_
    obtain ⟨sl, ml, il⟩ := IsOne.mem il
    obtain ⟨okL, dL⟩ := badSh_all sl ml
    replace io := (io.go g2).go g3
    replace ib := ib.go g3
    replace iw := iw.go g3
    have gg3 := (g1.trans g2).trans g3
    have hT3 := hT.go hB gg3
    refine ⟨hT3, fun f0 H4 k4 o4 t4 n4 l4 => ⟨t4, fun f1 H5 k5 o5 t5 n5 l5 => ⟨by show 2 ≤ sizeLine; decide, fun la nla => ?_⟩⟩⟩
    have s6 := same_new (o := .lst [.ref f0, .ref f1]) nla
    have e6 : upd H5 la (.lst [.ref f0, .ref f1]) la = some (.lst [.ref f0, .ref f1]) := upd_same
    dsimp only
    generalize upd H5 la (.lst [.ref f0, .ref f1]) = H6 at s6 e6
    have t6 := t5.same s6
    have k56 : KeepT H5 H6 := fun a o e _ => s6 _ _ e
    refine ⟨.ref la, rfl, t6, fun f2 H7 k7 o7 t7 n7 l7 => ⟨t7, fun f3 H8 k8 o8 t8 n8 l8 => ⟨by show 2 ≤ sizeLine; decide, fun lb nlb => ?_⟩⟩⟩
    have s9 := same_new (o := .lst [.ref f2, .ref f3]) nlb
    have e9 : upd H8 lb (.lst [.ref f2, .ref f3]) lb = some (.lst [.ref f2, .ref f3]) := upd_same
    dsimp only
    generalize upd H8 lb (.lst [.ref f2, .ref f3]) = H9 at s9 e9
    have t9 := t8.same s9
    have k89 : KeepT H8 H9 := fun a o e _ => s9 _ _ e
    have k69 : KeepT H6 H9 := (k7.trans k8).trans k89
    have e69 := k69 _ _ e6 (fun _ z => by cases z)
    refine ⟨la, lb, _, _, rfl, rfl, e69, e9, Nat.le_of_lt (small1000 (Nat.le_of_ble_eq_true rfl)), fun lc nlc => ?_⟩
    have sA := same_new (o := .lst ([.ref f0, .ref f1] ++ [.ref f2, .ref f3])) nlc
    have eA : upd H9 lc (.lst ([.ref f0, .ref f1] ++ [.ref f2, .ref f3])) lc = some (.lst [.ref f0, .ref f1, .ref f2, .ref f3]) := upd_same
    dsimp only
    generalize upd H9 lc (.lst ([.ref f0, .ref f1] ++ [.ref f2, .ref f3])) = HA at sA eA
    have tA := t9.same sA
    have k9A : KeepT H9 HA := fun a o e _ => sA _ _ e
    refine ⟨.ref lc, rfl, .inl ⟨rfl, _, SqL.of eA⟩, tA, fun f4 HC kC oC hTC nC lC => ⟨lc, _, .ref f4, rfl, rfl, kC _ _ eA (fun _ z => by cases z), small1000 (Nat.le_of_ble_eq_true rfl), ?_⟩⟩
    have eC := kC _ _ eA (fun _ z => by cases z)
    have kp : Keeps HC (upd HC lc (.lst ([.ref f0, .ref f1, .ref f2, .ref f3] ++ [.ref f4]))) := keeps_put eC
    have eD : upd HC lc (.lst ([.ref f0, .ref f1, .ref f2, .ref f3] ++ [.ref f4])) lc = some (.lst [.ref f0, .ref f1, .ref f2, .ref f3, .ref f4]) := upd_same
    have tD := hTC.put (o := .lst ([.ref f0, .ref f1, .ref f2, .ref f3] ++ [.ref f4])) eC
    have k39 : KeepT H3 H9 := ((k4.trans k5).trans k56).trans k69
    have kAC := k9A.trans kC
    have oD : KeepO Pt H (upd HC lc (.lst ([.ref f0, .ref f1, .ref f2, .ref f3] ++ [.ref f4]))) := (KeepO.go hB gg3).trans (o4.trans (o5.trans ((KeepO.same s6).trans (o7.trans (o8.trans ((KeepO.same s9).trans ((KeepO.same sA).trans (oC.trans (KeepO.put eC)))))))))
    have kD : KeepT H3 (upd HC lc (.lst ([.ref f0, .ref f1, .ref f2, .ref f3] ++ [.ref f4]))) := fun a o e n => by
      by_cases zz : a = lc
      · subst zz
        rw [k39 _ _ e n] at nlc
        cases nlc
      · rw [upd_ne zz]
        exact (k39.trans kAC) _ _ e n
    dsimp only
    generalize upd HC lc (.lst ([.ref f0, .ref f1, .ref f2, .ref f3] ++ [.ref f4])) = HD at kp eD tD kD oD
    have hBD := g3.1.keepT kD
    have ioD := io.keepT (KeepB.keepT (b := b) kD)
    have ibD := ib.keepT (KeepB.keepT (b := b) kD)
    have iwD := iw.keepT (KeepB.keepT (b := b) kD)
    have ilD := il.keepT (KeepB.keepT (b := b) kD)
    let dueS : Sh := .l [.t [.c (.str "InvalidTimes"), .t [so]], .t [.c (.str "InvalidNumber"), .t [sw]], .t [.c (.str "InvalidNumber"), .t [sl]], .t [.c (.str ""), .c (.int 24)], .t [.c (.str ""), .c (.int 0)]]
    let σD : L2.St := [some (.ref b), some (.str z), some (.ref lc), none, some vb, some vl, some vo, some vw]
    refine q_set (b := b) (σ := σD) (s := dueS) hBD (e_lst (n_cons (e_tup (n_cons e_c (n_cons (e_tup (n_cons (e_var (i := 6) rfl ioD) n_nil) (Nat.le_of_ble_eq_true rfl)) n_nil)) (Nat.le_of_ble_eq_true rfl)) (n_cons (e_tup (n_cons e_c (n_cons (e_tup (n_cons (e_var (i := 7) rfl iwD) n_nil) (Nat.le_of_ble_eq_true rfl)) n_nil)) (Nat.le_of_ble_eq_true rfl)) (n_cons (e_tup (n_cons e_c (n_cons (e_tup (n_cons (e_var (i := 5) rfl ilD) n_nil) (Nat.le_of_ble_eq_true rfl)) n_nil)) (Nat.le_of_ble_eq_true rfl))
      (n_cons (e_tup (n_cons e_c (n_cons e_c n_nil)) (Nat.le_of_ble_eq_true rfl)) (n_cons (e_tup (n_cons e_c (n_cons e_c n_nil)) (Nat.le_of_ble_eq_true rfl)) n_nil))))) (Nat.le_of_ble_eq_true rfl)) fun yd HE gE iE => ?_
    have nlb : lc ≠ b := fun e => by
      obtain ⟨xb, eb⟩ := (g3.1.keepT k39).some
      rw [e, eb] at nlc
      cases nlc
    have eE := gE.2 _ _ nlb eD
    have tE := tD.go hBD gE
    have ioE := ioD.go gE
    have ibE := ibD.go gE
    have iwE := iwD.go gE
    have ilE := ilD.go gE
    have kDE : Keeps HD HE := ⟨fun a o u e => gE.2 _ _ (fun z => by obtain ⟨xb, eb⟩ := hBD.some; rw [z, eb] at e; cases e) e, fun a xs e => gE.2 _ _ (fun z => by obtain ⟨xb, eb⟩ := hBD.some; rw [z, eb] at e; cases e) e⟩
    let σE : L2.St := [some (.ref b), some (.str z), some (.ref lc), some yd, some vb, some vl, some vo, some vw]
    refine ⟨.ref lc, rfl, fun Hz fz fv => ⟨lc, [f0, f1, f2, f3, f4], [.err "InvalidTimes" [vo], .err "InvalidNumber" [vw], .err "InvalidNumber" [vl], .val (.int 24), .val (.int 0)], rfl, fz.same _ _ eE, Nat.le_of_ble_eq_true rfl, ?_, fun H8' p us s8 np ep pu => ?_⟩⟩
    · have kz : Keeps HC Hz := (kp.trans kDE).trans (.same fz.same)
      obtain ⟨yso, tmo⟩ := oddW_times (K := K) okO ioE
      obtain ⟨nB, pB, _⟩ := okSh_val (p := fun v => !isNum v 0 1000000 && !pubB v) (fun _ => rfl) okB ibE
      obtain ⟨nW, pW, _⟩ := okSh_val (p := fun v => !isNum v 0 1000000) (fun _ => rfl) okW iwE
      obtain ⟨nL, pL, _⟩ := okSh_val (p := fun v => !isNum v 0 1000000 && !pubB v) (fun _ => rfl) okL ilE
      have nW' : isNum vw 0 1000000 = false := by simpa using nW
      have nL' : isNum vl 0 1000000 = false ∧ pubB vl = false := by simpa using nL
      have p6 : CPow 10 6 := ⟨by decide, by decide, by decide⟩
      let is24 : List Int := (List.range 24).map fun (i : Nat) => 1 + (i : Int)
      have e24 : rgV 1 25 = is24.map V.int := by decide +kernel
      refine .cons ?_ (.cons ?_ (.cons ?_ (.cons ?_ (.cons ?_ .nil))))
      · exact lam_err fz fv cells_inj (l4.keep ((((k5.trans k56).trans k69).trans kAC).keeps.trans kz)) (free_ok rfl) (Nl := ["_law_word", "_law_odd_here", "_law_bad", "_law_late"]) (ps := []) (σl := [some (.str z), some vo, some vb, some vl]) ⟨rfl, rfl, rfl, by decide +kernel, by decide +kernel, by decide +kernel⟩
          (hval4 1 6 4 5 rfl rfl rfl rfl rfl rfl rfl rfl rfl rfl rfl rfl) rfl (fun _ => ⟨rfl, fun _ _ _ _ => rfl⟩) (fun h => absurd rfl h)
          (tb := fun E => tMakeK T.aStep 2 2 (spSI T) (fun vs zs => vs ++ zs) E (tCons (tVar 0) (tCons (tVar 1) tNil)) (tCons (tVar 2) (tCons (tVar 3) tNil)))
          (fun c' A outer s H' E hr => pe_makeK T.kStep.made (ok_ms_init T) (hr.mono (by decide)) (by rfl) T.c_Step kb_sp (L2N.passes_call (L2N.takes_of rfl rfl rfl rfl) (fun _ _ _ _ h => h)) (pa_cons (pv 0) (pa_cons (pv 1) pa_nil)) (pk_cons (pv 2) (pk_cons (pv 3) pk_nil)))
          (fun H Q E s he => ⟨.str z, rfl, vo, rfl, vb, rfl, vl, rfl, rfl, rfl, fun a dx na nd hd => mk_step_err (tmo.same s) (pB.same s).kd (pL.same s).kd (.inl ⟨rfl, rfl, rfl⟩) he a dx na nd hd⟩)
      · exact lam_err fz fv cells_inj (l5.keep (((k56.trans k69).trans kAC).keeps.trans kz)) (free_ok rfl) (Nl := ["_law_word", "_law_wrong", "_law_late"]) (ps := ["_law_a"]) (σl := [some (.str z), some vw, some vl]) ⟨rfl, rfl, rfl, by decide +kernel, by decide +kernel, by decide +kernel⟩
          (hval3 1 7 5 rfl rfl rfl rfl rfl rfl rfl rfl rfl) rfl (fun h => nomatch h) (fun _ A doc pm cv ctv its hl => ⟨_, rfl, match its, hl with | [_], _ => rfl⟩)
          (tb := fun E => tMakeK T.aStep 2 2 (spSI T) (fun vs zs => vs ++ zs) E (tCons (tVar 0) (tCons (tLst (tCons (tC (.int 1)) tNil)) tNil)) (tCons (tVar 1) (tCons (tVar 2) tNil)))
          (fun c' A outer s H' E hr => pe_makeK T.kStep.made (ok_ms_init T) (hr.mono (by decide)) (by rfl) T.c_Step kb_sp (L2N.passes_call (L2N.takes_of rfl rfl rfl rfl) (fun _ _ _ _ h => h)) (pa_cons (pv 0) (pa_cons (pe_lst (pa_cons pe_int pa_nil)) pa_nil)) (pk_cons (pv 1) (pk_cons (pv 2) pk_nil)))
          (fun H Q E s he => ⟨.str z, rfl, Nat.le_of_ble_eq_true rfl, fun p np => ⟨vw, rfl, vl, rfl, rfl, rfl, fun a dx na nd hd => mk_step_err (K := K) (tb := true) (.lst (xs := [.int 1]) upd_same (Nat.le_of_ble_eq_true rfl) fun x m => ⟨_, .sc (by rw [List.mem_singleton.mp m]; rfl)⟩) ((pW.same s).same (same_new np)).kd ((pL.same s).same (same_new np)).kd (.inr (.inl ⟨rfl, nW', rfl, rfl⟩)) (fun cls d H' s' h => he _ _ _ ((same_new np).trans s') h) a dx na nd hd⟩⟩)
      · exact lam_err fz fv cells_inj (l7.keep (((k8.trans k89).trans kAC).keeps.trans kz)) (free_ok rfl) (Nl := ["_law_word", "_law_late"]) (ps := ["_law_b"]) (σl := [some (.str z), some vl]) ⟨rfl, rfl, rfl, by decide +kernel, by decide +kernel, by decide +kernel⟩
          (hval2 1 5 rfl rfl rfl rfl rfl rfl) rfl (fun h => nomatch h) (fun _ A doc pm cv ctv its hl => ⟨_, rfl, match its, hl with | [_], _ => rfl⟩)
          (tb := fun E => tMakeK T.aStep 2 1 (spSI T) (fun vs zs => vs ++ ([.int 0] ++ zs)) E (tCons (tVar 0) (tCons (tLst (tCons (tC (.int 1)) (tCons (tC (.int 5)) tNil))) tNil)) (tCons (tVar 1) tNil))
          (fun c' A outer s H' E hr => pe_makeK T.kStep.made (ok_ms_init T) (hr.mono (by decide)) (by rfl) T.c_Step kb_p (L2N.passes_call (L2N.takes_of rfl rfl rfl rfl) (fun _ _ _ _ h => h)) (pa_cons (pv 0) (pa_cons (pe_lst (pa_cons pe_int (pa_cons pe_int pa_nil))) pa_nil)) (pk_cons (pv 1) pk_nil))
          (fun H Q E s he => ⟨.str z, rfl, Nat.le_of_ble_eq_true rfl, fun p np => ⟨vl, rfl, rfl, rfl, fun a dx na nd hd => mk_step_err (K := K) (tb := true) (st := .int 0) (.lst (xs := [.int 1, .int 5]) upd_same (Nat.le_of_ble_eq_true rfl) fun x m => ⟨_, .sc (by rcases List.mem_cons.mp m with rfl | m; rfl; rw [List.mem_singleton.mp m]; rfl)⟩) ⟨_, .sc rfl⟩ ((pL.same s).same (same_new np)).kd (.inr (.inr ⟨rfl, by decide, nL'.2, rfl, rfl⟩)) (fun cls d H' s' h => he _ _ _ ((same_new np).trans s') h) a dx na nd hd⟩⟩)
      · refine lam_val fz fv cells_inj (l8.keep ((k89.trans kAC).keeps.trans kz)) (free_ok rfl) (Nl := ["_law_word"]) (ps := ["_law_c"]) (σl := [some (.str z)]) ⟨rfl, rfl, rfl, by decide +kernel, by decide +kernel, by decide +kernel⟩
          (hval1 1 rfl rfl rfl) rfl (fun h => nomatch h) (fun _ A doc pm cv ctv its hl => ⟨_, rfl, match its, hl with | [_], _ => rfl⟩)
          (tb := fun E => tProp T.aStep (spArr T) [] E0 (tMakeK T.aStep 2 2 (spSI T) (fun vs zs => vs ++ zs) E (tCons (tVar 0) (tCons (tLstRg (tRg2 (tC (.int 1)) (tC (.int 25)))) tNil)) (tCons (tOp (rI CPow fun i j => .int (i ^ j.toNat)) (tC (.int 10)) (tC (.int 6))) (tCons (tOp (rI CPow fun i j => .int (i ^ j.toNat)) (tC (.int 10)) (tC (.int 6))) tNil))))
          (fun c' A outer s H' E hr => pe_prop (pe_makeK T.kStep.made (ok_ms_init T) (hr.mono (by decide)) (by rfl) T.c_Step kb_sp (L2N.passes_call (L2N.takes_of rfl rfl rfl rfl) (fun _ _ _ _ h => h)) (pa_cons (pv 0) (pa_cons (pe_listRg rfl (by rfl) T.z_list (prg_2 (by rfl) T.z_range pe_int pe_int)) pa_nil)) (pk_cons (pe_op op_pow pe_int pe_int) (pk_cons (pe_op op_pow pe_int pe_int) pk_nil))) T.kStep.cls T.ms_arrival.P (ok_ms_arrival T) (hr.mono (by decide)) T.ms_arrival.b .nil pass0 (by rfl))
          (fun H Q E s hq => ?_)
        let z3 : Row := ⟨z, is24, 10 ^ (6 : Int).toNat, .int (10 ^ (6 : Int).toNat)⟩
        have hz : z3.ok = true := by
          show ((timesB (is24.map V.int) && isNum (.int (10 ^ (6 : Int).toNat)) 0 1000000) && (pubB (.int (10 ^ (6 : Int).toNat)) && isSc (.int (10 ^ (6 : Int).toNat)))) = true
          decide +kernel
        obtain ⟨r1, r2, r3, r4⟩ := Row.parts hz
        have mkA : ∀ (Kq : VK), (∀ a d l H', Same H H' → H' a = some (.ins T.aStep d (stepF (.str z) (.int (10 ^ (6 : Int).toNat)) (.int (10 ^ (6 : Int).toNat)) (.ref l))) → H' l = some (.lst (is24.map V.int)) → Kq (.ref a) H') →
            tMakeK T.aStep 2 2 (spSI T) (fun vs zs => vs ++ zs) E (tCons (tVar 0) (tCons (tLstRg (tRg2 (tC (.int 1)) (tC (.int 25)))) tNil)) (tCons (tOp (rI CPow fun i j => .int (i ^ j.toNat)) (tC (.int 10)) (tC (.int 6))) (tCons (tOp (rI CPow fun i j => .int (i ^ j.toNat)) (tC (.int 10)) (tC (.int 6))) tNil)) [some (.str z)] H Kq := by
          intro Kq hK
          refine ⟨.str z, rfl, 1, 25, rfl, rfl, RgOk.of_le (by decide) (by decide) (by decide) (by decide), fun p np => ⟨10, 6, rfl, rfl, p6, 10, 6, rfl, rfl, p6, rfl, rfl, ?_⟩⟩
          have ht : TimesV K (upd H p (.lst (rgV 1 25))) (.ref p) true (is24.map V.int) := by
            rw [e24]
            exact r1 ▸ .lst upd_same (Nat.le_of_ble_eq_true rfl) (fun x m => by obtain ⟨i, _, rfl⟩ := List.mem_map.mp m; exact ⟨_, .sc rfl⟩)
          exact mk_step (T := T) (r := z) (st := 10 ^ (6 : Int).toNat) (pu := .int (10 ^ (6 : Int).toNat)) ht r2 r3 r4 fun a d l H' s' na nl ea el => hK a d l H' ((same_new np).trans s') ea el
        exact mkA _ fun a d l H' s' ea el => ⟨a, d, _, rfl, ea, a, _, _, _, _, 24, rfl, stepAt_of hz ea el, (show is24.getLast? = some 24 by decide +kernel), hq _ s'⟩
      · refine lam_val fz fv cells_inj (lC.keep kz) (free_ok rfl) (Nl := ["_law_word"]) (ps := ["_law_d"]) (σl := [some (.str z)]) ⟨rfl, rfl, rfl, by decide +kernel, by decide +kernel, by decide +kernel⟩
          (hval1 1 rfl rfl rfl) rfl (fun h => nomatch h) (fun _ A doc pm cv ctv its hl => ⟨_, rfl, match its, hl with | [_], _ => rfl⟩)
          (tb := fun E => tProp T.aStep (spBase T) [] E0 (tMakeK T.aStep 2 1 (spSI T) (fun vs zs => vs ++ ([.int 0] ++ zs)) E (tCons (tVar 0) (tCons (tTup (tCons (tOp (rI CPow fun i j => .int (i ^ j.toNat)) (tC (.int 10)) (tC (.int 6))) tNil)) tNil)) (tCons (tC (.int 0)) tNil)))
          (fun c' A outer s H' E hr => pe_prop (pe_makeK T.kStep.made (ok_ms_init T) (hr.mono (by decide)) (by rfl) T.c_Step kb_p (L2N.passes_call (L2N.takes_of rfl rfl rfl rfl) (fun _ _ _ _ h => h)) (pa_cons (pv 0) (pa_cons (pe_tup (pa_cons (pe_op op_pow pe_int pe_int) pa_nil)) pa_nil)) (pk_cons pe_int pk_nil)) T.kStep.cls T.ms_base.P (ok_ms_base T) (hr.mono (by decide)) T.ms_base.b .nil pass0 (by rfl))
          (fun H Q E s hq => ?_)
        let z3 : Row := ⟨z, [10 ^ (6 : Int).toNat], 0, .int 0⟩
        have hz : z3.ok = true := by
          show ((timesB ([(10 : Int) ^ (6 : Int).toNat].map V.int) && isNum (.int 0) 0 1000000) && (pubB (.int 0) && isSc (.int 0))) = true
          decide +kernel
        obtain ⟨r1, r2, r3, r4⟩ := Row.parts hz
        have mkA : ∀ (Kq : VK), (∀ a d l H', Same H H' → H' a = some (.ins T.aStep d (stepF (.str z) (.int 0) (.int 0) (.ref l))) → H' l = some (.lst ([(10 : Int) ^ (6 : Int).toNat].map V.int)) → Kq (.ref a) H') →
            tMakeK T.aStep 2 1 (spSI T) (fun vs zs => vs ++ ([.int 0] ++ zs)) E (tCons (tVar 0) (tCons (tTup (tCons (tOp (rI CPow fun i j => .int (i ^ j.toNat)) (tC (.int 10)) (tC (.int 6))) tNil)) tNil)) (tCons (tC (.int 0)) tNil) [some (.str z)] H Kq := by
          intro Kq hK
          refine ⟨.str z, rfl, 10, 6, rfl, rfl, p6, Nat.le_of_ble_eq_true rfl, fun p np => ⟨rfl, rfl, ?_⟩⟩
          have ht : TimesV K (upd H p (.tup [.int (10 ^ (6 : Int).toNat)])) (.ref p) true ([(10 : Int) ^ (6 : Int).toNat].map V.int) := r1 ▸ .tup upd_same (Nat.le_of_ble_eq_true rfl) (fun x m => by obtain ⟨i, _, rfl⟩ := List.mem_map.mp m; exact ⟨_, .sc rfl⟩)
          exact mk_step (T := T) (r := z) (st := 0) (pu := .int 0) ht r2 r3 r4 fun a d l H' s' na nl ea el => hK a d l H' ((same_new np).trans s') ea el
        exact mkA _ fun a d l H' s' ea el => ⟨a, d, _, rfl, ea, a, _, _, _, _, rfl, stepAt_of hz ea el, hq _ s'⟩
    · have s9 := fz.back s8
      have k89' : ∀ a xs, H8' a = some (.tup xs) → offC H8' (cellsOf _) a = some (.tup xs) := fun a xs e => fz.kept s8 e fun _ _ z => by cases z
      have ep9 := fz.kept s8 ep fun _ _ z => by cases z
      cases pu with | cons h0 pu => cases pu with | cons h1 pu => cases pu with | cons h2 pu => cases pu with | cons h3 pu => cases pu with | cons h4 pu => cases pu with | nil =>
      replace h0 := h0.keep k89'
      replace h1 := h1.keep k89'
      replace h2 := h2.keep k89'
      replace h3 := h3.keep k89'
      replace h4 := h4.keep k89'
      obtain ⟨xb, eb⟩ := gE.1.some
      have pb : p ≠ b := fun e => by rw [e, fz.same _ _ eb] at np; cases np
      dsimp only
      generalize offC H8' _ = H9' at s9 ep9 h0 h1 h2 h3 h4
      have eb9 := s9 _ _ eb
      have is9 : Is b H9' dueS (.ref p) := ⟨p, _, rfl, pb, ep9, _, _, rfl, told_err eb9 h0 (ioE.same s9), _, _, rfl, told_err eb9 h1 (iwE.same s9), _, _, rfl, told_err eb9 h2 (ilE.same s9), _, _, rfl, told_val (s := .c (.int 24)) eb9 h3 rfl, _, _, rfl, told_val (s := .c (.int 0)) eb9 h4 rfl, rfl⟩
      have dt : det 6 dueS = true := by
        show (true && ((true && (true && ((true && (det 3 so && true)) && true))) && ((true && (true && ((true && (det 3 sw && true)) && true))) && ((true && (true && ((true && (det 3 sl && true)) && true))) && ((true && (true && (true && true))) && ((true && (true && (true && true))) && true)))))) = true
        rw [dO, dW, dL]
        rfl
      refine ⟨yd, rfl, .ref p, yd, rfl, eqv_det (n := 6) dt is9 (iE.same s9), fun H11 s11 => ?_⟩
      have kE : KeepB b H H11 := (((KeepB.go gg3).trans (.keepT kD)).trans (.go gE)).trans ((KeepB.same s9).trans (.same s11))
      exact q H11 ((gE.1.same s9).same s11) ((tE.same s9).same s11) kE (oD.trans ((KeepO.go hBD gE).trans ((KeepO.same s9).trans (.same s11))))
end
end Rd
set_option maxHeartbeats 4000000
namespace Rd
open PySem PySem.Spec PyProof.Rows L2 L2H HotX
/-! ## trains refused, asked by the law -/
theorem odd_all : ∀ s ∈ oddSh, okSh (fun v => !isNm v) s = true ∧ det 3 s = true := by
  have h : (oddSh.all fun s => okSh (fun v => !isNm v) s && det 3 s) = true := by decide +kernel
  exact fun s m => by have := List.all_eq_true.mp h s m; rw [Bool.and_eq_true] at this; exact this
def badL : List Sh := [.c (.int 0), .c (.int 61), .c (.int (-1)), .c .non, .c (.bl true), .c (.str "5"), .l [.c (.int 5)]]
theorem badL_all : ∀ s ∈ badL, okSh (fun v => !isNum v 1 60) s = true ∧ det 3 s = true := by
  have h : (badL.all fun s => okSh (fun v => !isNum v 1 60) s && det 3 s) = true := by decide +kernel
  exact fun s m => by have := List.all_eq_true.mp h s m; rw [Bool.and_eq_true] at this; exact this
def strS (z : Str) : List Sh := [.c .non, .c (.int 5), .c (.str "a.b.1"), .c (.bl true), .l [.c (.int 1)], .t [.c (.int 1)], .c (.str z)]
theorem strS_all (z : Str) : ∀ s ∈ strS z, plainS s = true ∧ det 3 s = true := by
  have h : ((strS z).all fun s => plainS s && det 3 s) = true := rfl
  exact fun s m => by have := List.all_eq_true.mp h s m; rw [Bool.and_eq_true] at this; exact this
theorem gone_all : ∀ s ∈ badSh, okSh (fun v => !isNum v 1 1000000) s = true ∧ det 3 s = true := by
  have h : (badSh.all fun s => okSh (fun v => !isNum v 1 1000000) s && det 3 s) = true := by decide +kernel
  exact fun s m => by have := List.all_eq_true.mp h s m; rw [Bool.and_eq_true] at this; exact this
section
variable {b : Addr} {σ : L2.St} {H0 H : Hp} {te : TE} {tr : TA} {K : PySem.W.Frag} {mg : Str → Option Value} {T : Txt K mg} {D : Ends} {t2 : TS}
theorem e_oddN (h : EvN b tr σ H0 [.c (.ref b)]) : Ev1 b (tCall spOdd [] E0 tr) σ H0 (.o oddSh) := fun H g Q q =>
  h H g _ fun vs H1 g1 i1 => by
    obtain ⟨v, rfl, i2⟩ := is1 i1
    rw [show v = _ from i2]
    exact ⟨b, rfl, g1.1, fun v H2 g2 i => q v H2 (g1.trans g2) i⟩
theorem q_tup3 {i j k : Nat} {s1 s2 s3 : Sh} (hB : Bag H b) (h : Ev1 b te σ H (.t [s1, s2, s3])) (q : ∀ x y z H', Go b H H' → Is b H' s1 x → Is b H' s2 y → Is b H' s3 z → t2 D (((σ.set i (some x)).set j (some y)).set k (some z)) H') :
    tSeq (tAsg te (gTup K 3 (gCons (gName i) (gCons (gName j) (gCons (gName k) gNil))))) t2 D σ H :=
  h H (.refl hB) _ fun w H6 g6 i6 => by
    obtain ⟨p, xs, rfl, np, o, r⟩ := i6
    obtain ⟨y, z, u, rfl, r2, r3, r4⟩ := is3 r
    exact ⟨p, _, rfl, SqT.of o, rfl, y, _, rfl, z, _, rfl, u, _, rfl, rfl, q y z u H6 g6 r2 r3 r4⟩
/-- a train is refused -/
inductive TrBad (T : Txt K mg) (H : Hp) (n len out : V) (rv : List V) : Str → List V → Prop
  | name (h : isNm n = false) : TrBad T H n len out rv "InvalidName" [n]
  | len (h : isNm n = true) (h2 : isNum len 1 60 = false) : TrBad T H n len out rv "InvalidNumber" [len]
  | step {x : V} (h : isNm n = true) (h2 : isNum len 1 60 = true) (k : BadAt T H rv x) : TrBad T H n len out rv "InvalidStep" [x]
  | many (h : isNm n = true) (h2 : isNum len 1 60 = true) (a : ∀ x, x ∈ rv → IsStepV T H x) (k : 6 < rv.length) : TrBad T H n len out rv "TooMany" [.str "steps", .int 6]
  | none (h : isNm n = true) (h2 : isNum len 1 60 = true) (k : rv = []) : TrBad T H n len out rv "InvalidStep" [.non]
  | out (h : isNm n = true) (h2 : isNum len 1 60 = true) (a : ∀ x, x ∈ rv → IsStepV T H x) (k1 : 1 ≤ rv.length) (k : rv.length ≤ 6) (h3 : isNum out 1 1000000 = false) : TrBad T H n len out rv "InvalidNumber" [out]
theorem mk_train_err {Q : VK} {E : XK} {n len out : V} {rv : List V} {code : Str} {ws : List V} (kn : ∃ t, Kd K H n t) (hz : ∀ z, n = .str z → z.length ≤ 1000) (kl : ∃ t, Kd K H len t) (ko : ∃ t, Kd K H out t) (hx : rv.length ≤ 1000)
    (bad : TrBad T H n len out rv code ws) (q : ∀ cls d H', Same H H' → ErrOf T cls d H' code ws → E cls d H') : SkNew T.aTrain (spTI T) E H Q [n, len] rv out := by
  obtain ⟨t1, k1⟩ := kn
  obtain ⟨t2, k2⟩ := kl
  obtain ⟨t3, k3⟩ := ko
  refine mk_trainG k1 hz k2 k3 hx fun x dx H2 nx s ex => ?_
  cases bad with
  | name h => exact ⟨fun _ e H' s' he => q _ _ _ (Same.trans s s') ⟨e, _, rfl, he, .e0, rfl⟩, fun e => (by rw [h] at e; cases e), fun e => (by rw [h] at e; cases e)⟩
  | len h h2 => exact ⟨fun e => (by rw [h] at e; cases e), fun _ _ e H' s' he => q _ _ _ (Same.trans s s') ⟨e, _, rfl, he, .e1, rfl⟩, fun _ e => (by rw [h2] at e; cases e)⟩
  | step h h2 k => exact ⟨fun e => (by rw [h] at e; cases e), fun _ e => (by rw [h2] at e; cases e), fun _ _ => .inl ⟨_, k.same s, fun e H' s' he => q _ _ _ (Same.trans s s') ⟨e, _, rfl, he, .e3, rfl⟩⟩⟩
  | many h h2 a k => exact ⟨fun e => (by rw [h] at e; cases e), fun _ e => (by rw [h2] at e; cases e), fun _ _ => .inr ⟨fun y m => (a y m).same s, fun _ e H' s' he => q _ _ _ (Same.trans s s') ⟨e, _, rfl, he, .e4, rfl⟩, fun e => by omega, fun _ e => by omega⟩⟩
  | none h h2 k => subst k; exact ⟨fun e => (by rw [h] at e; cases e), fun _ e => (by rw [h2] at e; cases e), fun _ _ => .inr ⟨fun y m => (nomatch m), fun e => (by simp at e), fun _ e H' s' he => q _ _ _ (Same.trans s s') ⟨e, _, rfl, he, .e3, rfl⟩, fun e => (by simp at e)⟩⟩
  | out h h2 a k1 k h3 => exact ⟨fun e => (by rw [h] at e; cases e), fun _ e => (by rw [h2] at e; cases e), fun _ _ => .inr ⟨fun y m => (a y m).same s, fun e => by omega, fun e => by omega, fun _ _ H3 s3 _ => ⟨fun _ e H' s' he => q _ _ _ (Same.trans s (Same.trans s3 s')) ⟨e, _, rfl, he, .e1, rfl⟩, fun e => (by rw [h3] at e; cases e)⟩⟩⟩
end
section
variable {P : Program} {w : World} {K : PySem.W.Frag} {mg : Str → Option Value} {base : Heap}
abbrev lamR : Str := "_law_trains_refused_so" ++ ".<locals>." ++ "<lambda>"
def spTRef (Pt : Addr) : Sp := fun vs H Q _ => ∃ (b : Addr) (z : Str) (vr : V) (y : Row), vs = [.ref b, .str z, vr] ∧ Bag H b ∧ isNm (.str z) = true ∧ Is b H (rowS y) vr ∧ y.ok = true ∧ TabF H Pt lamR ∧ ∀ H', Bag H' b → TabF H' Pt lamR → KeepB b H H' → KeepO Pt H H' → Q (.bl true) H'
theorem ok_law_trains_refused_so (T : Txt K mg) {ct Pt : Addr} (TB : LamX.TabB base mg ct Pt) (hc : T.d__law_trains_refused_so.fd.code = .ref ct) : FnOk P w K mg base CX0 12 T.d__law_trains_refused_so.f T.d__law_trains_refused_so.fd ["_law_bag_here", "_law_word", "_law_row"] (spTRef Pt) := by
  refine Fun.okC T.d__law_trains_refused_so.F sc_law_trains_refused_so (fun vs H Q E h => ?_) (fun cdv A outer s H vs Q E hcode hr h => ?_)
  · obtain ⟨b, z, vr, y, rfl, _⟩ := h
    rfl
  · obtain ⟨b, z, vr, y, rfl, hB, hz, hy, oy, hT, q⟩ := h
    rw [hc] at hcode
    subst hcode
    have hcode : ∀ {X : Cx}, X = (cxOf CX0 P w K mg base N_law_trains_refused_so "_law_trains_refused_so" (defScope s_law_trains_refused_so) T.d__law_trains_refused_so.f (.ref ct) A outer s H E).nox → X.env.code = .ref ct := fun e => by rw [e]; rfl
    have hcode := hcode rfl
    have hzl : z.length ≤ 1000 := by
      rw [isNm_str] at hz
      simp only [Bool.and_eq_true, decide_eq_true_eq] at hz
      omega
    refine ⟨_, (pss_cons (ps_asg (pe_tup (pa_cons (pe_call (ok_law_odd T) (hr.mono (by decide)) (by rfl) T.d__law_odd.g T.d__law_odd.F.kp T.d__law_odd.b .nil pass0 (pa_cons (pv 0) pa_nil)) (pa_cons (pe_call (ok_law_ofL T) (hr.mono (by decide)) (by rfl) T.d__law_of.g T.d__law_of.F.kp T.d__law_of.b .nil pass0 (pa_cons (pv 0) (pa_cons (pe_lst (pa_cons pe_int (pa_cons pe_int (pa_cons (pe_un un_neg pe_int) (pa_cons pe_non (pa_cons pe_bl (pa_cons pe_str (pa_cons (pe_lst (pa_cons pe_int pa_nil)) pa_nil)))))))) pa_nil))) (pa_cons (pe_call (ok_law_bad_number T) (hr.mono (by decide)) (by rfl) T.d__law_bad_number.g T.d__law_bad_number.F.kp T.d__law_bad_number.b .nil pass0 (pa_cons (pv 0) pa_nil)) pa_nil)))) (pg_tup rfl (pgs_cons (pg_name (i := 8) sc_law_trains_refused_so.nd rfl (Or.inr rfl)) (pgs_cons (pg_name (i := 6) sc_law_trains_refused_so.nd rfl (Or.inr rfl)) (pgs_cons (pg_name (i := 3) sc_law_trains_refused_so.nd rfl (Or.inl rfl)) pgs_nil)))))
      (pss_cons (ps_asg (pe_tup (pa_cons (pe_call (ok_law_ofL T) (hr.mono (by decide)) (by rfl) T.d__law_of.g T.d__law_of.F.kp T.d__law_of.b .nil pass0 (pa_cons (pv 0) (pa_cons (pe_lst (pa_cons pe_non (pa_cons pe_int (pa_cons pe_str (pa_cons pe_bl (pa_cons (pe_lst (pa_cons pe_int pa_nil)) (pa_cons (pe_tup (pa_cons pe_int pa_nil)) (pa_cons (pv 1) pa_nil)))))))) pa_nil))) (pa_cons (pe_call (ok_law_step T) (hr.mono (by decide)) (by rfl) T.d__law_step.g T.d__law_step.F.kp T.d__law_step.b .nil pass0 (pa_cons (pv 2) pa_nil)) pa_nil))) (pg_tup rfl (pgs_cons (pg_name (i := 10) sc_law_trains_refused_so.nd rfl (Or.inr rfl)) (pgs_cons (pg_name (i := 9) sc_law_trains_refused_so.nd rfl (Or.inr rfl)) pgs_nil))))
      (pss_cons (ps_set (i := 7) sc_law_trains_refused_so.nd rfl (Or.inr rfl) (pe_call (ok_law_ofL T) (hr.mono (by decide)) (by rfl) T.d__law_of.g T.d__law_of.F.kp T.d__law_of.b .nil pass0 (pa_cons (pv 0) (pa_cons (pe_lst (pa_cons pe_int (pa_cons (pv 3) pa_nil))) pa_nil))))
      (pss_cons (ps_set (i := 4) sc_law_trains_refused_so.nd rfl (Or.inl rfl) (pe_lst (pa_cons (pe_lam0O TB hcode (fun _ => free_ok rfl)) (pa_cons (pe_lam1O TB hcode (fun _ => free_ok rfl)) pa_nil))))
      (pss_cons (ps_set (i := 4) sc_law_trains_refused_so.nd rfl (Or.inl rfl) (pe_op op_cat (pv 4) (pe_lst (pa_cons (pe_lam1O TB hcode (fun _ => free_ok rfl)) (pa_cons (pe_lam1O TB hcode (fun _ => free_ok rfl)) pa_nil)))))
      (pss_cons (ps_set (i := 4) sc_law_trains_refused_so.nd rfl (Or.inl rfl) (pe_op op_cat (pv 4) (pe_lst (pa_cons (pe_lam1O TB hcode (fun _ => free_ok rfl)) (pa_cons (pe_lam1O TB hcode (fun _ => free_ok rfl)) pa_nil)))))
      (pss_cons (ps_set (i := 4) sc_law_trains_refused_so.nd rfl (Or.inl rfl) (pe_op op_cat (pv 4) (pe_lst (pa_cons (pe_lam1O TB hcode (fun _ => free_ok rfl)) (pa_cons (pe_lam1O TB hcode (fun _ => free_ok rfl)) pa_nil)))))
      (pss_cons (ps_set (i := 5) sc_law_trains_refused_so.nd rfl (Or.inl rfl) (pe_lst (pa_cons (pe_tup (pa_cons pe_str (pa_cons (pe_tup (pa_cons (pv 8) pa_nil)) pa_nil))) (pa_cons (pe_tup (pa_cons pe_str (pa_cons (pe_tup (pa_cons (pv 6) pa_nil)) pa_nil))) (pa_cons (pe_tup (pa_cons pe_str (pa_cons (pe_tup (pa_cons (pv 10) pa_nil)) pa_nil))) (pa_cons (pe_tup (pa_cons pe_str (pa_cons (pe_tup (pa_cons pe_str (pa_cons pe_int pa_nil))) pa_nil))) pa_nil))))))
      (pss_cons (ps_set (i := 5) sc_law_trains_refused_so.nd rfl (Or.inl rfl) (pe_op op_cat (pv 5) (pe_lst (pa_cons (pe_tup (pa_cons pe_str (pa_cons (pe_tup (pa_cons pe_non pa_nil)) pa_nil))) (pa_cons (pe_tup (pa_cons pe_str (pa_cons (pe_tup (pa_cons (pv 7) pa_nil)) pa_nil))) (pa_cons (pe_tup (pa_cons pe_str (pa_cons (pe_tup (pa_cons (pv 10) pa_nil)) pa_nil))) (pa_cons (pe_tup (pa_cons pe_str (pa_cons pe_int pa_nil))) pa_nil)))))))
      (pss_one (ps_ret (pe_call (ok_law_same T 6) (hr.mono (by decide)) (by rfl) T.d__law_same.g T.d__law_same.F.kp T.d__law_same.b .nil pass0 (pa_cons (pe_callZ (ok_law_tries T 7) (hr.mono (by decide)) (fun _ => rfl) (by rfl) T.d__law_tries.g T.d__law_tries.F.kp T.d__law_tries.b (fun _ _ _ _ _ h => h) (pa_cons (pv 4) pa_nil)) (pa_cons (pv 5) pa_nil)))))))))))))), ?_⟩
    refine q_tup3 (b := b) (s1 := .o oddSh) (s2 := .o badL) (s3 := .o badSh) hB (e_tup (n_cons (e_oddN (n_cons (e_var rfl rfl) n_nil)) (n_cons (e_ofL (n_cons (e_var rfl rfl) (n_cons (e_lst (n_cons e_c (n_cons e_c (n_cons (e_neg e_c) (n_cons e_c (n_cons e_c (n_cons e_c (n_cons (e_lst (n_cons e_c n_nil) (by decide)) n_nil))))))) (by decide)) n_nil)) (by decide) (by decide)) (n_cons (e_badN (n_cons (e_var rfl rfl) n_nil)) n_nil))) (Nat.le_of_ble_eq_true rfl)) fun vo vb vl H1 g1 io ib il => ?_
    obtain ⟨so, mo, io⟩ := IsOne.mem io
    obtain ⟨okO, dO⟩ := odd_all so mo
    obtain ⟨sb, mb, ib⟩ := IsOne.mem ib
    obtain ⟨okB, dB⟩ := badL_all sb mb
    obtain ⟨sl, ml, il⟩ := IsOne.mem il
    obtain ⟨okL, dL⟩ := gone_all sl ml
    refine q_tup2 (b := b) (s1 := .o (strS z)) (s2 := stepS T y) g1.1 (e_tup (n_cons (e_ofL (n_cons (e_var rfl rfl) (n_cons (e_lst (n_cons e_c (n_cons e_c (n_cons e_c (n_cons e_c (n_cons (e_lst (n_cons e_c n_nil) (by decide)) (n_cons (e_tup (n_cons e_c n_nil) (by decide)) (n_cons (e_var (i := 1) rfl rfl) n_nil))))))) (Nat.le_of_ble_eq_true rfl)) n_nil)) (by show 0 < 7; decide) (by show 7 < 1000; decide)) (n_cons (e_step oy (n_cons (e_var (i := 2) rfl (hy.go g1)) n_nil)) n_nil)) (Nat.le_of_ble_eq_true rfl)) fun vst vs H2 g2 ist iss => ?_
    obtain ⟨sst, mst, ist⟩ := IsOne.mem ist
    obtain ⟨plS, dS⟩ := strS_all z sst mst
    refine q_set (b := b) (s := .o [.c (.int 0), sl]) g2.1 (e_ofL (n_cons (e_var rfl rfl) (n_cons (e_lst (n_cons e_c (n_cons (e_var (i := 3) rfl (il.go g2)) n_nil)) (Nat.le_of_ble_eq_true rfl)) n_nil)) (by show 0 < 2; decide) (by show 2 < 1000; decide)) fun vg H3 g3 ig => ?_
    obtain ⟨sg, okG, dG, ig⟩ : ∃ sg, okSh (fun v => !isNum v 1 1000000) sg = true ∧ det 3 sg = true ∧ Is b H3 sg vg := by
      obtain ⟨s1, m1, i1⟩ := IsOne.mem ig
      rcases List.mem_cons.mp m1 with rfl | m1
      · exact ⟨_, by decide, by decide, i1⟩
      · rw [List.mem_singleton.mp m1] at i1
        exact ⟨sl, okL, dL, i1⟩
    replace io := (io.go g2).go g3
    replace ib := (ib.go g2).go g3
    replace ist := ist.go g3
    replace iss := iss.go g3
    have gg3 := (g1.trans g2).trans g3
    have hT3 := hT.go hB gg3
    have hB3 := g3.1
    have k33 : KeepT H3 H3 := .refl
    refine ⟨hT3, fun f0 H4 kx0 ox0 w0 nx0 lx0 => ⟨w0, fun f1 H5 kx1 ox1 w1 nx1 lx1 => ⟨by show 2 ≤ sizeLine; decide, fun la0 nla0 => ?_⟩⟩⟩
    have sx0 := same_new (o := .lst [.ref f0, .ref f1]) nla0
    have ex0 : upd H5 la0 (.lst [.ref f0, .ref f1]) la0 = some (.lst [.ref f0, .ref f1]) := upd_same
    dsimp only
    generalize upd H5 la0 (.lst [.ref f0, .ref f1]) = H6 at sx0 ex0
    have w0c := w1.same sx0
    have kc0 : KeepT H5 H6 := fun a o e _ => sx0 _ _ e
    have kg0 : KeepT H3 H6 := (kx0.trans kx1).trans kc0
    have og0 : KeepO Pt H3 H6 := (ox0.trans ox1).trans (.same sx0)
    have kt0 : KeepT H3 H6 := kg0
    refine ⟨.ref la0, rfl, w0c, fun f2 H7 kx2 ox2 w2 nx2 lx2 => ⟨w2, fun f3 H8 kx3 ox3 w3 nx3 lx3 => ⟨by show 2 ≤ sizeLine; decide, fun la1 nla1 => ?_⟩⟩⟩
    have sx1 := same_new (o := .lst [.ref f2, .ref f3]) nla1
    have ex1 : upd H8 la1 (.lst [.ref f2, .ref f3]) la1 = some (.lst [.ref f2, .ref f3]) := upd_same
    dsimp only
    generalize upd H8 la1 (.lst [.ref f2, .ref f3]) = H9 at sx1 ex1
    have w1c := w3.same sx1
    have kc1 : KeepT H8 H9 := fun a o e _ => sx1 _ _ e
    have kg1 : KeepT H6 H9 := (kx2.trans kx3).trans kc1
    have og1 : KeepO Pt H6 H9 := (ox2.trans ox3).trans (.same sx1)
    have eo1 := kg1 _ _ ex0 (fun _ z => by cases z)
    refine ⟨la0, la1, _, _, rfl, rfl, eo1, ex1, Nat.le_of_lt (small1000 (Nat.le_of_ble_eq_true rfl)), fun lc1 nlc1 => ?_⟩
    have sd1 := same_new (o := .lst ([.ref f0, .ref f1] ++ [.ref f2, .ref f3])) nlc1
    have ed1 : upd H9 lc1 (.lst ([.ref f0, .ref f1] ++ [.ref f2, .ref f3])) lc1 = some (.lst [.ref f0, .ref f1, .ref f2, .ref f3]) := upd_same
    dsimp only
    generalize upd H9 lc1 (.lst ([.ref f0, .ref f1] ++ [.ref f2, .ref f3])) = H10 at sd1 ed1
    have w1d := w1c.same sd1
    have kd1 : KeepT H9 H10 := fun a o e _ => sd1 _ _ e
    have kh1 : KeepT H6 H10 := kg1.trans kd1
    have kt1 : KeepT H3 H10 := kt0.trans kh1
    have oh1 : KeepO Pt H6 H10 := og1.trans (.same sd1)
    refine ⟨.ref lc1, rfl, w1d, fun f4 H11 kx4 ox4 w4 nx4 lx4 => ⟨w4, fun f5 H12 kx5 ox5 w5 nx5 lx5 => ⟨by show 2 ≤ sizeLine; decide, fun la2 nla2 => ?_⟩⟩⟩
    have sx2 := same_new (o := .lst [.ref f4, .ref f5]) nla2
    have ex2 : upd H12 la2 (.lst [.ref f4, .ref f5]) la2 = some (.lst [.ref f4, .ref f5]) := upd_same
    dsimp only
    generalize upd H12 la2 (.lst [.ref f4, .ref f5]) = H13 at sx2 ex2
    have w2c := w5.same sx2
    have kc2 : KeepT H12 H13 := fun a o e _ => sx2 _ _ e
    have kg2 : KeepT H10 H13 := (kx4.trans kx5).trans kc2
    have og2 : KeepO Pt H10 H13 := (ox4.trans ox5).trans (.same sx2)
    have eo2 := kg2 _ _ ed1 (fun _ z => by cases z)
    refine ⟨lc1, la2, _, _, rfl, rfl, eo2, ex2, Nat.le_of_lt (small1000 (Nat.le_of_ble_eq_true rfl)), fun lc2 nlc2 => ?_⟩
    have sd2 := same_new (o := .lst ([.ref f0, .ref f1, .ref f2, .ref f3] ++ [.ref f4, .ref f5])) nlc2
    have ed2 : upd H13 lc2 (.lst ([.ref f0, .ref f1, .ref f2, .ref f3] ++ [.ref f4, .ref f5])) lc2 = some (.lst [.ref f0, .ref f1, .ref f2, .ref f3, .ref f4, .ref f5]) := upd_same
    dsimp only
    generalize upd H13 lc2 (.lst ([.ref f0, .ref f1, .ref f2, .ref f3] ++ [.ref f4, .ref f5])) = H14 at sd2 ed2
    have w2d := w2c.same sd2
    have kd2 : KeepT H13 H14 := fun a o e _ => sd2 _ _ e
    have kh2 : KeepT H10 H14 := kg2.trans kd2
    have kt2 : KeepT H3 H14 := kt1.trans kh2
    have oh2 : KeepO Pt H10 H14 := og2.trans (.same sd2)
    refine ⟨.ref lc2, rfl, w2d, fun f6 H15 kx6 ox6 w6 nx6 lx6 => ⟨w6, fun f7 H16 kx7 ox7 w7 nx7 lx7 => ⟨by show 2 ≤ sizeLine; decide, fun la3 nla3 => ?_⟩⟩⟩
    have sx3 := same_new (o := .lst [.ref f6, .ref f7]) nla3
    have ex3 : upd H16 la3 (.lst [.ref f6, .ref f7]) la3 = some (.lst [.ref f6, .ref f7]) := upd_same
    dsimp only
    generalize upd H16 la3 (.lst [.ref f6, .ref f7]) = H17 at sx3 ex3
    have w3c := w7.same sx3
    have kc3 : KeepT H16 H17 := fun a o e _ => sx3 _ _ e
    have kg3 : KeepT H14 H17 := (kx6.trans kx7).trans kc3
    have og3 : KeepO Pt H14 H17 := (ox6.trans ox7).trans (.same sx3)
    have eo3 := kg3 _ _ ed2 (fun _ z => by cases z)
    refine ⟨lc2, la3, _, _, rfl, rfl, eo3, ex3, Nat.le_of_lt (small1000 (Nat.le_of_ble_eq_true rfl)), fun lc3 nlc3 => ?_⟩
    have sd3 := same_new (o := .lst ([.ref f0, .ref f1, .ref f2, .ref f3, .ref f4, .ref f5] ++ [.ref f6, .ref f7])) nlc3
    have ed3 : upd H17 lc3 (.lst ([.ref f0, .ref f1, .ref f2, .ref f3, .ref f4, .ref f5] ++ [.ref f6, .ref f7])) lc3 = some (.lst [.ref f0, .ref f1, .ref f2, .ref f3, .ref f4, .ref f5, .ref f6, .ref f7]) := upd_same
    dsimp only
    generalize upd H17 lc3 (.lst ([.ref f0, .ref f1, .ref f2, .ref f3, .ref f4, .ref f5] ++ [.ref f6, .ref f7])) = H18 at sd3 ed3
    have w3d := w3c.same sd3
    have kd3 : KeepT H17 H18 := fun a o e _ => sd3 _ _ e
    have kh3 : KeepT H14 H18 := kg3.trans kd3
    have kt3 : KeepT H3 H18 := kt2.trans kh3
    have oh3 : KeepO Pt H14 H18 := og3.trans (.same sd3)
    -- every lambda stands in H18
    have hBD := hB3.keepT kt3
    have oD : KeepO Pt H H18 := (KeepO.go hB gg3).trans (og0.trans (oh1.trans (oh2.trans oh3)))
    have ioD := io.keepT (KeepB.keepT (b := b) kt3)
    have ibD := ib.keepT (KeepB.keepT (b := b) kt3)
    have istD := ist.keepT (KeepB.keepT (b := b) kt3)
    have issD := iss.keepT (KeepB.keepT (b := b) kt3)
    have igD := ig.keepT (KeepB.keepT (b := b) kt3)
    let due1 : List Sh := [.t [.c (.str "InvalidName"), .t [so]], .t [.c (.str "InvalidNumber"), .t [sb]], .t [.c (.str "InvalidStep"), .t [sst]], .t [.c (.str "TooMany"), .t [.c (.str "steps"), .c (.int 6)]]]
    let due2 : List Sh := [.t [.c (.str "InvalidStep"), .t [.c .non]], .t [.c (.str "InvalidNumber"), .t [sg]], .t [.c (.str "InvalidStep"), .t [sst]], .t [.c (.str ""), .c (.int 1)]]
    let σD : L2.St := [some (.ref b), some (.str z), some vr, some vl, some (.ref lc3), none, some vb, some vg, some vo, some vs, some vst]
    have one : ∀ {σ' : L2.St} {H' : Hp} {te : TE} {code : Str} {s' : Sh}, Ev1 b te σ' H' s' → Ev1 b (tTup (tCons (tC (.str code)) (tCons (tTup (tCons te tNil)) tNil))) σ' H' (.t [.c (.str code), .t [s']]) := fun h => e_tup (n_cons e_c (n_cons (e_tup (n_cons h n_nil) (Nat.le_of_ble_eq_true rfl)) n_nil)) (Nat.le_of_ble_eq_true rfl)
    refine q_set (b := b) (σ := σD) (s := .l due1) hBD (e_lst (n_cons (one (e_var (i := 8) rfl ioD)) (n_cons (one (e_var (i := 6) rfl ibD)) (n_cons (one (e_var (i := 10) rfl istD)) (n_cons (e_tup (n_cons e_c (n_cons (e_tup (n_cons e_c (n_cons e_c n_nil)) (Nat.le_of_ble_eq_true rfl)) n_nil)) (Nat.le_of_ble_eq_true rfl)) n_nil)))) (Nat.le_of_ble_eq_true rfl)) fun yd1 HX gX iX => ?_
    let σX : L2.St := [some (.ref b), some (.str z), some vr, some vl, some (.ref lc3), some yd1, some vb, some vg, some vo, some vs, some vst]
    refine q_set (b := b) (σ := σX) (s := .l (due1 ++ due2)) gX.1 (e_cat (e_var (i := 5) rfl iX) (e_lst (n_cons (one e_c) (n_cons (one (e_var (i := 7) rfl (igD.go gX))) (n_cons (one (e_var (i := 10) rfl (istD.go gX))) (n_cons (e_tup (n_cons e_c (n_cons e_c n_nil)) (Nat.le_of_ble_eq_true rfl)) n_nil)))) (Nat.le_of_ble_eq_true rfl)) (Nat.le_of_ble_eq_true rfl)) fun yd HE gE iE => ?_
    have gDE := gX.trans gE
    have nlb : lc3 ≠ b := fun e => by
      obtain ⟨xb, eb⟩ := hBD.some
      rw [e, eb] at ed3
      obtain ⟨xs, eb2⟩ := (hB3.keepT (kt2.trans kg3)).some
      rw [e, eb2] at nlc3
      cases nlc3
    have eE := gDE.2 _ _ nlb ed3
    have tE := w3d.go hBD gDE
    have ioE := ioD.go gDE
    have ibE := ibD.go gDE
    have istE := istD.go gDE
    have issE := issD.go gDE
    have igE := igD.go gDE
    have kDE : Keeps H18 HE := ⟨fun a o u e => gDE.2 _ _ (fun z => by obtain ⟨xb, eb⟩ := hBD.some; rw [z, eb] at e; cases e) e, fun a xs e => gDE.2 _ _ (fun z => by obtain ⟨xb, eb⟩ := hBD.some; rw [z, eb] at e; cases e) e⟩
    refine ⟨.ref lc3, rfl, fun Hz fz fv => ⟨lc3, [f0, f1, f2, f3, f4, f5, f6, f7], [.err "InvalidName" [vo], .err "InvalidNumber" [vb], .err "InvalidStep" [vst], .err "TooMany" [.str "steps", .int 6], .err "InvalidStep" [.non], .err "InvalidNumber" [vg], .err "InvalidStep" [vst], .val (.int 1)], rfl, fz.same _ _ eE, Nat.le_of_ble_eq_true rfl, ?_, fun H8' p us s8 np ep pu => ?_⟩⟩
    · have kz : Keeps H18 Hz := kDE.trans (.same fz.same)
      obtain ⟨nO, pO, lO⟩ := okSh_val (p := fun v => !isNm v) (fun _ => rfl) okO ioE
      obtain ⟨nB, pB, _⟩ := okSh_val (p := fun v => !isNum v 1 60) (fun _ => rfl) okB ibE
      obtain ⟨nG, pG, _⟩ := okSh_val (p := fun v => !isNum v 1 1000000) (fun _ => rfl) okG igE
      obtain ⟨tst, kst⟩ := plain_kd (K := K) plS istE
      have nO' : isNm vo = false := by simpa using nO
      have nB' : isNum vb 1 60 = false := by simpa using nB
      have nG' : isNum vg 1 1000000 = false := by simpa using nG
      obtain ⟨sa, sd, slst, es, nsa, nsl, esa, esl⟩ := is_step issE
      subst es
      have sV : IsStepV T HE (.ref sa) := ⟨sa, sd, _, rfl, esa⟩
      have lz : ∀ u, V.str z = .str u → u.length ≤ 1000 := fun u e => by cases e; exact hzl
      have n5 : isNum (.int 5) 1 60 = true := by decide
      have n60 : isNum (.int 60) 1 60 = true := by decide
      have allS : ∀ {n : Nat} {H : Hp}, Same HE H → ∀ x, x ∈ List.replicate n (V.ref sa) → IsStepV T H x := fun s x m => by rw [List.eq_of_mem_replicate m]; exact sV.same s
      refine .cons ?_ (.cons ?_ (.cons ?_ (.cons ?_ (.cons ?_ (.cons ?_ (.cons ?_ (.cons ?_ .nil)))))))
      · exact lam_err fz fv cells_inj (lx0.keep (((((kx1.trans kc0).trans kh1).trans kh2).trans kh3).keeps.trans kz)) (free_ok rfl) (Nl := ["_law_odd_here", "_law_bad", "_law_strange", "_law_gone"]) (ps := []) (σl := [some (vo), some (vb), some (vst), some (vg)]) ⟨rfl, rfl, rfl, by decide +kernel, by decide +kernel, by decide +kernel⟩
          (hval4 8 6 10 7 rfl rfl rfl rfl rfl rfl rfl rfl rfl rfl rfl rfl) rfl (fun _ => ⟨rfl, fun _ _ _ _ => rfl⟩) (fun h => absurd rfl h)
          (tb := fun E => tMakeSK T.aTrain 2 (spTI T) E (tCons (tVar 0) (tCons (tVar 1) (tCons (tVar 2) tNil))) (tCons (tVar 3) tNil))
          (fun c' A outer s H' E hr => pe_makeSK T.kTrain.made (ok_mt_init T) (hr.mono (by decide)) (by rfl) T.c_Train (L2N.passes_call (L2N.takes_of rfl rfl rfl rfl) (fun _ _ _ _ h => h)) (pa_cons (pv 0) (pa_cons (pv 1) (pa_cons (pv 2) pa_nil))) (pk_cons (pv 3) pk_nil))
          (fun H Q E s he => ⟨vo, rfl, vb, rfl, vst, rfl, vg, rfl, [vo, vb], [vst], vg, rfl, rfl, rfl, Nat.le_of_lt (small1000 (Nat.le_of_ble_eq_true rfl)), mk_train_err (K := K) (pO.same s).kd lO (pB.same s).kd (pG.same s).kd (Nat.le_of_ble_eq_true rfl) (.name nO') he⟩)
      · exact lam_err fz fv cells_inj (lx1.keep ((((kc0.trans kh1).trans kh2).trans kh3).keeps.trans kz)) (free_ok rfl) (Nl := ["_law_word", "_law_bad", "_law_strange", "_law_gone"]) (ps := ["_law_a"]) (σl := [some (.str z), some (vb), some (vst), some (vg)]) ⟨rfl, rfl, rfl, by decide +kernel, by decide +kernel, by decide +kernel⟩
          (hval4 1 6 10 7 rfl rfl rfl rfl rfl rfl rfl rfl rfl rfl rfl rfl) rfl (fun h => nomatch h) (fun _ A doc pm cv ctv its hl => ⟨_, rfl, match its, hl with | [_], _ => rfl⟩)
          (tb := fun E => tMakeSK T.aTrain 2 (spTI T) E (tCons (tVar 0) (tCons (tVar 1) (tCons (tVar 2) tNil))) (tCons (tVar 3) tNil))
          (fun c' A outer s H' E hr => pe_makeSK T.kTrain.made (ok_mt_init T) (hr.mono (by decide)) (by rfl) T.c_Train (L2N.passes_call (L2N.takes_of rfl rfl rfl rfl) (fun _ _ _ _ h => h)) (pa_cons (pv 0) (pa_cons (pv 1) (pa_cons (pv 2) pa_nil))) (pk_cons (pv 3) pk_nil))
          (fun H Q E s he => ⟨.str z, rfl, vb, rfl, vst, rfl, vg, rfl, [.str z, vb], [vst], vg, rfl, rfl, rfl, Nat.le_of_lt (small1000 (Nat.le_of_ble_eq_true rfl)), mk_train_err (K := K) ⟨_, .sc rfl⟩ lz (pB.same s).kd (pG.same s).kd (Nat.le_of_ble_eq_true rfl) (.len hz nB') he⟩)
      · exact lam_err fz fv cells_inj (lx2.keep (((((kx3.trans kc1).trans kd1).trans kh2).trans kh3).keeps.trans kz)) (free_ok rfl) (Nl := ["_law_word", "_law_s", "_law_strange", "_law_gone"]) (ps := ["_law_b"]) (σl := [some (.str z), some (.ref sa), some (vst), some (vg)]) ⟨rfl, rfl, rfl, by decide +kernel, by decide +kernel, by decide +kernel⟩
          (hval4 1 9 10 7 rfl rfl rfl rfl rfl rfl rfl rfl rfl rfl rfl rfl) rfl (fun h => nomatch h) (fun _ A doc pm cv ctv its hl => ⟨_, rfl, match its, hl with | [_], _ => rfl⟩)
          (tb := fun E => tMakeSK T.aTrain 2 (spTI T) E (tCons (tVar 0) (tCons (tC (.int 5)) (tCons (tVar 1) (tCons (tVar 2) (tCons (tC .non) tNil))))) (tCons (tVar 3) tNil))
          (fun c' A outer s H' E hr => pe_makeSK T.kTrain.made (ok_mt_init T) (hr.mono (by decide)) (by rfl) T.c_Train (L2N.passes_call (L2N.takes_of rfl rfl rfl rfl) (fun _ _ _ _ h => h)) (pa_cons (pv 0) (pa_cons pe_int (pa_cons (pv 1) (pa_cons (pv 2) (pa_cons pe_non pa_nil))))) (pk_cons (pv 3) pk_nil))
          (fun H Q E s he => ⟨.str z, rfl, .ref sa, rfl, vst, rfl, vg, rfl, [.str z, .int 5], [.ref sa, vst, .non], vg, rfl, rfl, rfl, Nat.le_of_lt (small1000 (Nat.le_of_ble_eq_true rfl)), mk_train_err (K := K) ⟨_, .sc rfl⟩ lz ⟨_, .sc rfl⟩ (pG.same s).kd (Nat.le_of_ble_eq_true rfl) (.step hz n5 ⟨1, rfl, ⟨tst, kst.same s⟩, fun j y hj hy => by match j, hj, hy with | 0, _, h => cases h; exact sV.same s⟩) he⟩)
      · exact lam_err fz fv cells_inj (lx3.keep ((((kc1.trans kd1).trans kh2).trans kh3).keeps.trans kz)) (free_ok rfl) (Nl := ["_law_word", "_law_s", "_law_gone"]) (ps := ["_law_c"]) (σl := [some (.str z), some (.ref sa), some (vg)]) ⟨rfl, rfl, rfl, by decide +kernel, by decide +kernel, by decide +kernel⟩
          (hval3 1 9 7 rfl rfl rfl rfl rfl rfl rfl rfl rfl) rfl (fun h => nomatch h) (fun _ A doc pm cv ctv its hl => ⟨_, rfl, match its, hl with | [_], _ => rfl⟩)
          (tb := fun E => tMakeSK T.aTrain 2 (spTI T) E (tCons (tVar 0) (tCons (tC (.int 5)) (tCons (tVar 1) (tCons (tVar 1) (tCons (tVar 1) (tCons (tVar 1) (tCons (tVar 1) (tCons (tVar 1) (tCons (tVar 1) tNil))))))))) (tCons (tVar 2) tNil))
          (fun c' A outer s H' E hr => pe_makeSK T.kTrain.made (ok_mt_init T) (hr.mono (by decide)) (by rfl) T.c_Train (L2N.passes_call (L2N.takes_of rfl rfl rfl rfl) (fun _ _ _ _ h => h)) (pa_cons (pv 0) (pa_cons pe_int (pa_cons (pv 1) (pa_cons (pv 1) (pa_cons (pv 1) (pa_cons (pv 1) (pa_cons (pv 1) (pa_cons (pv 1) (pa_cons (pv 1) pa_nil))))))))) (pk_cons (pv 2) pk_nil))
          (fun H Q E s he => ⟨.str z, rfl, .ref sa, rfl, .ref sa, rfl, .ref sa, rfl, .ref sa, rfl, .ref sa, rfl, .ref sa, rfl, .ref sa, rfl, vg, rfl, [.str z, .int 5], [.ref sa, .ref sa, .ref sa, .ref sa, .ref sa, .ref sa, .ref sa], vg, rfl, rfl, rfl, Nat.le_of_lt (small1000 (Nat.le_of_ble_eq_true rfl)), mk_train_err (K := K) ⟨_, .sc rfl⟩ lz ⟨_, .sc rfl⟩ (pG.same s).kd (Nat.le_of_ble_eq_true rfl) (.many hz n5 (allS (n := 7) s) (by show 6 < 7; decide)) he⟩)
      · exact lam_err fz fv cells_inj (lx4.keep ((((kx5.trans kc2).trans kd2).trans kh3).keeps.trans kz)) (free_ok rfl) (Nl := ["_law_word", "_law_gone"]) (ps := ["_law_d"]) (σl := [some (.str z), some (vg)]) ⟨rfl, rfl, rfl, by decide +kernel, by decide +kernel, by decide +kernel⟩
          (hval2 1 7 rfl rfl rfl rfl rfl rfl) rfl (fun h => nomatch h) (fun _ A doc pm cv ctv its hl => ⟨_, rfl, match its, hl with | [_], _ => rfl⟩)
          (tb := fun E => tMakeSK T.aTrain 2 (spTI T) E (tCons (tVar 0) (tCons (tC (.int 5)) tNil)) (tCons (tVar 1) tNil))
          (fun c' A outer s H' E hr => pe_makeSK T.kTrain.made (ok_mt_init T) (hr.mono (by decide)) (by rfl) T.c_Train (L2N.passes_call (L2N.takes_of rfl rfl rfl rfl) (fun _ _ _ _ h => h)) (pa_cons (pv 0) (pa_cons pe_int pa_nil)) (pk_cons (pv 1) pk_nil))
          (fun H Q E s he => ⟨.str z, rfl, vg, rfl, [.str z, .int 5], [], vg, rfl, rfl, rfl, Nat.le_of_lt (small1000 (Nat.le_of_ble_eq_true rfl)), mk_train_err (K := K) ⟨_, .sc rfl⟩ lz ⟨_, .sc rfl⟩ (pG.same s).kd (Nat.le_of_ble_eq_true rfl) (.none hz n5 rfl) he⟩)
      · exact lam_err fz fv cells_inj (lx5.keep (((kc2.trans kd2).trans kh3).keeps.trans kz)) (free_ok rfl) (Nl := ["_law_word", "_law_s", "_law_gone"]) (ps := ["_law_f"]) (σl := [some (.str z), some (.ref sa), some (vg)]) ⟨rfl, rfl, rfl, by decide +kernel, by decide +kernel, by decide +kernel⟩
          (hval3 1 9 7 rfl rfl rfl rfl rfl rfl rfl rfl rfl) rfl (fun h => nomatch h) (fun _ A doc pm cv ctv its hl => ⟨_, rfl, match its, hl with | [_], _ => rfl⟩)
          (tb := fun E => tMakeSK T.aTrain 2 (spTI T) E (tCons (tVar 0) (tCons (tC (.int 60)) (tCons (tVar 1) tNil))) (tCons (tVar 2) tNil))
          (fun c' A outer s H' E hr => pe_makeSK T.kTrain.made (ok_mt_init T) (hr.mono (by decide)) (by rfl) T.c_Train (L2N.passes_call (L2N.takes_of rfl rfl rfl rfl) (fun _ _ _ _ h => h)) (pa_cons (pv 0) (pa_cons pe_int (pa_cons (pv 1) pa_nil))) (pk_cons (pv 2) pk_nil))
          (fun H Q E s he => ⟨.str z, rfl, .ref sa, rfl, vg, rfl, [.str z, .int 60], [.ref sa], vg, rfl, rfl, rfl, Nat.le_of_lt (small1000 (Nat.le_of_ble_eq_true rfl)), mk_train_err (K := K) ⟨_, .sc rfl⟩ lz ⟨_, .sc rfl⟩ (pG.same s).kd (Nat.le_of_ble_eq_true rfl) (.out hz n60 (allS (n := 1) s) (by show 1 ≤ 1; decide) (by show 1 ≤ 6; decide) nG') he⟩)
      · exact lam_err fz fv cells_inj (lx6.keep (((kx7.trans kc3).trans kd3).keeps.trans kz)) (free_ok rfl) (Nl := ["_law_word", "_law_s", "_law_strange"]) (ps := ["_law_g"]) (σl := [some (.str z), some (.ref sa), some (vst)]) ⟨rfl, rfl, rfl, by decide +kernel, by decide +kernel, by decide +kernel⟩
          (hval3 1 9 10 rfl rfl rfl rfl rfl rfl rfl rfl rfl) rfl (fun h => nomatch h) (fun _ A doc pm cv ctv its hl => ⟨_, rfl, match its, hl with | [_], _ => rfl⟩)
          (tb := fun E => tMakeS T.aTrain 2 (.int 1) (spTI T) E (tCons (tVar 0) (tCons (tC (.int 5)) (tCons (tVar 1) (tCons (tVar 1) (tCons (tVar 1) (tCons (tVar 1) (tCons (tVar 1) (tCons (tVar 1) (tCons (tVar 2) tNil))))))))))
          (fun c' A outer s H' E hr => pe_makeS T.kTrain.made (ok_mt_init T) (hr.mono (by decide)) (by rfl) T.c_Train (L2N.passes_call (L2N.takes_of rfl rfl rfl rfl) (fun _ _ _ _ h => h)) (pa_cons (pv 0) (pa_cons pe_int (pa_cons (pv 1) (pa_cons (pv 1) (pa_cons (pv 1) (pa_cons (pv 1) (pa_cons (pv 1) (pa_cons (pv 1) (pa_cons (pv 2) pa_nil))))))))))
          (fun H Q E s he => ⟨.str z, rfl, .ref sa, rfl, .ref sa, rfl, .ref sa, rfl, .ref sa, rfl, .ref sa, rfl, .ref sa, rfl, vst, rfl, [.str z, .int 5], [.ref sa, .ref sa, .ref sa, .ref sa, .ref sa, .ref sa, vst], rfl, rfl, Nat.le_of_lt (small1000 (Nat.le_of_ble_eq_true rfl)), mk_train_err (K := K) ⟨_, .sc rfl⟩ lz ⟨_, .sc rfl⟩ ⟨_, .sc rfl⟩ (Nat.le_of_ble_eq_true rfl) (.step hz n5 ⟨6, rfl, ⟨tst, kst.same s⟩, fun j y hj hy => by match j, hj, hy with | 0, _, h => cases h; exact sV.same s | 1, _, h => cases h; exact sV.same s | 2, _, h => cases h; exact sV.same s | 3, _, h => cases h; exact sV.same s | 4, _, h => cases h; exact sV.same s | 5, _, h => cases h; exact sV.same s⟩) he⟩)
      · refine lam_val fz fv cells_inj (lx7.keep ((kc3.trans kd3).keeps.trans kz)) (free_ok rfl) (Nl := ["_law_word", "_law_s"]) (ps := ["_law_h"]) (σl := [some (.str z), some (.ref sa)]) ⟨rfl, rfl, rfl, by decide +kernel, by decide +kernel, by decide +kernel⟩
          (hval2 1 9 rfl rfl rfl rfl rfl rfl) rfl (fun h => nomatch h) (fun _ A doc pm cv ctv its hl => ⟨_, rfl, match its, hl with | [_], _ => rfl⟩)
          (tb := fun E => tFld K (tMakeS T.aTrain 2 (.int 1) (spTI T) E (tCons (tVar 0) (tCons (tC (.int 1)) (tCons (tVar 1) tNil)))) "out")
          (fun c' A outer s H' E hr => pe_fld (pe_makeS T.kTrain.made (ok_mt_init T) (hr.mono (by decide)) (by rfl) T.c_Train (L2N.passes_call (L2N.takes_of rfl rfl rfl rfl) (fun _ _ _ _ h => h)) (pa_cons (pv 0) (pa_cons pe_int (pa_cons (pv 1) pa_nil)))) (by rfl))
          (fun H Q E s hq => ?_)
        have mkA : ∀ (Kq : VK), (∀ a d l H', Same H H' → H' a = some (.ins T.aTrain d (trainF (.str z) (.int 1) (.int 1) (.ref l))) → Kq (.ref a) H') →
            tMakeS T.aTrain 2 (.int 1) (spTI T) E (tCons (tVar 0) (tCons (tC (.int 1)) (tCons (tVar 1) tNil))) [some (.str z), some (.ref sa)] H Kq := by
          intro Kq hK
          exact ⟨.str z, rfl, .ref sa, rfl, [.str z, .int 1], [.ref sa], rfl, rfl, Nat.le_of_lt (small1000 (Nat.le_of_ble_eq_true rfl)), mk_train (len := 1) (out := 1) hz (by decide) (by decide) (allS (n := 1) s) (by show 1 ≤ 1; decide) (by show 1 ≤ 6; decide) fun a d l H' s' na nl ea el => hK a d l H' s' ea⟩
        exact mkA _ fun a d l H' s' ea => ⟨a, _, d, _, .int 1, rfl, ea, T.kTrain.cls, T.kTrain.noA "out", rfl, hq _ s'⟩
    · have s9 := fz.back s8
      have k89' : ∀ a xs, H8' a = some (.tup xs) → offC H8' (cellsOf _) a = some (.tup xs) := fun a xs e => fz.kept s8 e fun _ _ z => by cases z
      have ep9 := fz.kept s8 ep fun _ _ z => by cases z
      cases pu with | cons h0 pu => cases pu with | cons h1 pu => cases pu with | cons h2 pu => cases pu with | cons h3 pu => cases pu with | cons h4 pu => cases pu with | cons h5 pu => cases pu with | cons h6 pu => cases pu with | cons h7 pu => cases pu with | nil =>
      replace h0 := h0.keep k89'
      replace h1 := h1.keep k89'
      replace h2 := h2.keep k89'
      replace h3 := h3.keep k89'
      replace h4 := h4.keep k89'
      replace h5 := h5.keep k89'
      replace h6 := h6.keep k89'
      replace h7 := h7.keep k89'
      obtain ⟨xb, eb⟩ := gE.1.some
      have pb : p ≠ b := fun e => by rw [e, fz.same _ _ eb] at np; cases np
      dsimp only
      generalize offC H8' _ = H9' at s9 ep9 h0 h1 h2 h3 h4 h5 h6 h7
      have eb9 := s9 _ _ eb
      have is9 : Is b H9' (.l (due1 ++ due2)) (.ref p) := ⟨p, _, rfl, pb, ep9, _, _, rfl, told_err eb9 h0 (ioE.same s9), _, _, rfl, told_err eb9 h1 (ibE.same s9), _, _, rfl, told_err eb9 h2 (istE.same s9), _, _, rfl, told_err2 eb9 h3, _, _, rfl, told_err (s := .c .non) eb9 h4 rfl, _, _, rfl, told_err eb9 h5 (igE.same s9), _, _, rfl, told_err eb9 h6 (istE.same s9), _, _, rfl, told_val (s := .c (.int 1)) eb9 h7 rfl, rfl⟩
      have dt : det 6 (.l (due1 ++ due2)) = true := by
        show (true && ((true && (true && ((true && (det 3 so && true)) && true))) && ((true && (true && ((true && (det 3 sb && true)) && true))) && ((true && (true && ((true && (det 3 sst && true)) && true))) && ((true && (true && ((true && (true && (true && true))) && true))) && ((true && (true && ((true && (true && true)) && true))) && ((true && (true && ((true && (det 3 sg && true)) && true))) && ((true && (true && ((true && (det 3 sst && true)) && true))) && ((true && (true && (true && true))) && true))))))))) = true
        rw [dO, dB, dS, dG]
        rfl
      refine ⟨yd, rfl, .ref p, yd, rfl, eqv_det (n := 6) dt is9 (iE.same s9), fun H11 s11 => ?_⟩
      have kE : KeepB b H H11 := (((KeepB.go gg3).trans (.keepT kt3)).trans (.go gDE)).trans ((KeepB.same s9).trans (.same s11))
      exact q H11 ((gE.1.same s9).same s11) ((tE.same s9).same s11) kE (oD.trans ((KeepO.go hBD gDE).trans ((KeepO.same s9).trans (.same s11))))
end
end Rd
set_option maxHeartbeats 4000000
namespace Rd
open PySem PySem.Spec PyProof.Rows L2 L2H HotX
theorem wordK_len {z : Str} {d f g : Int} {k : Nat} (l : z.length ≤ 3) (d0 : 0 ≤ d) (d1 : d ≤ z.length) : (wordK z d f g k).length ≤ 4 := by
  have el := wordK_list z d f g k
  rw [cut_pre z d0 d1, cut_post z d0 d1] at el
  have hl : (wordK z d f g k).length = z.length + 1 := by
    show (wordK z d f g k).cps.size = _
    rw [← Array.length_toList, el, List.length_append, List.length_append, List.length_take, List.length_drop, Array.length_toList]
    show min d.toNat z.length + 1 + (z.length - d.toNat) = z.length + 1
    omega
  omega
theorem nm_x {z : Str} (h : isNm (.str z) = true) (l : z.length ≤ 5) : isNm (.str (z ++ "x")) = true := by
  rw [isNm_str] at h ⊢
  have lx : (("x" : Str)).length = 1 := by decide
  have ex : (z ++ "x").cps.toList = z.cps.toList ++ [120] := by
    show (z.cps ++ ("x" : Str).cps).toList = _
    rw [Array.toList_append, show ("x" : Str).cps.toList = [120] by decide]
  simp only [Bool.and_eq_true, decide_eq_true_eq] at h
  rw [app_len, lx, ex, List.all_append, h.2, decide_eq_true (by omega), decide_eq_true (by omega)]
  decide
section
variable {P : Program} {w : World} {K : PySem.W.Frag} {mg : Str → Option Value} {base : Heap}
def spWordsL : Sp := fun vs H Q _ => ∃ (b : Addr) (n : Nat), vs = [.ref b, .int n] ∧ Bag H b ∧ n ≤ 26 ∧
  ∀ (p : Addr) (f : Nat → Str) H', Go b H H' → H p = none → p ≠ b → H' p = some (.lst ((List.range n).map fun i => V.str (f i))) → (∀ i, i < n → isNm (.str (f i)) = true ∧ (f i).length ≤ 4) → (∀ i j, i < n → j < n → f i = f j → i = j) → Q (.ref p) H'
theorem ok_law_wordsL (T : Txt K mg) : FnOk P w K mg base CX0 3 T.d__law_words.f T.d__law_words.fd ["_law_bag_here", "_law_many"] spWordsL := by
  refine T.d__law_words.F.ok sc_law_words (fun vs H Q E h => ?_) (fun cdv A outer s H vs Q E hr h => ?_)
  · obtain ⟨b, n, rfl, _⟩ := h
    rfl
  · obtain ⟨b, n, rfl, hB, hn, q⟩ := h
    refine ⟨_, (pss_cons (ps_asg (pe_tup (pa_cons pe_str (pa_cons pe_str pa_nil))) (pg_tup rfl (pgs_cons (pg_name (i := 2) sc_law_words.nd rfl (Or.inr rfl)) (pgs_cons (pg_name (i := 3) sc_law_words.nd rfl (Or.inr rfl)) pgs_nil))))
      (pss_cons (ps_for PassesOwn.never rfl (pi_range1 (by rfl) T.z_range (pa_cons (pe_call (ok_law_draw T) (hr.mono (by decide)) (by rfl) T.d__law_draw.g T.d__law_draw.F.kp T.d__law_draw.b .nil pass0 (pa_cons (pv 0) (pa_cons pe_int pa_nil))) pa_nil)) (pg_name (i := 4) sc_law_words.nd rfl (Or.inl rfl)) (pss_one (ps_set (i := 3) sc_law_words.nd rfl (Or.inr rfl) (pe_op op_add_str (pv 3) (pe_call (ok_law_ofS T) (hr.mono (by decide)) (by rfl) T.d__law_of.g T.d__law_of.F.kp T.d__law_of.b .nil pass0 (pa_cons (pv 0) (pa_cons (pv 2) pa_nil)))))))
      (pss_cons (ps_asg (pe_tup (pa_cons (pe_call (ok_law_draw T) (hr.mono (by decide)) (by rfl) T.d__law_draw.g T.d__law_draw.F.kp T.d__law_draw.b .nil pass0 (pa_cons (pv 0) (pa_cons (pe_op op_add (pe_callB call_len_str (by rfl) T.z_len (by decide +kernel) (pa_cons (pv 3) pa_nil)) pe_int) pa_nil))) (pa_cons (pe_call (ok_law_draw T) (hr.mono (by decide)) (by rfl) T.d__law_draw.g T.d__law_draw.F.kp T.d__law_draw.b .nil pass0 (pa_cons (pv 0) (pa_cons pe_int pa_nil))) (pa_cons (pe_call (ok_law_ofL T) (hr.mono (by decide)) (by rfl) T.d__law_of.g T.d__law_of.F.kp T.d__law_of.b .nil pass0 (pa_cons (pv 0) (pa_cons (pe_lst (pa_cons pe_int (pa_cons pe_int (pa_cons pe_int (pa_cons pe_int (pa_cons pe_int (pa_cons pe_int (pa_cons pe_int pa_nil)))))))) pa_nil))) pa_nil)))) (pg_tup rfl (pgs_cons (pg_name (i := 5) sc_law_words.nd rfl (Or.inr rfl)) (pgs_cons (pg_name (i := 6) sc_law_words.nd rfl (Or.inr rfl)) (pgs_cons (pg_name (i := 7) sc_law_words.nd rfl (Or.inr rfl)) pgs_nil)))))
      (pss_one (ps_ret (pe_lc (own := [("_law_k", 4)]) (g := gName 4) (tt := tYes) (by rfl) sc_law_words.nd (pi_range1 (by rfl) T.z_range (pa_cons (pv 1) pa_nil)) (blkOk_by (own := [("_law_k", 4)]) (N := N_law_words) (sc := defScope s_law_words) (by decide +kernel)) (fun _ _ _ _ _ => (pg_name (i := 4) sc_law_words.nd rfl (Or.inl rfl))) (fun _ _ _ _ _ => pts_nil) (fun _ _ _ _ _ => (pe_op op_add_str (pe_op op_add_str (pe_slice sl_str (pv 3) po_none (po_some (pv 5))) (pe_ix ix_str (pv 2) (pe_op op_mod (pe_callTy call_int1 (by rfl) T.z_int (by decide +kernel) (pa_cons (pe_op op_add (pv 6) (pe_op op_mul (pv 7) (pv 4))) pa_nil)) pe_int) (fun _ _ => rfl))) (pe_slice sl_str (pv 3) (po_some (pv 5)) po_none))))))))), ?_⟩
    refine ⟨by show 2 ≤ sizeLine; decide, fun p np => ?_⟩
    refine ⟨p, _, rfl, SqT.of upd_same, rfl, .str "abcdefghijklmnopqrstuvwxyz", _, rfl, .str "", _, rfl, rfl, ?_⟩
    have g1 : Go b H (upd H p (.tup [.str "abcdefghijklmnopqrstuvwxyz", .str ""])) := (Go.refl hB).new np
    generalize upd H p (.tup [.str "abcdefghijklmnopqrstuvwxyz", .str ""]) = H1 at g1
    refine ⟨.ref b, rfl, b, 4, rfl, g1.1, by decide, by decide, fun d H2 g2 d0 d1 => ⟨d, rfl, by omega, by omega, for_range (n := d.toNat) (fun i σ H3 => Go b H H3 ∧ ∃ z v4, σ = [some (.ref b), some (.int n), some (.str "abcdefghijklmnopqrstuvwxyz"), some (.str z), v4, none, none, none] ∧ z.length = i ∧ z.cps.toList.all low = true) ⟨g1.trans g2, "", none, rfl, rfl, rfl⟩ ?_ ?_⟩⟩
    · rintro i σ H3 hi ⟨g3, z, v4, rfl, hl, hz⟩
      refine ⟨.str z, rfl, .ref b, rfl, .str "abcdefghijklmnopqrstuvwxyz", rfl, b, _, rfl, g3.1, by decide, by decide, fun c H4 g4 hc => ?_⟩
      refine ⟨z, _, rfl, rfl, ?_, g3.trans g4, z ++ ⟨#[c]⟩, _, rfl, ?_, ?_⟩
      · show z.length + 1 ≤ sizeLine
        exact Nat.le_of_lt (small1000 (by omega))
      · show (z.cps ++ #[c]).size = i + 1
        rw [Array.size_append]
        show z.length + 1 = i + 1
        omega
      · show (z.cps ++ #[c]).toList.all low = true
        rw [Array.toList_append, List.all_append, hz, List.all_cons, ← letters_low, decide_eq_true hc]
        rfl
    · rintro σ H3 ⟨g3, z, v4, rfl, hl, hz⟩
      have hl3 : z.length ≤ 3 := by omega
      have zs : z.length ≤ sizeLine := Nat.le_of_lt (small1000 (by omega))
      refine ⟨.ref b, rfl, .str z, rfl, z, rfl, zs, _, _, rfl, rfl, b, _, rfl, g3.1, by omega, by omega, fun at_ H4 g4 a0 a1 => ?_⟩
      refine ⟨.ref b, rfl, b, 26, rfl, g4.1, by decide, by decide, fun f H5 g5 f0 f1 => ?_⟩
      refine ⟨.ref b, rfl, by show 7 ≤ sizeLine; decide, fun pl nl => ⟨b, pl, gaps, rfl, g5.1.new nl, (g5.1.ne nl), upd_same, by decide, by decide, fun gv H6 g6 hg => ?_⟩⟩
      obtain ⟨g, rfl, h1, h2⟩ : ∃ g, gv = V.int g ∧ 0 ≤ g ∧ g ≤ 15 := by
        simp only [gaps, List.mem_cons, List.not_mem_nil, or_false] at hg
        rcases hg with h | h | h | h | h | h | h <;> exact ⟨_, h, by decide, by decide⟩
      have g7 : Go b H H6 := g3.trans (g4.trans (g5.trans (((Go.refl g5.1).new nl).trans g6)))
      refine ⟨by show 3 ≤ sizeLine; decide, fun pt nt => ?_⟩
      refine ⟨pt, _, rfl, SqT.of upd_same, rfl, .int at_, _, rfl, .int f, _, rfl, .int g, _, rfl, rfl, ?_⟩
      have g8 := g7.new (o := .tup [.int at_, .int f, .int g]) nt
      generalize upd H6 pt (.tup [.int at_, .int f, .int g]) = H7 at g8
      refine ⟨.int n, rfl, n, rfl, by omega, by omega, fun D nD => ?_⟩
      have nDb : D ≠ b := g8.1.ne nD
      have a1' : at_ ≤ z.length := by omega
      refine lc_range (lo := 0) (n := (n : Int).toNat) (fun i H8 => Go b H H8 ∧ H8 D = some (.lst ((List.range i).map fun k => V.str (wordK z at_ f g k)))) ⟨g8.new nD, upd_same⟩ ?_ ?_
      · rintro i H8 hi ⟨g9, eD⟩
        refine ⟨rfl, ?_⟩
        refine ⟨.str z, rfl, .int at_, rfl, at_, rfl, z, rfl, zs, ?_⟩
        refine ⟨.str "abcdefghijklmnopqrstuvwxyz", rfl, .int f, rfl, .int g, rfl, .int (0 + (i : Int)), rfl, ?_⟩
        have hi26 : i < 26 := by omega
        refine ⟨g, _, rfl, rfl, .inl ⟨by omega, by omega⟩, f, _, rfl, rfl, .inl ⟨_, rfl, _, 26, rfl, rfl, (by show (0 : Int) < 26; decide), ?_⟩⟩
        rw [Int.zero_add]
        have m0 := Int.emod_nonneg (f + g * (i : Int)) (show (26 : Int) ≠ 0 by decide)
        have m1 := Int.emod_lt_of_pos (f + g * (i : Int)) (show (0 : Int) < 26 by decide)
        refine ⟨_, _, _, rfl, rfl, by decide, letter_at m0 m1, ?_⟩
        have lc : (cutS z none (some at_)).length ≤ 3 := Nat.le_trans (cutS_length _ _ _) hl3
        have lc2 : (cutS z (some at_) none).length ≤ 3 := Nat.le_trans (cutS_length _ _ _) hl3
        refine ⟨_, _, rfl, rfl, Nat.le_of_lt (small1000 (by show _ + 1 ≤ 1000; omega)), .str z, rfl, .int at_, rfl, at_, rfl, z, rfl, zs, _, _, rfl, rfl, Nat.le_of_lt (small1000 (by show (Array.size (_ ++ #[_])) + _ ≤ 1000; rw [Array.size_append]; show (cutS z none (some at_)).length + 1 + _ ≤ 1000; omega)), ?_⟩
        refine ⟨_, eD, by rw [List.length_map, List.length_range]; exact small1000 (by omega), g9.put hB (g8.back hB nD), ?_⟩
        rw [upd_same, List.range_succ, List.map_append]
        rfl
      · rintro H8 ⟨g9, eD⟩
        exact q D (wordK z at_ f g) H8 g9 (g8.back hB nD) nDb eD (fun i hi => ⟨wordK_nm hz hl3 a0 a1', wordK_len hl3 a0 a1'⟩) (fun i j hi hj e => wordK_inj hg (by omega) (by omega) e)
end
end Rd
set_option maxHeartbeats 4000000
namespace Rd
open PySem PySem.Spec PyProof.Rows L2 L2H HotX
/-! ## the law's trains -/
section
variable {P : Program} {w : World} {K : PySem.W.Frag} {mg : Str → Option Value} {base : Heap}
abbrev lamT : Str := "_law_trains_so" ++ ".<locals>." ++ "<lambda>"
def CarL (z : Car) : Prop := z.ok = true ∧ isNm (.str (z.n ++ "x")) = true ∧ z.out ≤ 999999
def spTSo (Pt : Addr) : Sp := fun vs H Q _ => ∃ (b : Addr) (v : V) (z : Car), vs = [.ref b, v] ∧ Bag H b ∧ Is b H (carS z) v ∧ CarL z ∧ TabF H Pt lamT ∧ ∀ H', Bag H' b → TabF H' Pt lamT → KeepB b H H' → KeepO Pt H H' → Q (.bl true) H'
theorem ok_law_trains_so (T : Txt K mg) {ct Pt : Addr} (TB : LamX.TabB base mg ct Pt) (hc : T.d__law_trains_so.fd.code = .ref ct) : FnOk P w K mg base CX0 12 T.d__law_trains_so.f T.d__law_trains_so.fd ["_law_bag_here", "_law_car"] (spTSo Pt) := by
  refine Fun.okC T.d__law_trains_so.F sc_law_trains_so (fun vs H Q E h => ?_) (fun cdv A outer s H vs Q E hcode hr h => ?_)
  · obtain ⟨b, v, z, rfl, _⟩ := h
    rfl
  · obtain ⟨b, v, z, rfl, hB, hv, ⟨hz, hx, ho⟩, hT, q⟩ := h
    rw [hc] at hcode
    subst hcode
    have hcode : ∀ {X : Cx}, X = (cxOf CX0 P w K mg base N_law_trains_so "_law_trains_so" (defScope s_law_trains_so) T.d__law_trains_so.f (.ref ct) A outer s H E).nox → X.env.code = .ref ct := fun e => by rw [e]; rfl
    have hcode := hcode rfl
    refine ⟨_, (pss_cons (ps_asg (pe_tup (pa_cons (pe_call (ok_law_train T) (hr.mono (by decide)) (by rfl) T.d__law_train.g T.d__law_train.F.kp T.d__law_train.b .nil pass0 (pa_cons (pv 1) pa_nil)) (pa_cons (pe_lc (own := [("_law_row", 14)]) (g := gName 14) (tt := tYes) (by rfl) sc_law_trains_so.nd (pi_list (pe_ix ix_tup (pv 1) pe_int (fun _ _ => rfl))) (blkOk_by (own := [("_law_row", 14)]) (N := N_law_trains_so) (sc := defScope s_law_trains_so) (by decide +kernel)) (fun _ _ _ _ _ => (pg_name (i := 14) sc_law_trains_so.nd rfl (Or.inl rfl))) (fun _ _ _ _ _ => pts_nil) (fun _ _ _ _ _ => (pe_call (ok_law_step T) (hr.mono (by decide)) (by rfl) T.d__law_step.g T.d__law_step.F.kp T.d__law_step.b .nil pass0 (pa_cons (pv 14) pa_nil)))) pa_nil))) (pg_tup rfl (pgs_cons (pg_name (i := 12) sc_law_trains_so.nd rfl (Or.inr rfl)) (pgs_cons (pg_name (i := 2) sc_law_trains_so.nd rfl (Or.inl rfl)) pgs_nil))))
      (pss_cons (ps_for PassesOwn.never rfl (pi_range1 (by rfl) T.z_range (pa_cons pe_int pa_nil)) (pg_name (i := 3) sc_law_trains_so.nd rfl (Or.inl rfl)) (pss_cons (ps_set (i := 4) sc_law_trains_so.nd rfl (Or.inl rfl) (pe_lst (pa_cons (pe_fld (pv 12) (by rfl)) (pa_cons (pe_fld (pv 12) (by rfl)) (pa_cons (pe_fld (pv 12) (by rfl)) (pa_cons (pe_callB (call_lenF (S := T.sT) (fun C h => (T.mt_len.M C h).at_) (T.mt_len.M _ rfl).fn (ok_mt_len T) (hr.mono (by decide)) T.mt_len.b pass0) (by rfl) T.z_len (by decide +kernel) (pa_cons (pv 12) pa_nil)) (pa_cons (pe_callTy (call_boolF (S := T.sT) (fun C h => (T.mt_bool.M C h).at_) (T.mt_bool.M _ rfl).fn (ok_mt_bool T) (hr.mono (by decide)) T.mt_bool.b pass0) (by rfl) T.z_bool (by decide +kernel) (pa_cons (pv 12) pa_nil)) (pa_cons (pe_callB (call_repF (S := T.sT) (fun C h => (T.mt_repr.M C h).at_) (T.mt_repr.M _ rfl).fn (ok_mt_repr T) (hr.mono (by decide)) T.mt_repr.b pass0) (by rfl) T.z_repr (by decide +kernel) (pa_cons (pv 12) pa_nil)) pa_nil))))))))
      (pss_cons (ps_set (i := 5) sc_law_trains_so.nd rfl (Or.inl rfl) (pe_op op_add_str (pe_op op_add_str (pe_op op_add_str (pe_op op_add_str pe_str (pe_ix ix_tup (pv 1) pe_int (fun _ _ => rfl))) pe_str) (pe_callTy call_str_int (by rfl) T.z_str (by decide +kernel) (pa_cons (pe_callB call_len_seq (by rfl) T.z_len (by decide +kernel) (pa_cons (pv 2) pa_nil)) pa_nil))) pe_str))
      (pss_cons (ps_if (PW.pt (pw_or (pt_not (pt_val (pe_call (ok_law_same T 4) (hr.mono (by decide)) (by rfl) T.d__law_same.g T.d__law_same.F.kp T.d__law_same.b .nil pass0 (pa_cons (pv 4) (pa_cons (pe_lst (pa_cons (pe_ix ix_tup (pv 1) pe_int (fun _ _ => rfl)) (pa_cons (pe_ix ix_tup (pv 1) pe_int (fun _ _ => rfl)) (pa_cons (pe_ix ix_tup (pv 1) pe_int (fun _ _ => rfl)) (pa_cons (pe_callB call_len_seq (by rfl) T.z_len (by decide +kernel) (pa_cons (pv 2) pa_nil)) (pa_cons pe_bl (pa_cons (pv 5) pa_nil))))))) pa_nil))))) (pw_or1 (pt_cmpR (op_neLst (n := 1) (mon_step T) (eq_step T rfl rfl) (hr.mono (by decide))) (pe_methF0 (pv 12) T.famTrain T.mt_steps.M (ok_mt_steps T) (hr.mono (by decide)) T.mt_steps.b pass0) (pv 2) (nomark _))))) (pss_one (ps_ret pe_bl)) pss_nil)
      (pss_cons (ps_if (pt_cmpR (op_neLst (n := 1) (mon_step T) (eq_step T rfl rfl) (hr.mono (by decide))) (pe_lc (own := [("_law_k", 15)]) (g := gName 15) (tt := tYes) (te := tOp (rIxF T.sT (spTGet T) E0) (tVar 12) (tVar 15)) (by rfl) sc_law_trains_so.nd (pi_range1 (by rfl) T.z_range (pa_cons (pe_callB call_len_seq (by rfl) T.z_len (by decide +kernel) (pa_cons (pv 2) pa_nil)) pa_nil)) (blkOk_by (own := [("_law_k", 15)]) (N := N_law_trains_so) (sc := defScope s_law_trains_so) (by decide +kernel)) (fun _ _ _ _ _ => (pg_name (i := 15) sc_law_trains_so.nd rfl (Or.inl rfl))) (fun _ _ _ _ _ => pts_nil) (fun _ _ _ _ _ => (pe_ixF (S := T.sT) (fun C h => (T.mt_getitem.M C h).at_) T.getF (T.mt_getitem.M _ rfl).fn (ok_mt_getitem T) (hr.mono (by decide)) T.mt_getitem.b passLN (pv 12) (pv 15) (fun _ _ => by rfl)))) (pv 2) (nomark _)) (pss_one (ps_ret pe_bl)) pss_nil)
      (pss_one (ps_expr (pe_bm0 PySem.F.plainAttrs_list PySem.F.slot_list_clear PySem.F.type_list_clear mt_clear (pe_methF0 (pv 12) T.famTrain T.mt_steps.M (ok_mt_steps T) (hr.mono (by decide)) T.mt_steps.b pass0)))))))))
      (pss_cons (ps_set (i := 6) sc_law_trains_so.nd rfl (Or.inl rfl) (pe_lst (pa_cons (pe_tup (pa_cons (pe_op op_add_str (pe_ix ix_tup (pv 1) pe_int (fun _ _ => rfl)) pe_str) (pa_cons (pe_ix ix_tup (pv 1) pe_int (fun _ _ => rfl)) (pa_cons (pe_ix ix_tup (pv 1) pe_int (fun _ _ => rfl)) (pa_cons (pe_ix ix_tup (pv 1) pe_int (fun _ _ => rfl)) pa_nil))))) (pa_cons (pe_tup (pa_cons (pe_ix ix_tup (pv 1) pe_int (fun _ _ => rfl)) (pa_cons (pe_op op_sub pe_int (pe_ix ix_tup (pv 1) pe_int (fun _ _ => rfl))) (pa_cons (pe_ix ix_tup (pv 1) pe_int (fun _ _ => rfl)) (pa_cons (pe_ix ix_tup (pv 1) pe_int (fun _ _ => rfl)) pa_nil))))) (pa_cons (pe_tup (pa_cons (pe_ix ix_tup (pv 1) pe_int (fun _ _ => rfl)) (pa_cons (pe_ix ix_tup (pv 1) pe_int (fun _ _ => rfl)) (pa_cons (pe_ix ix_tup (pv 1) pe_int (fun _ _ => rfl)) (pa_cons (pe_op op_add (pe_ix ix_tup (pv 1) pe_int (fun _ _ => rfl)) pe_int) pa_nil))))) pa_nil)))))
      (pss_cons (ps_set (i := 7) sc_law_trains_so.nd rfl (Or.inl rfl) (pe_ifExp (pt_cmpR op_lt (pe_callB call_len_seq (by rfl) T.z_len (by decide +kernel) (pa_cons (pe_ix ix_tup (pv 1) pe_int (fun _ _ => rfl)) pa_nil)) pe_int (nomark _)) (pe_op op_cat (pe_ix ix_tup (pv 1) pe_int (fun _ _ => rfl)) (pe_slice sl_list (pe_ix ix_tup (pv 1) pe_int (fun _ _ => rfl)) po_none (po_some pe_int))) (pe_slice sl_list (pe_ix ix_tup (pv 1) pe_int (fun _ _ => rfl)) po_none (po_some pe_int))))
      (pss_cons (ps_setLc (i := 8) (own := [("_law_one_z", 16)]) (g := gName 16) (tt := tYes) (te := tOp (rEqF K T.sT (spTEq T)) (tVar 12) (tCall (spTrainL T) [] E0 (tCons (tVar 16) tNil))) (by rfl) sc_law_trains_so.nd rfl rfl (sw_true rfl rfl rfl (by decide +kernel)) (pi_list (pe_op op_cat (pv 6) (pe_lst (pa_cons (pe_tup (pa_cons (pe_ix ix_tup (pv 1) pe_int (fun _ _ => rfl)) (pa_cons (pe_ix ix_tup (pv 1) pe_int (fun _ _ => rfl)) (pa_cons (pv 7) (pa_cons (pe_ix ix_tup (pv 1) pe_int (fun _ _ => rfl)) pa_nil))))) pa_nil)))) (blkOk_by (own := [("_law_one_z", 16)]) (N := N_law_trains_so) (sc := defScope s_law_trains_so) (by decide +kernel)) (fun _ _ _ _ _ => (pg_name (i := 16) sc_law_trains_so.nd rfl (Or.inl rfl))) (fun _ _ _ _ _ => pts_nil) (fun _ _ _ _ _ => (pe_cmpR (op_eqF T.eqTrain (ok_mt_eq T) (hr.mono (by decide)) T.mt_eq.b pass0) (pv 12) (pe_call (ok_law_train T) (hr.mono (by decide)) (by rfl) T.d__law_train.g T.d__law_train.F.kp T.d__law_train.b .nil pass0 (pa_cons (pv 16) pa_nil)) (nomark _))))
      (pss_cons (ps_if (PW.pt (pw_or (pt_cmpR (op_neD hr.units) (pv 8) (pe_op op_rep (pe_lst (pa_cons pe_bl pa_nil)) pe_int) (nomark _)) (pw_or (pt_cmpR (op_neF T.famTrain T.eqTrain (ok_mt_eq T) (hr.mono (by decide)) T.mt_eq.b pass0) (pv 12) (pe_call (ok_law_train T) (hr.mono (by decide)) (by rfl) T.d__law_train.g T.d__law_train.F.kp T.d__law_train.b .nil pass0 (pa_cons (pv 1) pa_nil)) (nomark _)) (pw_or (pt_cmpR (op_eqF T.eqTrain (ok_mt_eq T) (hr.mono (by decide)) T.mt_eq.b pass0) (pv 12) (pe_ix ix_tup (pv 1) pe_int (fun _ _ => rfl)) (nomark _)) (pw_or1 (pt_cmpR (op_eqF T.eqTrain (ok_mt_eq T) (hr.mono (by decide)) T.mt_eq.b pass0) (pv 12) pe_non (nomark _))))))) (pss_one (ps_ret pe_bl)) pss_nil)
      (pss_cons (ps_set (i := 13) sc_law_trains_so.nd rfl (Or.inr rfl) (pe_call (ok_law_ofL T) (hr.mono (by decide)) (by rfl) T.d__law_of.g T.d__law_of.F.kp T.d__law_of.b .nil pass0 (pa_cons (pv 0) (pa_cons (pe_lst (pa_cons (pe_un un_neg pe_int) (pa_cons (pe_callB call_len_seq (by rfl) T.z_len (by decide +kernel) (pa_cons (pv 2) pa_nil)) (pa_cons (pe_op op_add (pe_callB call_len_seq (by rfl) T.z_len (by decide +kernel) (pa_cons (pv 2) pa_nil)) pe_int) (pa_cons pe_non (pa_cons pe_bl (pa_cons pe_bl (pa_cons pe_str (pa_cons (pe_tup (pa_cons pe_int pa_nil)) (pa_cons (pe_lst (pa_cons pe_int pa_nil)) (pa_cons (pe_op op_pow pe_int pe_int) pa_nil))))))))))) pa_nil))))
      (pss_cons (ps_if (pt_not (pt_val (pe_call (ok_law_same T 4) (hr.mono (by decide)) (by rfl) T.d__law_same.g T.d__law_same.F.kp T.d__law_same.b .nil pass0 (pa_cons (pe_callZ (ok_law_try T 8) (hr.mono (by decide)) (fun _ => rfl) (by rfl) T.d__law_try.g T.d__law_try.F.kp T.d__law_try.b (fun _ _ _ _ _ h => h) (pa_cons (pe_lam0O TB hcode (fun _ => free_ok rfl)) pa_nil)) (pa_cons (pe_tup (pa_cons pe_str (pa_cons (pe_tup (pa_cons (pe_tup (pa_cons (pe_ix ix_tup (pv 1) pe_int (fun _ _ => rfl)) (pa_cons (pv 13) pa_nil))) pa_nil)) pa_nil))) pa_nil))))) (pss_one (ps_ret pe_bl)) pss_nil)
      (pss_cons (ps_set (i := 11) sc_law_trains_so.nd rfl (Or.inr rfl) (pe_op op_sub (pe_call (ok_law_draw T) (hr.mono (by decide)) (by rfl) T.d__law_draw.g T.d__law_draw.F.kp T.d__law_draw.b .nil pass0 (pa_cons (pv 0) (pa_cons pe_int pa_nil))) pe_int))
      (pss_cons (ps_set (i := 9) sc_law_trains_so.nd rfl (Or.inl rfl) (pe_callZ (ok_law_try T 8) (hr.mono (by decide)) (fun _ => rfl) (by rfl) T.d__law_try.g T.d__law_try.F.kp T.d__law_try.b (fun _ _ _ _ _ h => h) (pa_cons (pe_lam0O TB hcode (fun _ => free_ok rfl)) pa_nil)))
      (pss_cons (ps_set (i := 10) sc_law_trains_so.nd rfl (Or.inl rfl) (pe_op op_add (pe_ix ix_tup (pv 1) pe_int (fun _ _ => rfl)) (pv 11)))
      (pss_cons (ps_if (pt_not (pt_chain op_le op_le pe_int (pv 10) pe_int)) (pss_one (ps_ret (pe_call (ok_law_same T 4) (hr.mono (by decide)) (by rfl) T.d__law_same.g T.d__law_same.F.kp T.d__law_same.b .nil pass0 (pa_cons (pv 9) (pa_cons (pe_tup (pa_cons pe_str (pa_cons (pe_tup (pa_cons (pv 10) pa_nil)) pa_nil))) pa_nil))))) pss_nil)
      (pss_one (ps_ret (pe_and (pe_cmpR op_eq (pe_ix ix_tup (pv 9) pe_int (fun _ _ => rfl)) pe_str (nomark _)) (pe_and (pe_cmpR (op_eqF T.eqTrain (ok_mt_eq T) (hr.mono (by decide)) T.mt_eq.b pass0) (pe_ix ix_tup (pv 9) pe_int (fun _ _ => rfl)) (pe_call (ok_law_train T) (hr.mono (by decide)) (by rfl) T.d__law_train.g T.d__law_train.F.kp T.d__law_train.b .nil pass0 (pa_cons (pe_tup (pa_cons (pe_ix ix_tup (pv 1) pe_int (fun _ _ => rfl)) (pa_cons (pv 10) (pa_cons (pe_ix ix_tup (pv 1) pe_int (fun _ _ => rfl)) (pa_cons (pe_ix ix_tup (pv 1) pe_int (fun _ _ => rfl)) pa_nil))))) pa_nil)) (nomark _)) (pe_one (pe_cmpR op_eq (pe_fld (pv 12) (by rfl)) (pe_ix ix_tup (pv 1) pe_int (fun _ _ => rfl)) (nomark _))))))))))))))))))), ?_⟩
    obtain ⟨h1, h2, h3, l1, l6, hrow⟩ := Car.parts hz
    have ix : ∀ {H' : Hp} {σ' : L2.St} {j : Nat} {s' : Sh}, Go b H H' → σ'[1]? = some (some v) → [.c (.str z.n), .c (.int z.len), .l (z.rows.map rowS), .c (.int z.out)][j]? = some s' → Ev1 b (tOp (rIxT K) (tVar 1) (tC (.int (j : Nat)))) σ' H' s' := fun g h n => e_ixT (e_var h (hv.go g)) e_c n
    have rows : ∀ {H' : Hp}, Go b H H' → Ev1 b _ (L2.start N_law_trains_so [.ref b, v]) H' (.l (z.rows.map (stepS T))) := fun {H'} g => e_lcB (K := K) (v := 14) (te := tCall (spStepL T) [] E0 (tCons (tVar 14) tNil)) rowS (stepS T) (fun x _ => pur_step T x) (ix (j := 2) g rfl rfl) (by omega) fun x m H1 y g i => evB_step (hrow x m) g.1 (n_cons (e_var (i := 14) rfl i) n_nil)
    refine q_tup2 hB (e_tup (n_cons (e_train hz (n_cons (e_var rfl hv) n_nil)) (n_cons (rows (.refl hB)) n_nil)) (Nat.le_of_ble_eq_true rfl)) fun x1 x2 H1 g1 i1 i2 => ?_
    obtain ⟨ta, td, tl, txs, rfl, nta, ntl, eta, etl, rt⟩ := is_train i1
    have ltx := rt.length
    rw [List.length_map] at ltx
    refine ⟨2, rfl, by decide, by decide, for_range (n := 2) (fun i σ H5 => Go b H1 H5 ∧ ∃ x3 x4 x5, σ = [some (.ref b), some v, some x2, x3, x4, x5, none, none, none, none, none, none, some (.ref ta), none, none, none, none]) ⟨.refl g1.1, none, none, none, rfl⟩ ?_ ?_⟩
    · rintro i σ H5 hi ⟨g5, x3, x4, x5, rfl⟩
      have gg := g1.trans g5
      have nl : z.n.length ≤ 6 := by
        have := h1
        rw [isNm_str] at this
        simp only [Bool.and_eq_true, decide_eq_true_eq] at this
        omega
      have made : ∀ {H' : Hp} {σ' : L2.St}, Go b H1 H' → σ'[12]? = some (some (.ref ta)) → Ev1 b (tVar 12) σ' H' (trainS T z) := fun g h => e_var h (i1.go g)
      have rws : ∀ {H' : Hp} {σ' : L2.St}, Go b H1 H' → σ'[2]? = some (some x2) → Ev1 b (tVar 2) σ' H' (.l (z.rows.map (stepS T))) := fun g h => e_var h (i2.go g)
      refine q_set (b := b) (s := .l [.c (.str z.n), .c (.int z.len), .c (.int z.out), .c (.int z.rows.length), .c (.bl true), .c (.str ("Train(" ++ z.n ++ ", " ++ toString (z.rows.length : Int) ++ " steps)"))]) g5.1
        (e_lst (n_cons (e_tname (made g5 rfl)) (n_cons (e_tlength (made g5 rfl)) (n_cons (e_tout (made g5 rfl)) (n_cons (e_lenT hz (made g5 rfl)) (n_cons (e_boolT (made g5 rfl)) (n_cons (e_reprT hz (made g5 rfl)) n_nil)))))) (Nat.le_of_ble_eq_true rfl)) fun y4 H6 g6 i6 => ?_
      have lr : ∀ {H' : Hp} {σ' : L2.St}, Go b H1 H' → σ'[2]? = some (some x2) → Ev1 b (tCB (fun xs H Q => ∃ p ys, xs = [V.ref p] ∧ (SqL K H p ys ∨ SqT K H p ys) ∧ Q (.int ys.length) H) (tCons (tVar 2) tNil)) σ' H' (.c (.int z.rows.length)) := fun g h => by
        have := e_lenL (K := K) (rws g h)
        rw [List.length_map] at this
        exact this
      have g56 := g5.trans g6
      have L6 : (("Train(" : Str)).length = 6 := by decide
      have L2 : ((", " : Str)).length = 2 := by decide
      have L7 : ((" steps)" : Str)).length = 7 := by decide
      have sl : (((toString (z.rows.length : Int) : String) : Str)).length ≤ 5 := str_int_len _ (by omega)
      refine q_set (b := b) (s := .c (.str ("Train(" ++ z.n ++ ", " ++ toString (z.rows.length : Int) ++ " steps)"))) g6.1
        (e_cats (e_cats (e_cats (e_cats e_c (ix (j := 0) (s' := .c (.str z.n)) (g1.trans g56) rfl rfl) (by simp only [L6]; omega)) e_c (by simp only [app_len, L6, L2]; omega))
          (e_strI (lr g56 rfl) (by omega)) (by simp only [app_len, L6, L2]; omega)) e_c (by simp only [app_len, L6, L2, L7]; omega)) fun y5 H7 g7 i7 => ?_
      have g57 := g56.trans g7
      refine q_ifOr2 (b := b) g7.1 ?n1 ?n2 fun H8 g8 => ?_
      case n1 =>
        exact e_same (K := K) (n := 4) (s := .l [.c (.str z.n), .c (.int z.len), .c (.int z.out), .c (.int z.rows.length), .c (.bl true), .c (.str ("Train(" ++ z.n ++ ", " ++ toString (z.rows.length : Int) ++ " steps)"))])
          (n_cons (e_var (i := 4) rfl (i6.go g7)) (n_cons (e_lst (n_cons (ix (j := 0) (g1.trans g57) rfl rfl) (n_cons (ix (j := 1) (g1.trans g57) rfl rfl) (n_cons (ix (j := 3) (g1.trans g57) rfl rfl) (n_cons (lr g57 rfl) (n_cons e_c (n_cons (e_var (i := 5) rfl i7) n_nil)))))) (Nat.le_of_ble_eq_true rfl)) n_nil)) rfl
      case n2 => exact e_neLst hrow (e_steps hz (made g57 rfl)) (rws g57 rfl)
      have g58 := g57.trans g8
      refine q_ifF (b := b) g8.1 (e_neLst hrow (e_lcR (σ := [some (.ref b), some v, some x2, some (.int (0 + (i : Int))), some y4, some y5, none, none, none, none, none, none, some (.ref ta), none, none, none, none]) (v := 15) (xs := txs) (lr g58 rfl) (rt.go g58) ltx (by omega) fun j x hx H9 g9 Q9 q9 => ?_) (rws g58 rfl)) fun H9 g9 => ?_
      · exact getT_raw (j := j) hz ((g58.trans g9).2 _ _ nta eta) ((g58.trans g9).2 _ _ ntl etl) (rt.go (g58.trans g9)) hx (fun Q' k => ⟨_, rfl, k⟩) (fun Q' k => ⟨_, rfl, k⟩) q9
      refine q_clearT (b := b) (K := K) (σ := [some (.ref b), some v, some x2, some (.int (0 + (i : Int))), some y4, some y5, none, none, none, none, none, none, some (.ref ta), none, none, none, none]) g9.1 hz (made (g58.trans g9) rfl) fun HA gA => ?_
      exact ⟨(g58.trans g9).trans gA, _, _, _, rfl⟩
    · rintro σ H5 ⟨g5, x3, x4, x5, rfl⟩
      dsimp only
      have gg := g1.trans g5
      have made : ∀ {H' : Hp} {σ' : L2.St}, Go b H1 H' → σ'[12]? = some (some (.ref ta)) → Ev1 b (tVar 12) σ' H' (trainS T z) := fun g h => e_var h (i1.go g)
      have carv : ∀ {H' : Hp} {σ' : L2.St}, Go b H H' → σ'[1]? = some (some v) → Ev1 b (tVar 1) σ' H' (carS z) := fun g h => e_var h (hv.go g)
      have nl : z.n.length ≤ 6 := by
        have := h1
        rw [isNm_str] at this
        simp only [Bool.and_eq_true, decide_eq_true_eq] at this
        omega
      have lx : (("x" : Str)).length = 1 := by decide
      let z1 : Car := { z with n := z.n ++ "x" }
      let z2 : Car := { z with len := 61 - z.len }
      let z3 : Car := { z with out := z.out + 1 }
      let z4 : Car := { z with rows := more z.rows }
      have nb := isNum_to h2
      have nd := isNum_to h3
      have ml := more_len l1 l6
      have o1 : z1.ok = true := Car.of hx h2 h3 l1 l6 hrow
      have o2 : z2.ok = true := Car.of h1 (isNum_of (show (1 : Int) ≤ 61 - z.len by omega) (show 61 - z.len ≤ 60 by omega)) h3 l1 l6 hrow
      have o3 : z3.ok = true := Car.of h1 h2 (isNum_of (show (1 : Int) ≤ z.out + 1 by omega) (show z.out + 1 ≤ 1000000 by omega)) l1 l6 hrow
      have o4 : z4.ok = true := Car.of h1 h2 h3 ml.1 ml.2.1 fun x m => hrow x (more_mem m)
      have f1 : carB z z1 true = false := by
        have : ¬ z.n = z.n ++ "x" := fun e => by
          have := congrArg Str.length e
          rw [app_len, lx] at this
          omega
        show trainB _ _ _ _ _ _ _ = false
        unfold trainB
        rw [decide_eq_false this]
        rfl
      have f2 : carB z z2 true = false := by
        have : ¬ z.len = 61 - z.len := by omega
        show trainB _ _ _ _ _ _ _ = false
        unfold trainB
        rw [decide_eq_false this]
        simp
      have f3 : carB z z3 true = false := by
        have : ¬ z.out = z.out + 1 := by omega
        show trainB _ _ _ _ _ _ _ = false
        unfold trainB
        rw [decide_eq_false this]
        simp
      have f4 : carB z z4 false = false := by
        show trainB _ _ _ _ _ _ _ = false
        unfold trainB
        simp
      have ff : carB z z true = true := by
        unfold carB trainB
        simp
      refine q_set (b := b) (s := .l [carS z1, carS z2, carS z3]) g5.1 (e_lst (n_cons (e_tup (n_cons (e_cats (ix (j := 0) (s' := .c (.str z.n)) gg rfl rfl) e_c (by rw [lx]; omega)) (n_cons (ix (j := 1) gg rfl rfl) (n_cons (ix (j := 2) gg rfl rfl) (n_cons (ix (j := 3) gg rfl rfl) n_nil)))) (Nat.le_of_ble_eq_true rfl))
        (n_cons (e_tup (n_cons (ix (j := 0) gg rfl rfl) (n_cons (e_sub e_c (ix (j := 1) (s' := .c (.int z.len)) gg rfl rfl)) (n_cons (ix (j := 2) gg rfl rfl) (n_cons (ix (j := 3) gg rfl rfl) n_nil)))) (Nat.le_of_ble_eq_true rfl))
        (n_cons (e_tup (n_cons (ix (j := 0) gg rfl rfl) (n_cons (ix (j := 1) gg rfl rfl) (n_cons (ix (j := 2) gg rfl rfl) (n_cons (e_add (ix (j := 3) (s' := .c (.int z.out)) gg rfl rfl) e_c) n_nil)))) (Nat.le_of_ble_eq_true rfl)) n_nil))) (Nat.le_of_ble_eq_true rfl)) fun y6 H6 g6 i6 => ?_
      have gg6 := gg.trans g6
      have ix2 : ∀ {H' : Hp} {σ' : L2.St}, Go b H H' → σ'[1]? = some (some v) → Ev1 b (tOp (rIxT K) (tVar 1) (tC (.int 2))) σ' H' (.l (z.rows.map rowS)) := fun g h => ix (j := 2) g h rfl
      refine q_set (b := b) (s := .l ((more z.rows).map rowS)) g6.1 (e_if (e_lt (e_lenL (ix2 gg6 rfl)) e_c) (fun e => ?_) (fun e => ?_)) fun y7 H7 g7 i7 => ?_
      · rw [List.length_map] at e
        have em : more z.rows = z.rows ++ z.rows.take 1 := if_pos (by have := of_decide_eq_true e; omega)
        rw [em, List.map_append, List.map_take]
        exact e_cat (ix2 gg6 rfl) (e_cutTo (n := 1) (ix2 gg6 rfl)) (by rw [List.length_take, List.length_map]; omega)
      · rw [List.length_map] at e
        have em : more z.rows = z.rows.take 5 := if_neg (by have := of_decide_eq_false e; omega)
        rw [em, List.map_take]
        exact e_cutTo (n := 5) (ix2 gg6 rfl)
      have gg7 := gg6.trans g7
      have oks : ∀ (i : Nat) s, [carS z1, carS z2, carS z3, carS z4][i]? = some s → ∃ (y : Car) (e : Bool), s = carS y ∧ y.ok = true ∧ RowsAre z y e ∧ carB z y e = false := fun i s h => by
        match i, h with
        | 0, h => cases h; exact ⟨z1, true, rfl, o1, .inl ⟨rfl, rfl⟩, f1⟩
        | 1, h => cases h; exact ⟨z2, true, rfl, o2, .inl ⟨rfl, rfl⟩, f2⟩
        | 2, h => cases h; exact ⟨z3, true, rfl, o3, .inl ⟨rfl, rfl⟩, f3⟩
        | 3, h => cases h; exact ⟨z4, false, rfl, o4, .inr ⟨ml.2.2, rfl⟩, f4⟩
        | i + 4, h => cases h
      have g57 := (g5.trans g6).trans g7
      let σ8 : L2.St := [some (.ref b), some v, some x2, x3, x4, x5, some y6, some y7, none, none, none, none, some (.ref ta), none, none, none, none]
      refine q_set (b := b) (σ := σ8) (s := .l [.c (.bl false), .c (.bl false), .c (.bl false), .c (.bl false)]) g7.1 (e_lcL (K := K) (v := 16) (ss := [carS z1, carS z2, carS z3] ++ [carS z4]) (fun _ => .bl false) (e_cat (e_var (i := 6) rfl (i6.go g7)) (e_lst (n_cons (e_tup (n_cons (ix (j := 0) gg7 rfl rfl) (n_cons (ix (j := 1) gg7 rfl rfl) (n_cons (e_var (i := 7) rfl i7) (n_cons (ix (j := 3) gg7 rfl rfl) n_nil)))) (Nat.le_of_ble_eq_true rfl)) n_nil) (Nat.le_of_ble_eq_true rfl)) (Nat.le_of_ble_eq_true rfl)) (Nat.le_of_ble_eq_true rfl) fun i s hs H' x g ix' => ?_) fun y8 H8 g8 i8 => ?_
      · obtain ⟨y, e, rfl, oy, re, fy⟩ := oks i s hs
        have := e_eqT (T := T) (b := b) (σ := (wipe σ8 [16]).set 16 (some x)) hz oy re (made (g57.trans g) rfl) (e_train (T := T) oy (n_cons (e_var (i := 16) rfl ix') n_nil))
        rw [fy] at this
        exact this
      have g58 := g57.trans g8
      have gg8 := gg7.trans g8
      let σ9 : L2.St := [some (.ref b), some v, some x2, x3, x4, x5, some y6, some y7, some y8, none, none, none, some (.ref ta), none, none, none, none]
      refine q_ifOr4 (b := b) (σ := σ9) g8.1 ?n1 ?n2 ?n3 ?n4 fun H9 g9 => ?rest
      case n1 =>
        refine e_neD (n := 4) (s := .l [.c (.bl false), .c (.bl false), .c (.bl false), .c (.bl false)]) (d := .list [.bool false, .bool false, .bool false, .bool false]) (e_var (i := 8) rfl i8) (e_rep (k := 4) (ss := [.c (.bl false)]) (e_lst (n_cons e_c n_nil) (by decide)) (by decide) (by decide)) rfl ?_ (by decide +kernel) (by decide +kernel)
        rw [datOf_l]; simp [datOf]
      case n2 =>
        have := e_neT (T := T) (b := b) (σ := σ9) hz hz (.inl ⟨rfl, rfl⟩) (made g58 rfl) (e_train (T := T) hz (n_cons (carv gg8 rfl) n_nil))
        rw [ff] at this
        exact this
      case n3 => exact e_eqTX (x := .str z.n) hz rfl (made g58 rfl) (ix (j := 0) gg8 rfl rfl)
      case n4 => exact e_eqTX hz rfl (made g58 rfl) e_c
      have g59 := g58.trans g9
      have gg9 := gg8.trans g9
      have lr : ∀ {H' : Hp} {σ' : L2.St}, Go b H1 H' → σ'[2]? = some (some x2) → Ev1 b (tCB (fun xs H Q => ∃ p ys, xs = [V.ref p] ∧ (SqL K H p ys ∨ SqT K H p ys) ∧ Q (.int ys.length) H) (tCons (tVar 2) tNil)) σ' H' (.c (.int z.rows.length)) := fun g h => by
        have := e_lenL (K := K) (e_var h (i2.go g))
        rw [List.length_map] at this
        exact this
      refine q_set (b := b) (σ := σ9) (s := .o (oddT z.rows.length)) g9.1 (e_ofL (n_cons (e_var rfl rfl) (n_cons (e_lst (n_cons (e_neg e_c) (n_cons (lr g59 rfl) (n_cons (e_add (lr g59 rfl) e_c) (n_cons e_c (n_cons e_c (n_cons e_c (n_cons e_c (n_cons (e_tup (n_cons e_c n_nil) (by decide)) (n_cons (e_lst (n_cons e_c n_nil) (by decide)) (n_cons (e_pow e_c e_c ⟨by decide, by decide, by decide⟩) n_nil)))))))))) (Nat.le_of_ble_eq_true rfl)) n_nil)) (by show 0 < 10; decide) (by show 10 < 1000; decide)) fun vo HA gA iA => ?_
      have g1A := g59.trans gA
      have ggA := gg9.trans gA
      have hTA := hT.go hB ggA
      obtain ⟨so, mo, io⟩ := IsOne.mem iA
      obtain ⟨okO, dO⟩ := oddT_all l6 so mo
      obtain ⟨nO, pO, lO⟩ := okSh_val (fun _ => rfl) okO io
      have nO' : isNum vo 0 ((z.rows.length : Int) - 1) = false := by simpa using nO
      refine ⟨hTA, fun f HC kC oC tC nC lC Hz fz fv => ?_⟩
      have ndx : ∀ {C dd : Addr} {fs : List (Str × V)} (ps : Array Value), HO.ins C dd fs ≠ .tbl ps := fun _ e => by cases e
      have etaZ := fz.same _ _ (kC _ _ (g1A.2 _ _ nta eta) fun ps e => by cases e)
      have etlZ := fz.same _ _ (kC _ _ (g1A.2 _ _ ntl etl) fun ps e => by cases e)
      have rtC : IsAll b HC (z.rows.map (stepS T)) txs := (rt.go g1A).keepT (KeepB.keepT kC)
      have rtZ : IsAll b Hz (z.rows.map (stepS T)) txs := rtC.keepT (KeepB.same fz.same)
      have pZ : Pl Hz vo := by
        rcases pO with h | ⟨a, xs, e, h⟩ | ⟨a, xs, e, h⟩
        · exact .inl h
        · exact .inr (.inl ⟨a, xs, e, fz.same _ _ (kC _ _ h fun _ z => by cases z)⟩)
        · exact .inr (.inr ⟨a, xs, e, fz.same _ _ (kC _ _ h fun _ z => by cases z)⟩)
      obtain ⟨lL, aL, zL⟩ := lam_gen (k := 7) fv cells_inj (lC.keep (.same fz.same)) (free_ok rfl) (Nl := ["_law_made", "_law_odd_here"]) (ps := []) (σl := [some (.ref ta), some vo]) ⟨rfl, rfl, rfl, by decide +kernel, by decide +kernel, by decide +kernel⟩ (hval2 12 13 rfl rfl rfl rfl rfl rfl) rfl (fun _ => ⟨rfl, fun _ _ _ _ => rfl⟩) (fun h => absurd rfl h)
        (tb := fun E => tOp (rIxF T.sT (spTGet T) E) (tVar 0) (tVar 1))
        (fun c' A outer s H' E hr => pe_ixF (S := T.sT) (fun C h => (T.mt_getitem.M C h).at_) T.getF (T.mt_getitem.M _ rfl).fn (ok_mt_getitem T) (hr.mono (by decide)) T.mt_getitem.b (L2N.passes_call (L2N.takes_of rfl rfl rfl rfl) (fun _ _ _ _ h => h)) (pv 0) (pv 1) (fun _ _ => by rfl))
      refine ⟨f, _, rfl, lL, aL, fun Q' E' hq he => ⟨fun _ _ e => e, ?_⟩⟩
      refine ⟨.ref ta, rfl, vo, rfl, ta, _, td, _, rfl, rfl, off_keep zL etaZ (fun _ _ e => by cases e), ta, _, _, _, vo, txs, _, rfl, ⟨td, tl, off_keep zL etaZ (fun _ _ e => by cases e), off_keep zL etlZ (fun _ _ e => by cases e), by omega, by omega⟩, (pZ.off zL).kd.choose_spec, fun _ p np => ?_, fun j x ej hx => ?_⟩
      · intro e H2 s2 he2 hn
        refine he _ _ _ ⟨"UnknownEntry", [.ref p], ⟨e, ["entry"], rfl, mix_new hn he2, .e5, rfl⟩, fun H3 p2 q2 s3 np2 nq2 ep2 eq2 => ?_⟩
        have sX : Same Hz H3 := (mix_same ((same_new np).trans s2)).trans s3
        have nt : ∀ {xs : List V} (oc : Obj) (u : HO), HO.tup xs ≠ .frz oc u := fun _ _ e => by cases e
        have sD := fz.back sX
        have ep2' := fz.kept sX ep2 nt
        have eq2' := fz.kept sX eq2 nt
        have ep' := fz.kept sX (s3 _ _ (mix_new hn (s2 _ _ upd_same))) nt
        have hBC : Bag HC b := gA.1.keepT kC
        obtain ⟨xb, eb⟩ := hBC.some
        have ebZ := fz.same _ _ eb
        have pb : p ≠ b := fun e => by rw [e, off_keep zL ebZ (fun _ _ e => by cases e)] at np; cases np
        have ebM := mix_same ((same_new np).trans s2) _ _ ebZ
        have p2b : p2 ≠ b := fun e => by rw [e, ebM] at np2; cases np2
        have q2b : q2 ≠ b := fun e => by rw [e, ebM] at nq2; cases nq2
        dsimp only
        generalize offC H3 _ = HD at sD ep2' eq2' ep'
        clear fv fz aL zL lL he hq etaZ etlZ rtZ pZ sX s3 s2 he2 hn np np2 nq2 ep2 eq2 ebZ ebM
        have hBD := hBC.same sD
        have kAD : KeepB b HA HD := (KeepB.keepT kC).trans (.same sD)
        have ioD : Is b HD so vo := io.keepT kAD
        have hvD : Is b HD (carS z) v := (hv.go ggA).keepT kAD
        let σA : L2.St := [some (.ref b), some v, some x2, x3, x4, x5, some y6, some y7, some y8, none, none, none, some (.ref ta), some vo, none, none, none]
        show tTup _ _ _ _
        refine ev_use (b := b) (σ := σA) (s := .t [.c (.str "UnknownEntry"), .t [.t [.c (.str z.n), so]]]) (e_tup (n_cons e_c (n_cons (e_tup (n_cons (e_tup (n_cons (e_ixT (j := 0) (e_var rfl hvD) e_c rfl) (n_cons (e_var (i := 13) rfl ioD) n_nil)) (Nat.le_of_ble_eq_true rfl)) n_nil) (Nat.le_of_ble_eq_true rfl)) n_nil)) (Nat.le_of_ble_eq_true rfl)) hBD fun y HE gE iE => ?_
        have isD : Is b HD (.t [.c (.str "UnknownEntry"), .t [.t [.c (.str z.n), so]]]) (.ref p2) := ⟨p2, _, rfl, p2b, ep2', _, _, rfl, rfl, _, _, rfl, ⟨q2, _, rfl, q2b, eq2', _, _, rfl, ⟨p, _, rfl, pb, ep', _, _, rfl, rfl, _, _, rfl, ioD, rfl⟩, rfl⟩, rfl⟩
        have dt : det 4 (.t [.c (.str "UnknownEntry"), .t [.t [.c (.str z.n), so]]]) = true := by
          show (true && (true && ((true && ((true && (true && (det 1 so && true))) && true)) && true))) = true
          rw [dO]
          rfl
        refine ⟨.ref p2, y, rfl, eqv_det (n := 4) dt (isD.go gE) iE, fun HF sF => ⟨true, rfl, iteF ?_⟩⟩
        have hBF := gE.1.same sF
        have kAF : KeepB b HA HF := (kAD.trans (.go gE)).trans (.same sF)
        have tF : TabF HF Pt lamT := ((tC.same sD).go hBD gE).same sF
        have k1F : KeepB b H1 HF := (KeepB.go g1A).trans kAF
        have etaF := k1F _ _ nta eta (fun ps e => by cases e)
        have etlF := k1F _ _ ntl etl (fun ps e => by cases e)
        have rtF : IsAll b HF (z.rows.map (stepS T)) txs := rt.keepT k1F
        have hvF : Is b HF (carS z) v := (hv.go ggA).keepT kAF
        have kF : KeepB b H HF := (KeepB.go ggA).trans kAF
        have oF : KeepO Pt H HF := ((KeepO.go hB ggA).trans oC).trans ((KeepO.same sD).trans ((KeepO.go hBD gE).trans (.same sF)))
        clear isD iE dt ioD hvD kAD hBD ep' ep2' eq2' sD hBC eb tC lC nC
        unfold tNext
        dsimp only
        refine q_raw (i := 11) ?_
        refine e_draw (b := b) (k := 140) (σ := σA) (n_cons (e_var rfl rfl) (n_cons e_c n_nil)) (by decide) (by decide) HF (.refl hBF) _ fun vg HG gG iG => ?_
        obtain ⟨d, d0, d1, rfl⟩ := iG
        refine ⟨d, 70, rfl, rfl, ?_⟩
        dsimp only
        generalize eg : d - 70 = g
        have kG : KeepB b H HG := kF.trans (.go gG)
        have oG : KeepO Pt H HG := oF.trans (KeepO.go hBF gG)
        have tG := tF.go hBF gG
        have etaG := gG.2 _ _ nta etaF
        have etlG := gG.2 _ _ ntl etlF
        have rtG := rtF.go gG
        have hvG := hvF.go gG
        have hBG := gG.1
        clear gG etaF etlF rtF hvF hBF tF kF kAF k1F sF gE
        let σB : L2.St := [some (.ref b), some v, some x2, x3, x4, x5, some y6, some y7, some y8, none, none, some (.int g), some (.ref ta), some vo, none, none, none]
        refine ⟨tG, fun f2 HI kI oI tI nI lI Hz fz fv => ?_⟩
        have hBI := hBG.keepT kI
        have etaZ := fz.same _ _ (kI _ _ etaG fun ps e => by cases e)
        have etlZ := fz.same _ _ (kI _ _ etlG fun ps e => by cases e)
        have rtI : IsAll b HI (z.rows.map (stepS T)) txs := rtG.keepT (KeepB.keepT kI)
        have rtZ : IsAll b Hz (z.rows.map (stepS T)) txs := rtI.keepT (KeepB.same fz.same)
        obtain ⟨lL, aL, zL⟩ := lam_gen (k := 7) fv cells_inj (lI.keep (.same fz.same)) (free_ok rfl) (Nl := ["_law_made", "_law_gap"]) (ps := []) (σl := [some (.ref ta), some (.int g)]) ⟨rfl, rfl, rfl, by decide +kernel, by decide +kernel, by decide +kernel⟩ (hval2 12 11 rfl rfl rfl rfl rfl rfl) rfl (fun _ => ⟨rfl, fun _ _ _ _ => rfl⟩) (fun h => absurd rfl h)
          (tb := fun E => tMethFKE T.sT "longer" 1 (spLonger T) (fun vs zs => vs ++ zs.reverse) E (tVar 0) (tCons (tVar 1) tNil))
          (fun c' A outer s H' E hr => pe_methFKE (pv 0) T.famTrain T.mt_longer.M (ok_mt_longer T) hr (kb_longer T) (L2N.passes_call (L2N.takes_of rfl rfl rfl rfl) (fun _ _ _ _ h => h)) (pk_cons (pv 1) pk_nil))
        refine ⟨f2, _, rfl, lL, aL, fun Q' E' hq he => ⟨fun _ _ e => e, ?_⟩⟩
        obtain ⟨xb, eb⟩ := hBI.some
        have ebZ := fz.same _ _ eb
        have nt : ∀ {xs : List V} (oc : Obj) (u : HO), HO.tup xs ≠ .frz oc u := fun _ _ e => by cases e
        refine ⟨.ref ta, rfl, ta, _, td, _, rfl, rfl, off_keep zL etaZ (fun _ _ e => by cases e), rfl, .int g, rfl, rfl, ?_⟩
        refine ⟨ta, z.n, z.len, z.out, g, txs, rfl, ⟨td, tl, off_keep zL etaZ (fun _ _ e => by cases e), off_keep zL etlZ (fun _ _ e => by cases e), by omega, by omega⟩, h1, h3, ?_, fun e5 => ?_, fun e5 b' dx l HK sK nb' nl' eb' el' => ?_⟩
        · intro x m
          obtain ⟨a, d, ys, e, o⟩ := steps_all rtZ x m
          exact ⟨a, d, ys, e, off_keep zL o (fun _ _ e => by cases e)⟩
        · intro e H2 s2 he2 hn
          refine he _ _ _ ⟨"InvalidNumber", [.int (z.len + g)], ⟨e, ["value"], rfl, mix_new hn he2, .e1, rfl⟩, fun H3 p2 q2 s3 np2 nq2 ep2 eq2 => ?_⟩
          have sX : Same Hz H3 := (mix_same s2).trans s3
          have sD := fz.back sX
          have ep2' := fz.kept sX ep2 nt
          have eq2' := fz.kept sX eq2 nt
          have ebM := mix_same s2 _ _ ebZ
          have p2b : p2 ≠ b := fun e => by rw [e, ebM] at np2; cases np2
          have q2b : q2 ≠ b := fun e => by rw [e, ebM] at nq2; cases nq2
          unfold gName
          dsimp only
          generalize offC H3 _ = HD at sD ep2' eq2'
          have hBD := hBI.same sD
          have kD : KeepB b HG HD := (KeepB.keepT kI).trans (.same sD)
          have hvD : Is b HD (carS z) v := hvG.keepT kD
          have tD := tI.same sD
          have iD : Is b HD (.t [.c (.str "InvalidNumber"), .t [.c (.int (z.len + g))]]) (.ref p2) := ⟨p2, _, rfl, p2b, ep2', _, _, rfl, rfl, _, _, rfl, ⟨q2, _, rfl, q2b, eq2', _, _, rfl, rfl, rfl⟩, rfl⟩
          let σC : L2.St := [some (.ref b), some v, some x2, x3, x4, x5, some y6, some y7, some y8, some (.ref p2), none, some (.int g), some (.ref ta), some vo, none, none, none]
          clear fv fz aL zL lL he hq etaZ etlZ rtZ ebZ ebM sX s3 s2 he2 hn np2 nq2 ep2 eq2
          refine q_set (b := b) (σ := σC) (s := .c (.int (z.len + g))) hBD (e_add (e_ixT (j := 1) (s := .c (.int z.len)) (e_var rfl hvD) e_c rfl) (e_var rfl rfl)) fun y10 HL gL iL => ?_
          rw [show y10 = _ from iL]
          have e6 : (decide ((1 : Int) ≤ z.len + g) && decide (z.len + g ≤ 60)) = false := e5
          let σD : L2.St := [some (.ref b), some v, some x2, x3, x4, x5, some y6, some y7, some y8, some (.ref p2), some (.int (z.len + g)), some (.int g), some (.ref ta), some vo, none, none, none]
          refine e_chain (b := b) (σ := σD) (i := 1) (j := z.len + g) (k := 60) e_c (e_var rfl rfl) e_c HL (.refl gL.1) _ fun vv HM gM iM => ⟨false, (show vv = _ from iM).trans (by rw [e6]), iteT ?_⟩
          refine q_ret (b := b) (σ := σD) (s := .c (.bl true)) gM.1 (e_same (K := K) (n := 4) (s := .t [.c (.str "InvalidNumber"), .t [.c (.int (z.len + g))]]) (n_cons (e_var (i := 9) rfl ((iD.go gL).go gM)) (n_cons (e_tup (n_cons e_c (n_cons (e_tup (n_cons (e_var (i := 10) rfl rfl) n_nil) (Nat.le_of_ble_eq_true rfl)) n_nil)) (Nat.le_of_ble_eq_true rfl)) n_nil)) rfl) fun y HN gN iN => ?_
          rw [show y = _ from iN]
          have gDN := (gL.trans gM).trans gN
          exact q HN gDN.1 (tD.go hBD gDN) ((kG.trans kD).trans (.go gDN)) ((oG.trans (oI.trans (.same sD))).trans (KeepO.go hBD gDN))
        · intro hn
          refine hq _ _ fun p2 np2 => ?_
          have sM := mix_same sK
          have sX := sM.trans (same_new (o := .tup [.str "", .ref b']) np2)
          have sD := fz.back sX
          have ep2' := fz.kept sX upd_same nt
          have eb2 := fz.kept sX (same_new (o := .tup [.str "", .ref b']) np2 _ _ (mix_new hn eb')) (fun _ _ e => by cases e)
          have el2 := fz.kept sX (same_new (o := .tup [.str "", .ref b']) np2 _ _ (mix_new hn el')) (fun _ _ e => by cases e)
          have ebM := sM _ _ ebZ
          have p2b : p2 ≠ b := fun e => by rw [e, ebM] at np2; cases np2
          have bb : b' ≠ b := fun e => by rw [e, off_keep zL ebZ (fun _ _ e => by cases e)] at nb'; cases nb'
          have lb : l ≠ b := fun e => by rw [e, off_keep zL ebZ (fun _ _ e => by cases e)] at nl'; cases nl'
          unfold gName
          dsimp only
          generalize offC (upd _ p2 (.tup [.str "", .ref b'])) _ = HD at sD ep2' eb2 el2
          have hBD := hBI.same sD
          have kD : KeepB b HG HD := (KeepB.keepT kI).trans (.same sD)
          have hvD : Is b HD (carS z) v := hvG.keepT kD
          have rtD : IsAll b HD (z.rows.map (stepS T)) txs := rtG.keepT kD
          have tD := tI.same sD
          let zg : Car := { z with len := z.len + g }
          have og : zg.ok = true := Car.of h1 e5 h3 l1 l6 hrow
          have mD : Is b HD (trainS T z) (.ref ta) := train_is nta ntl (kD _ _ nta etaG fun ps e => by cases e) (kD _ _ ntl etlG fun ps e => by cases e) rtD
          have iD : Is b HD (.t [.c (.str ""), trainS T zg]) (.ref p2) := ⟨p2, _, rfl, p2b, ep2', _, _, rfl, rfl, _, _, rfl, train_is (z := zg) bb lb eb2 el2 rtD, rfl⟩
          let σC : L2.St := [some (.ref b), some v, some x2, x3, x4, x5, some y6, some y7, some y8, some (.ref p2), none, some (.int g), some (.ref ta), some vo, none, none, none]
          clear fv fz aL zL lL he hq etaZ etlZ rtZ ebZ ebM sX sM hn np2
          refine q_set (b := b) (σ := σC) (s := .c (.int (z.len + g))) hBD (e_add (e_ixT (j := 1) (s := .c (.int z.len)) (e_var rfl hvD) e_c rfl) (e_var rfl rfl)) fun y10 HL gL iL => ?_
          rw [show y10 = _ from iL]
          have e6 : (decide ((1 : Int) ≤ z.len + g) && decide (z.len + g ≤ 60)) = true := e5
          let σD : L2.St := [some (.ref b), some v, some x2, x3, x4, x5, some y6, some y7, some y8, some (.ref p2), some (.int (z.len + g)), some (.int g), some (.ref ta), some vo, none, none, none]
          refine e_chain (b := b) (σ := σD) (i := 1) (j := z.len + g) (k := 60) e_c (e_var rfl rfl) e_c HL (.refl gL.1) _ fun vv HM gM iM => ⟨true, (show vv = _ from iM).trans (by rw [e6]), iteF ?_⟩
          have gDM := gL.trans gM
          have ixM : ∀ {j : Nat} {s' : Sh}, [.c (.str z.n), .c (.int z.len), .l (z.rows.map rowS), .c (.int z.out)][j]? = some s' → Ev1 b (tOp (rIxT K) (tVar 1) (tC (.int (j : Nat)))) σD HM s' := fun n => e_ixT (e_var rfl (hvD.go gDM)) e_c n
          have big := e_and (e_eqZ (e_ixT (K := K) (j := 0) (s := .c (.str "")) (e_var (σ := σD) (i := 9) rfl (iD.go gDM)) e_c rfl) e_c)
            (fun _ => e_and (e_eqT (T := T) (c := zg) (d := zg) og og (.inl ⟨rfl, rfl⟩) (e_ixT (K := K) (j := 1) (e_var (σ := σD) (i := 9) rfl (iD.go gDM)) e_c rfl) (e_train (T := T) (c := zg) og (n_cons (e_tup (n_cons (ixM (j := 0) rfl) (n_cons (e_var (i := 10) rfl rfl) (n_cons (ixM (j := 2) rfl) (n_cons (ixM (j := 3) rfl) n_nil)))) (Nat.le_of_ble_eq_true rfl)) n_nil)))
              (fun _ => e_eqI (e_tlength (T := T) (c := z) (e_var (σ := σD) (i := 12) rfl (mD.go gDM))) (ixM (j := 1) (s' := .c (.int z.len)) rfl)))
          have eB : (true && (carB zg zg true && decide (z.len = z.len))) = true := by
            unfold carB trainB
            simp
          rw [eB] at big
          dsimp only
          refine q_ret (b := b) (σ := σD) (s := .c (.bl true)) gM.1 big fun y HN gN iN => ?_
          rw [show y = _ from iN]
          have gDN := gDM.trans gN
          exact q HN gDN.1 (tD.go hBD gDN) ((kG.trans kD).trans (.go gDN)) ((oG.trans (oI.trans (.same sD))).trans (KeepO.go hBD gDN))
      · exfalso
        have hj : j < txs.length := (List.getElem?_eq_some_iff.mp hx).1
        rw [ej, isNum_of (by omega) (by omega)] at nO'
        cases nO'
end
end Rd
set_option maxHeartbeats 4000000
namespace Rd
open PySem PySem.Spec PyProof.Rows L2 L2H HotX
/-! ## what the law needs -/
def strL (n : Nat) : Sh := .is fun v => ∃ r : Str, v = .str r ∧ r.length ≤ n
def intL (lo hi : Int) : Sh := .is fun v => ∃ d : Int, lo ≤ d ∧ d ≤ hi ∧ v = .int d
section
variable {b : Addr} {σ : L2.St} {H0 H : Hp} {te ta tb : TE} {tr : TA} {s : Sh} {K : PySem.W.Frag} {mg : Str → Option Value} {T : Txt K mg}
theorem e_catL {n m : Nat} (h : Ev1 b ta σ H0 (strL n)) (k : Ev1 b tb σ H0 (strL m)) (l : n + m ≤ 1000) : Ev1 b (tOp (fun x y H Q => ∃ i j, x = .str i ∧ y = .str j ∧ i.length + j.length ≤ sizeLine ∧ Q (.str (i ++ j)) H) ta tb) σ H0 (strL (n + m)) := fun H g Q q =>
  h H g _ fun v H1 g1 i1 => k H1 (g.trans g1) _ fun w H2 g2 i2 => by
    obtain ⟨r, rfl, hr⟩ := i1
    obtain ⟨t, rfl, ht⟩ := i2
    exact ⟨r, t, rfl, rfl, Nat.le_of_lt (small1000 (by omega)), q _ H2 (g1.trans g2) ⟨_, rfl, by rw [app_len]; omega⟩⟩
theorem e_dot {z : Str} {n : Nat} (h : z.length ≤ n) : Ev1 b (tC (.str z)) σ H0 (strL n) := fun H g Q q => q _ H (.refl g.1) ⟨z, rfl, h⟩
theorem e_oneD {k : Int} (h : Ev1 b te σ H0 (.is fun v => ∃ d, 0 ≤ d ∧ d < k ∧ v = .int d)) : Ev1 b (tOp (rI0 fun i j => .int (i + j)) (tC (.int 1)) te) σ H0 (intL 1 k) := fun H g Q q =>
  h H g _ fun v H1 g1 i1 => by
    obtain ⟨d, d0, d1, rfl⟩ := i1
    exact ⟨1, d, rfl, rfl, q _ H1 g1 ⟨1 + d, by omega, by omega, rfl⟩⟩
theorem e_strD {hi : Int} (h : Ev1 b te σ H0 (intL 1 hi)) (l : hi ≤ 1000) : Ev1 b (tCB (fun xs H Q => ∃ i, xs = [.int i] ∧ i.natAbs.log2 < 1920 ∧ Q (.str (toString i)) H) (tCons te tNil)) σ H0 (strL 5) := fun H g Q q =>
  h H g _ fun v H1 g1 i1 => by
    obtain ⟨d, d0, d1, rfl⟩ := i1
    refine ⟨d, rfl, ?_, q _ H1 g1 ⟨_, rfl, str_int_len _ (by omega)⟩⟩
    have : d.natAbs < 2 ^ 60 := by omega
    by_cases e : d.natAbs = 0
    · rw [e]; decide
    · exact Nat.lt_of_lt_of_le ((Nat.log2_lt e).mpr this) (by decide)
theorem e_eqD {s1 s2 : Sh} {k1 k2 : Nat} (h : Ev1 b ta σ H0 s1) (k : Ev1 b tb σ H0 s2) {da db : PyData} (d1 : det k1 s1 = true) (d2 : det k2 s2 = true) (ea : datOf s1 = da) (eb : datOf s2 = db) (p1 : SeqAt.shaped da = true) (p2 : SeqAt.shaped db = true) : Ev1 b (tOp (rEqD K) ta tb) σ H0 (.c (.bl (PyData.eqv da db))) := fun H g Q q =>
  h H g _ fun v H1 g1 i1 => k H1 (g.trans g1) _ fun w H2 g2 i2 => ⟨da, db, by rw [← ea]; exact Is.dp d1 (i1.go g2), by rw [← eb]; exact Is.dp d2 i2, p1, p2, q _ H2 (g1.trans g2) rfl⟩
theorem e_cvSteps : Ev1 b (ClX.tCVal K (tC (.ref T.aTrain)) "STEPS") σ H0 (.c (.int 6)) := fun H g Q q => by
  obtain ⟨mc, cr, ⟨u, cv⟩, _⟩ := T.cvTrain
  exact ⟨T.aTrain, mc, _, u, rfl, cr, cv, q _ H (.refl g.1) rfl⟩
theorem e_cvLength : Ev1 b (ClX.tCVal K (tC (.ref T.aTrain)) "LENGTH") σ H0 (.c (.int 60)) := fun H g Q q => by
  obtain ⟨mc, cr, _, ⟨u, cv⟩⟩ := T.cvTrain
  exact ⟨T.aTrain, mc, _, u, rfl, cr, cv, q _ H (.refl g.1) rfl⟩
end
open PySem PySem.Spec PyProof.Rows L2
open C8 (pss_cut tCut)
section
variable {P : Program} {w : World} {K : PySem.W.Frag} {mg : Str → Option Value} {base : Heap}
def spDrawB : Sp := fun vs H Q _ => ∃ (b : Addr) (k : Int), vs = [.ref b, .int k] ∧ Bag H b ∧ 0 < k ∧ k ≤ 1000000 ∧
  ∀ d H', Go b H H' → 0 ≤ d → d < k → Q (.int d) H'
theorem ok_law_drawB (T : Txt K mg) : FnOk P w K mg base CX0 1 T.d__law_draw.f T.d__law_draw.fd ["_law_bag_here", "_law_many"] spDrawB := by
  refine T.d__law_draw.F.ok sc_law_draw (fun vs H Q E h => ?_) (fun cdv A outer s H vs Q E hr h => ?_)
  · obtain ⟨b, k, rfl, _⟩ := h
    rfl
  · obtain ⟨b, k, rfl, hB, k0, k1, q⟩ := h
    refine ⟨_, (pss_cut (ps_asg (pe_op op_add (pe_ix ix_list (pv 0) pe_int (fun _ _ => rfl)) pe_int) (pg_sub (pv 0) pe_int set_list))
      (pss_cut (ps_if (PW.pt (pw_and (pt_cmpR op_eq (pe_ix ix_list (pv 0) pe_int (fun _ _ => rfl)) pe_int (nomark _)) (pw_and1 (pt_cmpR op_lt (pe_ix ix_list (pv 0) pe_int (fun _ _ => rfl)) (pe_callB call_len_seq (by rfl) T.z_len (by decide +kernel) (pa_cons (pe_ix ix_list (pv 0) pe_int (fun _ _ => rfl)) pa_nil)) (nomark _))))) (pss_cons (ps_set (i := 2) sc_law_draw.nd rfl (Or.inl rfl) (pe_callB call_abs (by rfl) T.z_abs (by decide +kernel) (pa_cons (pe_ix ix_list (pe_ix ix_list (pv 0) pe_int (fun _ _ => rfl)) (pe_ix ix_list (pv 0) pe_int (fun _ _ => rfl)) (fun _ _ => rfl)) pa_nil)))
      (pss_cons (ps_asg (pe_op op_add (pe_ix ix_list (pv 0) pe_int (fun _ _ => rfl)) pe_int) (pg_sub (pv 0) pe_int set_list))
      (pss_one (ps_if (pt_cmpR op_ge (pv 2) (pe_op op_pow pe_int pe_int) (nomark _)) (pss_one (ps_asg (pv 2) (pg_sub (pv 0) pe_int set_list))) (pss_one (ps_asg (pe_op op_mod (pe_callTy call_int1 (by rfl) T.z_int (by decide +kernel) (pa_cons (pe_op op_add (pe_op op_add (pe_op op_mul (pe_ix ix_list (pv 0) pe_int (fun _ _ => rfl)) pe_int) (pe_op op_mul (pe_op op_mod (pe_callTy call_int1 (by rfl) T.z_int (by decide +kernel) (pa_cons (pv 2) pa_nil)) pe_int) pe_int)) pe_int) pa_nil)) pe_int) (pg_sub (pv 0) pe_int set_list))))))) pss_nil)
      (pss_cut (ps_if (pt_cmpR op_gt (pe_ix ix_list (pv 0) pe_int (fun _ _ => rfl)) pe_int (nomark _)) (pss_cons (ps_set (i := 3) sc_law_draw.nd rfl (Or.inl rfl) (pe_op op_mod (pe_callTy call_int1 (by rfl) T.z_int (by decide +kernel) (pa_cons (pe_ix ix_list (pv 0) pe_int (fun _ _ => rfl)) pa_nil)) (pv 1)))
      (pss_cons (ps_asg (pe_op op_fdiv (pe_ix ix_list (pv 0) pe_int (fun _ _ => rfl)) (pv 1)) (pg_sub (pv 0) pe_int set_list))
      (pss_one (ps_ret (pv 3))))) pss_nil)
      (pss_cons (ps_set (i := 4) sc_law_draw.nd rfl (Or.inl rfl) (pe_op op_mod (pe_callTy call_int1 (by rfl) T.z_int (by decide +kernel) (pa_cons (pe_op op_add (pe_op op_mul (pe_ix ix_list (pv 0) pe_int (fun _ _ => rfl)) (pe_ix ix_list (pv 0) pe_int (fun _ _ => rfl))) (pe_op op_mul (pe_ix ix_list (pv 0) pe_int (fun _ _ => rfl)) pe_int)) pa_nil)) pe_int))
      (pss_cons (ps_asg (pe_op op_mod (pe_callTy call_int1 (by rfl) T.z_int (by decide +kernel) (pa_cons (pe_op op_add (pe_op op_add (pe_op op_mul (pv 4) pe_int) (pe_op op_mul (pe_ix ix_list (pv 0) pe_int (fun _ _ => rfl)) pe_int)) pe_int) pa_nil)) pe_int) (pg_sub (pv 0) pe_int set_list))
      (pss_one (ps_ret (pe_op op_mod (pe_callTy call_int1 (by rfl) T.z_int (by decide +kernel) (pa_cons (pe_op op_add (pe_op op_fdiv (pe_ix ix_list (pv 0) pe_int (fun _ _ => rfl)) pe_int) (pe_op op_mul (pe_op op_mod (pe_callTy call_int1 (by rfl) T.z_int (by decide +kernel) (pa_cons (pe_ix ix_list (pv 0) pe_int (fun _ _ => rfl)) pa_nil)) pe_int) pe_int)) pa_nil)) (pv 1))))))))), ?_⟩
    obtain ⟨c, ns, i, r, m, n, hb, hc, ec, i0, r0, m0, m1⟩ := hB
    have hcb : ∀ o, (upd H b o) c = some (.lst (ns.map V.int)) := fun o => by rw [upd_ne hc]; exact ec
    refine ⟨fun σ H' => σ = [some (.ref b), some (.int k), none, none, none] ∧ H' = upd H b (bl c i r m (n + 1)), ?_, ?_⟩
    · refine ⟨.ref b, rfl, b, _, 4, .int n, rfl, rfl, SqL.of hb, atI_nat (j := 4) rfl, n, 1, rfl, rfl, .ref b, rfl, b, _, 4, 4, rfl, rfl, hb, rfl, rfl, rfl⟩
    rintro σ H' ⟨rfl, rfl⟩
    refine ⟨fun σ H' => ∃ v i r m n, σ = [some (.ref b), some (.int k), v, none, none] ∧ H' = upd H b (bl c i r m n) ∧ 0 ≤ i ∧ 0 ≤ r ∧ 0 ≤ m ∧ m < 2147483587, ?_, ?_⟩
    · refine ⟨.ref b, rfl, b, _, 2, .int r, rfl, rfl, SqL.of upd_same, atI_nat (j := 2) rfl, rfl, _, rfl, ite2 (fun e => ?_) (fun e => ?_)⟩
      · refine ⟨.ref b, rfl, b, _, 1, .int i, rfl, rfl, SqL.of upd_same, atI_nat (j := 1) rfl, .ref b, rfl, b, _, 0, .ref c, rfl, rfl, SqL.of upd_same, atI_nat (j := 0) rfl, c, _, rfl, .inl (SqL.of (hcb _)), i, _, rfl, rfl, _, rfl, ite2 (fun e2 => ?_) (fun e2 => ?_)⟩
        · have hi : i < ns.length := by
            have := of_decide_eq_true e2
            rw [List.length_map] at this
            exact this
          obtain ⟨x, hx⟩ : ∃ x, (ns.map V.int)[i.toNat]? = some (.int x) := by
            have hj : i.toNat < ns.length := by omega
            exact ⟨ns[i.toNat], by rw [List.getElem?_map, List.getElem?_eq_getElem hj]; rfl⟩
          have ha : atI (ns.map V.int) i = some (.int x) := by
            have := atI_nat hx
            rwa [Int.toNat_of_nonneg i0] at this
          refine ⟨.ref b, rfl, b, _, 0, .ref c, rfl, rfl, SqL.of upd_same, atI_nat (j := 0) rfl, .ref b, rfl, b, _, 1, .int i, rfl, rfl, SqL.of upd_same, atI_nat (j := 1) rfl, c, _, i, .int x, rfl, rfl, SqL.of (hcb _), ha, x, rfl, ?_⟩
          generalize ey : (if x < 0 then -x else x) = y
          have y0 : 0 ≤ y := by rw [← ey]; split <;> omega
          refine ⟨.ref b, rfl, b, _, 1, .int i, rfl, rfl, SqL.of upd_same, atI_nat (j := 1) rfl, i, 1, rfl, rfl, .ref b, rfl, b, _, 1, 1, rfl, rfl, upd_same, rfl, ?_⟩
          rw [upd_upd]
          refine ⟨.int y, rfl, 10, 18, rfl, rfl, ⟨by decide, by decide, by decide⟩, y, _, rfl, rfl, _, rfl, ite2 (fun e3 => ?_) (fun e3 => ?_)⟩
          · refine ⟨.int y, rfl, .ref b, rfl, b, _, 2, 2, rfl, rfl, upd_same, rfl, ?_⟩
            rw [upd_upd]
            exact ⟨_, i + 1, y, m, n + 1, rfl, rfl, by omega, y0, m0, m1⟩
          · refine ⟨.ref b, rfl, b, _, 3, .int m, rfl, rfl, SqL.of upd_same, atI_nat (j := 3) rfl, m, _, rfl, rfl, .inr ⟨by decide, by decide⟩, .int y, rfl, .inl ⟨y, rfl, y, _, rfl, rfl, (by show (0 : Int) < 1000033; decide), _, _, rfl, rfl, .inr ⟨by decide, by decide⟩, _, _, rfl, rfl, _, _, rfl, rfl, .inl ⟨_, rfl, ?_⟩⟩⟩
            refine ⟨_, _, rfl, rfl, (by show (0 : Int) < 2147483587; decide), .ref b, rfl, b, _, 3, 3, rfl, rfl, upd_same, rfl, ?_⟩
            rw [upd_upd]
            exact ⟨_, i + 1, r, _, n + 1, rfl, rfl, by omega, r0, Int.emod_nonneg _ (by decide), Int.emod_lt_of_pos _ (by decide)⟩
        · exact ⟨none, i, r, m, n + 1, rfl, rfl, i0, r0, m0, m1⟩
      · exact iteF ⟨none, i, r, m, n + 1, rfl, rfl, i0, r0, m0, m1⟩
    rintro σ H' ⟨v, i, r, m, n, rfl, rfl, i0, r0, m0, m1⟩
    have fin : ∀ i r m n : Int, 0 ≤ i → 0 ≤ r → 0 ≤ m → m < 2147483587 → Go b H (upd H b (bl c i r m n)) := fun i r m n i0 r0 m0 m1 =>
      ⟨⟨c, ns, i, r, m, n, upd_same, hc, hcb _, i0, r0, m0, m1⟩, fun a o na e => by rw [upd_ne na]; exact e, fun c2 h2 => by
        obtain ⟨r2, e2⟩ := h2
        rw [hb] at e2
        cases e2
        exact ⟨_, upd_same⟩⟩
    refine ⟨fun σ H' => σ = [some (.ref b), some (.int k), v, none, none] ∧ H' = upd H b (bl c i r m n), ?_, ?_⟩
    · refine ⟨.ref b, rfl, b, _, 2, .int r, rfl, rfl, SqL.of upd_same, atI_nat (j := 2) rfl, r, _, rfl, rfl, _, rfl, ite2 (fun e => ?_) (fun e => ?_)⟩
      · refine ⟨.ref b, rfl, b, _, 2, .int r, rfl, rfl, SqL.of upd_same, atI_nat (j := 2) rfl, .inl ⟨r, rfl, .int k, rfl, r, k, rfl, rfl, k0, ?_⟩⟩
        refine ⟨.ref b, rfl, b, _, 2, .int r, rfl, rfl, SqL.of upd_same, atI_nat (j := 2) rfl, .int k, rfl, r, k, rfl, rfl, ⟨k0, by omega⟩, .ref b, rfl, b, _, 2, 2, rfl, rfl, upd_same, rfl, ?_⟩
        rw [upd_upd]
        refine ⟨_, rfl, ?_⟩
        exact q _ _ (fin i (r / k) m n i0 (Int.ediv_nonneg r0 (by omega)) m0 m1) (Int.emod_nonneg _ (by omega)) (Int.emod_lt_of_pos _ k0)
      · exact ⟨rfl, rfl⟩
    rintro σ H' ⟨rfl, rfl⟩
    refine ⟨.ref b, rfl, b, _, 3, .int m, rfl, rfl, SqL.of upd_same, atI_nat (j := 3) rfl, .ref b, rfl, b, _, 3, .int m, rfl, rfl, SqL.of upd_same, atI_nat (j := 3) rfl, m, m, rfl, rfl, .inl ⟨by omega, by omega⟩, .ref b, rfl, b, _, 4, .int n, rfl, rfl, SqL.of upd_same, atI_nat (j := 4) rfl, n, _, rfl, rfl, .inr ⟨by decide, by decide⟩, _, _, rfl, rfl, .inl ⟨_, rfl, _, _, rfl, rfl, (by show (0 : Int) < 2147483629; decide), ?_⟩⟩
    dsimp only
    generalize ez : (m * m + n * 10331) % 2147483629 = z
    have z0 : 0 ≤ z := by rw [← ez]; exact Int.emod_nonneg _ (by decide)
    have z1 : z < 2147483629 := by rw [← ez]; exact Int.emod_lt_of_pos _ (by decide)
    refine ⟨.int z, rfl, z, _, rfl, rfl, .inr ⟨by decide, by decide⟩, .ref b, rfl, b, _, 3, .int m, rfl, rfl, SqL.of upd_same, atI_nat (j := 3) rfl, m, _, rfl, rfl, .inr ⟨by decide, by decide⟩, _, _, rfl, rfl, _, _, rfl, rfl, .inl ⟨_, rfl, _, _, rfl, rfl, (by show (0 : Int) < 2147483587; decide), .ref b, rfl, b, _, 3, 3, rfl, rfl, upd_same, rfl, ?_⟩⟩
    rw [upd_upd]
    dsimp only
    generalize ey : (z * 19319 + m * 43037 + 70019) % 2147483587 = y
    have y0 : 0 ≤ y := by rw [← ey]; exact Int.emod_nonneg _ (by decide)
    have y1 : y < 2147483587 := by rw [← ey]; exact Int.emod_lt_of_pos _ (by decide)
    refine ⟨.ref b, rfl, b, _, 3, .int y, rfl, rfl, SqL.of upd_same, atI_nat (j := 3) rfl, y, _, rfl, rfl, ⟨by decide, by decide⟩, .ref b, rfl, b, _, 3, .int y, rfl, rfl, SqL.of upd_same, atI_nat (j := 3) rfl, .inl ⟨y, rfl, y, _, rfl, rfl, (by show (0 : Int) < 7919; decide), _, _, rfl, rfl, .inr ⟨by decide, by decide⟩, _, _, rfl, rfl, .inl ⟨_, rfl, .int k, rfl, _, k, rfl, rfl, k0, ?_⟩⟩⟩
    exact q _ _ (fin i r y n i0 r0 y0 y1) (Int.emod_nonneg _ (by omega)) (Int.emod_lt_of_pos _ k0)
theorem e_drawB {b : Addr} {σ : L2.St} {H0 : Hp} {tr : TA} {k : Int} (h : EvN b tr σ H0 [.c (.ref b), .c (.int k)]) (h0 : 0 < k) (h1 : k ≤ 1000000) : Ev1 b (tCall spDrawB [] E0 tr) σ H0 (.is fun v => ∃ d, 0 ≤ d ∧ d < k ∧ v = .int d) :=
  e_call h fun vs H g i Q q => by
    obtain ⟨v, u, rfl, rfl, rfl⟩ := is2 i
    exact ⟨b, k, rfl, g.1, h0, h1, fun c H' g' m0 m1 => q _ H' g' ⟨c, m0, m1, rfl⟩⟩
theorem e_allL {b : Addr} {σ : L2.St} {H0 : Hp} {te : TE} {bs : List Bool} (h : Ev1 b te σ H0 (.l (bs.map fun x => .c (.bl x)))) : Ev1 b (tCB (rAll K) (tCons te tNil)) σ H0 (.c (.bl (bs.all id))) := fun H g Q q =>
  h H g _ fun v H1 g1 i1 => by
    obtain ⟨p, vs, rfl, n1, o, r⟩ := i1
    have e : vs = bs.map V.bl := by
      have go : ∀ {l : List Bool} {m : List V}, IsAll b H1 (l.map fun x => .c (.bl x)) m → m = l.map V.bl := by
        intro l
        induction l with
        | nil => exact fun h => h
        | cons z l ih =>
          rintro m ⟨w, ws, rfl, h1, h2⟩
          rw [show w = _ from h1, ih h2]
          rfl
      exact go r
    subst e
    exact ⟨p, bs, rfl, SqL.of o, q _ H1 g1 rfl⟩
end
end Rd
set_option maxHeartbeats 4000000
namespace Rd
open PySem PySem.Spec PyProof.Rows L2 L2H HotX
/-! ## the law -/
section
variable {P : Program} {w : World} {K : PySem.W.Frag} {mg : Str → Option Value} {base : Heap}
def Tabs (H : Hp) (P1 P2 P3 : Addr) : Prop := TabF H P1 lamS ∧ TabF H P2 lamT ∧ TabF H P3 lamR
theorem TabF.keepO {b P' P : Addr} {H H' : Hp} {q : Str} (hB : Bag H b) (t : TabF H P' q) (n : P' ≠ P) (kB : KeepB b H H') (kO : KeepO P H H') : TabF H' P' q := by
  obtain ⟨xs, eb⟩ := hB.some
  obtain ⟨ps, e1, e2, e3⟩ := t
  refine ⟨ps, kO _ _ n e1, e2, fun pos cv h => ?_⟩
  obtain ⟨c, u, a1, a2, a3⟩ := e3 pos cv h
  refine ⟨c, u, a1, kB _ _ (fun z => ?_) a2 a3.ne, a3⟩
  obtain ⟨oc, vs, t, e, _⟩ := a3
  rw [z, eb] at a2
  cases a2
  cases e
def spLaw (K : PySem.W.Frag) (P1 P2 P3 : Addr) : Sp := fun vs H Q _ => ∃ (a : Addr) (ns : List Int), vs = [.ref a] ∧ SqL K H a (ns.map V.int) ∧ ns.length ≤ 63 ∧ Tabs H P1 P2 P3 ∧ (P1 ≠ P2 ∧ P1 ≠ P3 ∧ P2 ≠ P3) ∧ ∀ H', Q (.bl true) H'
theorem ok_law (T : Txt K mg) {c1 c2 c3 P1 P2 P3 : Addr} (TB1 : LamX.TabB base mg c1 P1) (hc1 : T.d__law_steps_refused_so.fd.code = .ref c1) (TB2 : LamX.TabB base mg c2 P2) (hc2 : T.d__law_trains_so.fd.code = .ref c2) (TB3 : LamX.TabB base mg c3 P3) (hc3 : T.d__law_trains_refused_so.fd.code = .ref c3) :
    FnOk P w K mg base CX0 13 T.d_law.f T.d_law.fd ["_law_script"] (spLaw K P1 P2 P3) := by
  refine T.d_law.F.ok sc_law (fun vs H Q E h => ?_) (fun cdv A outer s H vs Q E hr h => ?_)
  · obtain ⟨a, ns, rfl, _⟩ := h
    rfl
  · obtain ⟨a, ns, rfl, hS, hl, hT, nP, q⟩ := h
    obtain ⟨mv1, kb_sp⟩ := kb_sp T
    refine ⟨_, (pss_cons (ps_set (i := 1) sc_law.nd rfl (Or.inr rfl) (pe_call (ok_law_bag T) (hr.mono (by decide)) (by rfl) T.d__law_bag.g T.d__law_bag.F.kp T.d__law_bag.b .nil pass0 (pa_cons (pv 0) pa_nil)))
      (pss_cons (ps_for PassesOwn.never rfl (pi_range1 (by rfl) T.z_range (pa_cons pe_int pa_nil)) (pg_name (i := 2) sc_law.nd rfl (Or.inl rfl)) (pss_cons (ps_par (i := 3) (j := 4) (by rfl) sc_law.nd rfl rfl (by decide) rfl rfl (pa_cons (pe_call (ok_law_wordsL T) (hr.mono (by decide)) (by rfl) T.d__law_words.g T.d__law_words.F.kp T.d__law_words.b .nil pass0 (pa_cons (pv 1) (pa_cons pe_int pa_nil))) (pa_cons (pe_lst pa_nil) pa_nil)) (by rfl))
      (pss_cons (ps_for PassesOwn.never rfl (pi_range1 (by rfl) T.z_range (pa_cons (pe_op op_add pe_int (pe_call (ok_law_draw T) (hr.mono (by decide)) (by rfl) T.d__law_draw.g T.d__law_draw.F.kp T.d__law_draw.b .nil pass0 (pa_cons (pv 1) (pa_cons pe_int pa_nil)))) pa_nil)) (pg_name (i := 5) sc_law.nd rfl (Or.inl rfl)) (pss_cons (ps_set (i := 6) sc_law.nd rfl (Or.inl rfl) (pe_op op_add_str (pe_op op_add_str (pe_op op_add_str (pe_op op_add_str (pe_call (ok_law_ofL T) (hr.mono (by decide)) (by rfl) T.d__law_of.g T.d__law_of.F.kp T.d__law_of.b .nil pass0 (pa_cons (pv 1) (pa_cons (pv 3) pa_nil))) pe_str) (pe_call (ok_law_ofL T) (hr.mono (by decide)) (by rfl) T.d__law_of.g T.d__law_of.F.kp T.d__law_of.b .nil pass0 (pa_cons (pv 1) (pa_cons (pv 3) pa_nil)))) pe_str) (pe_callTy call_str_int (by rfl) T.z_str (by decide +kernel) (pa_cons (pe_op op_add pe_int (pe_call (ok_law_draw T) (hr.mono (by decide)) (by rfl) T.d__law_draw.g T.d__law_draw.F.kp T.d__law_draw.b .nil pass0 (pa_cons (pv 1) (pa_cons pe_int pa_nil)))) pa_nil))))
      (pss_one (ps_expr (pe_bm PySem.F.plainAttrs_list PySem.F.slot_list_append PySem.F.type_list_append mt_append (pv 4) (pa_cons (pe_tup (pa_cons (pv 6) (pa_cons (pe_call (ok_law_rising T) (hr.mono (by decide)) (by rfl) T.d__law_rising.g T.d__law_rising.F.kp T.d__law_rising.b .nil pass0 (pa_cons (pv 1) (pa_cons (pe_op op_add pe_int (pe_call (ok_law_draw T) (hr.mono (by decide)) (by rfl) T.d__law_draw.g T.d__law_draw.F.kp T.d__law_draw.b .nil pass0 (pa_cons (pv 1) (pa_cons pe_int pa_nil)))) pa_nil))) (pa_cons (pe_call (ok_law_ofL T) (hr.mono (by decide)) (by rfl) T.d__law_of.g T.d__law_of.F.kp T.d__law_of.b .nil pass0 (pa_cons (pv 1) (pa_cons (pe_lst (pa_cons pe_int (pa_cons pe_int (pa_cons pe_int (pa_cons (pe_call (ok_law_drawB T) (hr.mono (by decide)) (by rfl) T.d__law_draw.g T.d__law_draw.F.kp T.d__law_draw.b .nil pass0 (pa_cons (pv 1) (pa_cons (pe_op op_pow pe_int pe_int) pa_nil))) pa_nil))))) pa_nil))) (pa_cons (pe_call (ok_law_ofL T) (hr.mono (by decide)) (by rfl) T.d__law_of.g T.d__law_of.F.kp T.d__law_of.b .nil pass0 (pa_cons (pv 1) (pa_cons (pe_lst (pa_cons pe_non (pa_cons pe_int (pa_cons (pe_op op_add pe_int (pe_call (ok_law_draw T) (hr.mono (by decide)) (by rfl) T.d__law_draw.g T.d__law_draw.F.kp T.d__law_draw.b .nil pass0 (pa_cons (pv 1) (pa_cons pe_int pa_nil)))) pa_nil)))) pa_nil))) pa_nil))))) pa_nil))))))
      (pss_cons (ps_set (i := 7) sc_law.nd rfl (Or.inl rfl) (pe_tup (pa_cons (pe_ix ix_list (pv 3) pe_int (fun _ _ => rfl)) (pa_cons (pe_op op_add pe_int (pe_call (ok_law_draw T) (hr.mono (by decide)) (by rfl) T.d__law_draw.g T.d__law_draw.F.kp T.d__law_draw.b .nil pass0 (pa_cons (pv 1) (pa_cons pe_int pa_nil)))) (pa_cons (pv 4) (pa_cons (pe_op op_add pe_int (pe_call (ok_law_draw T) (hr.mono (by decide)) (by rfl) T.d__law_draw.g T.d__law_draw.F.kp T.d__law_draw.b .nil pass0 (pa_cons (pv 1) (pa_cons pe_int pa_nil)))) pa_nil))))))
      (pss_cons (ps_if (PW.pt (pw_or (pt_not (pt_val (pe_callB (cr_all rfl) (by rfl) T.z_all (by decide +kernel) (pa_cons (pe_lc (own := [("_law_row", 10)]) (g := gName 10) (tt := tYes) (by rfl) sc_law.nd (pi_list (pe_slice sl_list (pv 4) po_none (po_some pe_int))) (blkOk_by (own := [("_law_row", 10)]) (N := N_law) (sc := defScope s_law) (by decide +kernel)) (fun _ _ _ _ _ => (pg_name (i := 10) sc_law.nd rfl (Or.inl rfl))) (fun _ _ _ _ _ => pts_nil) (fun _ _ _ _ _ => (pe_call (ok_law_steps_so T) (hr.mono (by decide)) (by rfl) T.d__law_steps_so.g T.d__law_steps_so.F.kp T.d__law_steps_so.b .nil pass0 (pa_cons (pv 1) (pa_cons (pv 10) pa_nil))))) pa_nil)))) (pw_or1 (pt_not (pt_val (pe_call (ok_law_trains_so T TB2 hc2) (hr.mono (by decide)) (by rfl) T.d__law_trains_so.g T.d__law_trains_so.F.kp T.d__law_trains_so.b .nil pass0 (pa_cons (pv 1) (pa_cons (pv 7) pa_nil)))))))) (pss_one (ps_ret pe_bl)) pss_nil)
      (pss_one (ps_if (PW.pt (pw_or (pt_not (pt_val (pe_call (ok_law_steps_refused_so T TB1 hc1) (hr.mono (by decide)) (by rfl) T.d__law_steps_refused_so.g T.d__law_steps_refused_so.F.kp T.d__law_steps_refused_so.b .nil pass0 (pa_cons (pv 1) (pa_cons (pe_ix ix_tup (pe_ix ix_list (pv 4) pe_int (fun _ _ => rfl)) pe_int (fun _ _ => rfl)) pa_nil))))) (pw_or1 (pt_not (pt_val (pe_call (ok_law_trains_refused_so T TB3 hc3) (hr.mono (by decide)) (by rfl) T.d__law_trains_refused_so.g T.d__law_trains_refused_so.F.kp T.d__law_trains_refused_so.b .nil pass0 (pa_cons (pv 1) (pa_cons (pe_ix ix_list (pv 3) pe_int (fun _ _ => rfl)) (pa_cons (pe_ix ix_list (pv 4) pe_int (fun _ _ => rfl)) pa_nil))))))))) (pss_one (ps_ret pe_bl)) pss_nil)))))))
      (pss_cons (ps_set (i := 8) sc_law.nd rfl (Or.inl rfl) (pe_makeSK T.kTrain.made (ok_mt_init T) (hr.mono (by decide)) (by rfl) T.c_Train passLN (pa_cons pe_str (pa_cons pe_int (pa_cons (pe_makeK T.kStep.made (ok_ms_init T) (hr.mono (by decide)) (by rfl) T.c_Step kb_sp passLN (pa_cons pe_str (pa_cons (pe_lst (pa_cons (pe_op op_pow pe_int pe_int) pa_nil)) pa_nil)) (pk_cons (pe_op op_pow pe_int pe_int) (pk_cons (pe_op op_pow pe_int pe_int) pk_nil))) pa_nil))) (pk_cons (pe_op op_pow pe_int pe_int) pk_nil)))
      (pss_cons (ps_set (i := 9) sc_law.nd rfl (Or.inl rfl) (pe_lst (pa_cons (pe_fld (pv 8) (by rfl)) (pa_cons (pe_fld (pv 8) (by rfl)) (pa_cons (pe_prop (pe_ixF (S := T.sT) (fun C h => (T.mt_getitem.M C h).at_) T.getF (T.mt_getitem.M _ rfl).fn (ok_mt_getitem T) (hr.mono (by decide)) T.mt_getitem.b passLN (pv 8) pe_int (fun _ _ => by rfl)) T.kStep.cls T.ms_arrival.P (ok_ms_arrival T) (hr.mono (by decide)) T.ms_arrival.b .nil pass0 (by rfl)) (pa_cons (pe_fld (pe_ixF (S := T.sT) (fun C h => (T.mt_getitem.M C h).at_) T.getF (T.mt_getitem.M _ rfl).fn (ok_mt_getitem T) (hr.mono (by decide)) T.mt_getitem.b passLN (pv 8) pe_int (fun _ _ => by rfl)) (by rfl)) (pa_cons (pe_prop (pe_ixF (S := T.sT) (fun C h => (T.mt_getitem.M C h).at_) T.getF (T.mt_getitem.M _ rfl).fn (ok_mt_getitem T) (hr.mono (by decide)) T.mt_getitem.b passLN (pv 8) pe_int (fun _ _ => by rfl)) T.kStep.cls T.ms_base.P (ok_ms_base T) (hr.mono (by decide)) T.ms_base.b .nil pass0 (by rfl)) pa_nil)))))))
      (pss_one (ps_ret (pe_and (pe_call (ok_law_same T 6) (hr.mono (by decide)) (by rfl) T.d__law_same.g T.d__law_same.F.kp T.d__law_same.b .nil pass0 (pa_cons (pv 9) (pa_cons (pe_lst (pa_cons (pe_op op_pow pe_int pe_int) (pa_cons pe_int (pa_cons (pe_op op_pow pe_int pe_int) (pa_cons (pe_op op_pow pe_int pe_int) (pa_cons (pe_op op_pow pe_int pe_int) pa_nil)))))) pa_nil))) (pe_one (pe_cmpR (op_eqD hr.units) (pe_lst (pa_cons (ClX.pe_cval (pe_glob (v := .ref T.aTrain) rfl T.c_Train rfl)) (pa_cons (ClX.pe_cval (pe_glob (v := .ref T.aTrain) rfl T.c_Train rfl)) pa_nil))) (pe_lst (pa_cons pe_int (pa_cons pe_int pa_nil))) (nomark _)))))))))), ?_⟩
    refine ⟨.ref a, rfl, a, ns, rfl, hS, hl, fun b H1 nb s1 hB => ?_⟩
    dsimp only [gName]
    have hT1 : Tabs H1 P1 P2 P3 := ⟨hT.1.same s1, hT.2.1.same s1, hT.2.2.same s1⟩
    refine ⟨4, rfl, by decide, by decide, for_range (n := 4) (fun i σ H3 => Bag H3 b ∧ Tabs H3 P1 P2 P3 ∧ ∃ v2 v3 v4 v5 v6 v7 v8 v9 v10, σ = [some (.ref a), some (.ref b), v2, v3, v4, v5, v6, v7, v8, v9, v10]) ⟨hB, hT1, none, none, none, none, none, none, none, none, none, rfl⟩ ?_ ?_⟩
    · rintro i σ H3 hi ⟨hB3, hT3, v2, v3, v4, v5, v6, v7, v8, v9, v10, rfl⟩
      dsimp only [gName]
      refine ⟨.ref b, rfl, b, 3, rfl, hB3, by decide, fun pw f H4 g4 npw npb epw hnm hinj => ⟨Nat.zero_le _, fun lg nlg => ⟨_, _, rfl, ?_⟩⟩⟩
      dsimp only
      have lgb : lg ≠ b := g4.1.ne nlg
      have g5 : Go b H4 (upd H4 lg (.lst [])) := (Go.refl g4.1).new nlg
      have e5 : upd H4 lg (.lst []) lg = some (.lst []) := upd_same
      generalize upd H4 lg (.lst []) = H5 at g5 e5
      have wI : Is b H4 (.l [.c (.str (f 0)), .c (.str (f 1)), .c (.str (f 2))]) (.ref pw) := ⟨pw, _, rfl, npb, epw, _, _, rfl, rfl, _, _, rfl, rfl, _, _, rfl, rfl, rfl⟩
      have pick : ∀ {σ' : L2.St} {H' : Hp}, Go b H4 H' → σ'[1]? = some (some (.ref b)) → σ'[3]? = some (some (.ref pw)) → Ev1 b (tCall spOfL [] E0 (tCons (tVar 1) (tCons (tVar 3) tNil))) σ' H' (strL 4) := fun g h1 h3 H g2 Q q =>
        e_ofL (xs := [.c (.str (f 0)), .c (.str (f 1)), .c (.str (f 2))]) (n_cons (e_var h1 rfl) (n_cons (e_var h3 (wI.go g)) n_nil)) (Nat.le_of_ble_eq_true rfl) (Nat.le_of_ble_eq_true rfl) H g2 Q fun v H' g' i => q v H' g' (by
          obtain ⟨s, ms, i⟩ := IsOne.mem i
          simp only [List.mem_cons, List.not_mem_nil, or_false] at ms
          rcases ms with rfl | rfl | rfl
          · exact ⟨f 0, i, (hnm 0 (by omega)).2⟩
          · exact ⟨f 1, i, (hnm 1 (by omega)).2⟩
          · exact ⟨f 2, i, (hnm 2 (by omega)).2⟩)
      refine ⟨.ref b, rfl, b, 6, rfl, g5.1, by decide, by decide, fun d H6 g6 d0 d1 => ⟨1, d, rfl, rfl, 1 + d, rfl, by omega, by omega, for_range (n := (1 + d).toNat) (fun j σ H7 => Go b H4 H7 ∧ ∃ (rows : List Row) (xs : List V) (v5 v6 : Option V), rows.length = j ∧ H7 lg = some (.lst xs) ∧ IsAll b H7 (rows.map rowS) xs ∧ IsAll lg H7 (rows.map rowS) xs ∧ (∀ z, z ∈ rows → RowL z) ∧
        σ = [some (.ref a), some (.ref b), some (.int (0 + (i : Int))), some (.ref pw), some (.ref lg), v5, v6, v7, v8, v9, v10]) ⟨g5.trans g6, [], [], v5, v6, rfl, g6.2 _ _ lgb e5, rfl, rfl, fun z m => (nomatch m), rfl⟩ ?_ ?_⟩⟩
      · rintro j σ H7 hj ⟨g7, rows, xs, w5, w6, lr, elg, r1, r2, hR, rfl⟩
        let σ7 : L2.St := [some (.ref a), some (.ref b), some (.int (0 + (i : Int))), some (.ref pw), some (.ref lg), some (.int (0 + (j : Int))), w6, v7, v8, v9, v10]
        refine q_set (b := b) (σ := σ7) (s := strL (4 + 1 + 4 + 1 + 5)) g7.1 (e_catL (e_catL (e_catL (e_catL (pick g7 rfl rfl) (e_dot (n := 1) (by decide)) (by omega)) (pick g7 rfl rfl) (by omega)) (e_dot (n := 1) (by decide)) (by omega)) (e_strD (hi := 3) (e_oneD (e_draw (n_cons (e_var rfl rfl) (n_cons e_c n_nil)) (by decide) (by decide))) (by decide)) (by omega)) fun y6 H8 g8 i8 => ?_
        obtain ⟨r, rfl, hr⟩ := i8
        have elg8 := g8.2 _ _ lgb elg
        let σ8 : L2.St := [some (.ref a), some (.ref b), some (.int (0 + (i : Int))), some (.ref pw), some (.ref lg), some (.int (0 + (j : Int))), some (.str r), v7, v8, v9, v10]
        refine ⟨.ref lg, rfl, .inl ⟨rfl, _, SqL.of elg8⟩, .str r, rfl, .ref b, rfl, ?_⟩
        refine e_oneD (b := b) (σ := σ8) (e_draw (n_cons (e_var rfl rfl) (n_cons e_c n_nil)) (by decide) (by decide)) H8 (.refl g8.1) _ fun vn H9 g9 i9 => ?_
        obtain ⟨n, n1, n2, rfl⟩ := i9
        obtain ⟨n', rfl⟩ := Int.eq_ofNat_of_zero_le (show 0 ≤ n by omega)
        refine ⟨b, n', rfl, g9.1, by omega, fun is vi HA gA iA li hr1 hb1 => ?_⟩
        refine e_ofL (b := b) (σ := σ8) (xs := [.c (.int 0), .c (.int 0), .c (.int 1), .is fun v => ∃ d, 0 ≤ d ∧ d < 10 ^ (6 : Int).toNat ∧ v = .int d]) (n_cons (e_var rfl rfl) (n_cons (e_lst (n_cons e_c (n_cons e_c (n_cons e_c (n_cons (e_drawB (n_cons (e_var rfl rfl) (n_cons (e_pow e_c e_c ⟨by decide, by decide, by decide⟩) n_nil)) (by decide) (by decide)) n_nil)))) (by decide)) n_nil)) (by decide) (by decide) HA (.refl gA.1) _ fun vst HB gB iB => ?_
        obtain ⟨st, rfl, st0, st1⟩ : ∃ st : Int, vst = .int st ∧ 0 ≤ st ∧ st ≤ 999999 := by
          obtain ⟨s, ms, i⟩ := IsOne.mem iB
          simp only [List.mem_cons, List.not_mem_nil, or_false] at ms
          rcases ms with rfl | rfl | rfl | rfl
          · exact ⟨0, i, by decide, by decide⟩
          · exact ⟨0, i, by decide, by decide⟩
          · exact ⟨1, i, by decide, by decide⟩
          · obtain ⟨d, d0, d1, e⟩ := i
            have : (10 : Int) ^ (6 : Int).toNat = 1000000 := by decide
            exact ⟨d, e, d0, by omega⟩
        refine e_ofL (b := b) (σ := σ8) (xs := [.c .non, .c (.int 0), intL 1 60]) (n_cons (e_var rfl rfl) (n_cons (e_lst (n_cons e_c (n_cons e_c (n_cons (e_oneD (e_draw (n_cons (e_var rfl rfl) (n_cons e_c n_nil)) (by decide) (by decide))) n_nil))) (by decide)) n_nil)) (by decide) (by decide) HB (.refl gB.1) _ fun pu HC gC iC => ?_
        obtain ⟨hp1, hp2⟩ : pubB pu = true ∧ isSc pu = true := by
          obtain ⟨s, ms, i⟩ := IsOne.mem iC
          simp only [List.mem_cons, List.not_mem_nil, or_false] at ms
          rcases ms with rfl | rfl | rfl
          · rw [show pu = _ from i]; exact ⟨by decide, rfl⟩
          · rw [show pu = _ from i]; exact ⟨by decide, rfl⟩
          · obtain ⟨d, d0, d1, rfl⟩ := i
            refine ⟨?_, rfl⟩
            unfold pubB
            rw [isNum_of (by omega) (by omega), Bool.or_true]
        refine ⟨Nat.le_of_ble_eq_true rfl, fun p np => ?_⟩
        let zr : Row := ⟨r, is, st, pu⟩
        have g8C := (g9.trans gA).trans (gB.trans gC)
        have elgC := g8C.2 _ _ lgb elg8
        have plg : p ≠ lg := fun e => by rw [e, elgC] at np; cases np
        have pb : p ≠ b := gC.1.ne np
        have s1 := same_new (o := .tup [.str r, vi, .int st, pu]) np
        have iI : Is b HC (intsS is) vi := (iA.go gB).go gC
        obtain ⟨pl, ys, rfl, nl, ol, rl⟩ := iI
        have ey := isAll_ints rl
        subst ey
        have llg : pl ≠ lg := fun e => by
          rw [e, elgC] at ol
          cases ol
          cases rows with
          | nil =>
            have : (is.map V.int) = [] := r1
            rw [List.map_eq_nil_iff] at this
            rw [this] at li
            simp at li
            omega
          | cons z0 rest =>
            obtain ⟨v0, ws, e0, i0, _⟩ := r1
            obtain ⟨a0, us, rfl, _⟩ := i0
            cases is with
            | nil => cases e0
            | cons i0 is => cases e0
        have zok : zr.ok = true := by
          unfold Row.ok timesB
          rw [hr1, List.length_map, decide_eq_true (show 1 ≤ zr.is.length by show 1 ≤ is.length; omega), decide_eq_true (show zr.is.length ≤ 24 by show is.length ≤ 24; omega), isNum_of (show (0 : Int) ≤ zr.st from st0) (show zr.st ≤ 1000000 by show st ≤ 1000000; omega), hp1, hp2]
          rfl
        have zL : RowL zr := ⟨zok, st1, fun i m => by have := hb1 i m; omega, by show r.length ≤ 900; omega⟩
        have plp : pl ≠ p := fun e => by rw [e, np] at ol; cases ol
        have g7D : Go b H7 (upd HC p (.tup [.str r, .ref pl, .int st, pu])) := (g8.trans g8C).same s1
        have pR : purs (rows.map rowS) = true := purs_map (fun z => pur_row z) rows
        obtain ⟨r2', r1'⟩ := IsAll.two (b := lg) (c := b) g7D.2 pR r2 r1
        have eD : upd HC p (.tup [.str r, .ref pl, .int st, pu]) lg = some (.lst xs) := s1 _ _ elgC
        have olD := s1 _ _ ol
        have lxs := r1.length
        rw [List.length_map] at lxs
        refine ⟨lg, xs, .ref p, rfl, rfl, eD, small1000 (by omega), ?_⟩
        have gE : Go b H4 (upd (upd HC p (.tup [.str r, .ref pl, .int st, pu])) lg (.lst (xs ++ [.ref p]))) := Go.putB g4.1 (g7.trans g7D) lgb fun a o e _ z => by rw [z, e] at nlg; cases nlg
        have epE : upd (upd HC p (.tup [.str r, .ref pl, .int st, pu])) lg (.lst (xs ++ [.ref p])) p = some (.tup [.str r, .ref pl, .int st, pu]) := by rw [upd_ne plg]; exact upd_same
        have olE : upd (upd HC p (.tup [.str r, .ref pl, .int st, pu])) lg (.lst (xs ++ [.ref p])) pl = some (.lst (is.map V.int)) := by rw [upd_ne llg]; exact olD
        obtain ⟨r1e, r2e⟩ := IsAll.two (b := b) (c := lg) (H := upd HC p (.tup [.str r, .ref pl, .int st, pu])) (H' := upd (upd HC p (.tup [.str r, .ref pl, .int st, pu])) lg (.lst (xs ++ [.ref p]))) (fun a o n e => by rw [upd_ne n]; exact e) pR r1' r2'
        have elE : upd (upd HC p (.tup [.str r, .ref pl, .int st, pu])) lg (.lst (xs ++ [.ref p])) lg = some (.lst (xs ++ [.ref p])) := upd_same
        generalize upd (upd HC p (.tup [.str r, .ref pl, .int st, pu])) lg (.lst (xs ++ [.ref p])) = HE at gE epE olE r1e r2e elE
        have ib : Is b HE (rowS zr) (.ref p) := ⟨p, _, rfl, pb, epE, _, _, rfl, rfl, _, _, rfl, ⟨pl, _, rfl, nl, olE, ints_all is⟩, _, _, rfl, rfl, _, _, rfl, rfl, rfl⟩
        have il : Is lg HE (rowS zr) (.ref p) := ⟨p, _, rfl, plg, epE, _, _, rfl, rfl, _, _, rfl, ⟨pl, _, rfl, llg, olE, ints_all is⟩, _, _, rfl, rfl, _, _, rfl, rfl, rfl⟩
        refine ⟨gE, rows ++ [zr], xs ++ [.ref p], _, _, by rw [List.length_append, lr]; rfl, elE, by rw [List.map_append]; exact isAll_snoc r1e ib, by rw [List.map_append]; exact isAll_snoc r2e il, fun z m => ?_, rfl⟩
        rcases List.mem_append.mp m with m | m
        · exact hR z m
        · rw [List.mem_singleton.mp m]; exact zL
      · rintro σ H7 ⟨g7, rows, xs, w5, w6, lr, elg, r1, r2, hR, rfl⟩
        dsimp only
        have l1 : 1 ≤ rows.length := by omega
        have l6 : rows.length ≤ 6 := by omega
        obtain ⟨z0, rest, er⟩ : ∃ z0 rest, rows = z0 :: rest := by
          cases rows with
          | nil => simp at l1
          | cons z0 rest => exact ⟨z0, rest, rfl⟩
        have m0 : z0 ∈ rows := by rw [er]; exact List.mem_cons_self
        have h0 : (rows.map rowS)[0]? = some (rowS z0) := by rw [er]; rfl
        have lI : Is b H7 (.l (rows.map rowS)) (.ref lg) := ⟨lg, xs, rfl, lgb, elg, r1⟩
        have wI7 := wI.go g7
        let σ7 : L2.St := [some (.ref a), some (.ref b), some (.int (0 + (i : Int))), some (.ref pw), some (.ref lg), w5, w6, v7, v8, v9, v10]
        refine q_set (b := b) (σ := σ7) (s := .t [.c (.str (f 0)), intL 1 60, .l (rows.map rowS), intL 1 30]) g7.1 (e_tup (n_cons (e_ixL (K := K) (j := 0) (e_var rfl wI7) e_c rfl) (n_cons (e_oneD (e_draw (n_cons (e_var rfl rfl) (n_cons e_c n_nil)) (by decide) (by decide))) (n_cons (e_var (i := 4) rfl lI) (n_cons (e_oneD (e_draw (n_cons (e_var rfl rfl) (n_cons e_c n_nil)) (by decide) (by decide))) n_nil)))) (Nat.le_of_ble_eq_true rfl)) fun vc H8 g8 ic => ?_
        obtain ⟨zc, icc, oc⟩ : ∃ zc : Car, Is b H8 (carS zc) vc ∧ CarL zc := by
          obtain ⟨p, us, rfl, np, o, u0, us1, rfl, i0, u1, us2, rfl, ⟨len, q1, q2, rfl⟩, u2, us3, rfl, i2, u3, us4, rfl, ⟨out, q3, q4, rfl⟩, r5⟩ := ic
          refine ⟨⟨f 0, len, rows, out⟩, ⟨p, _, rfl, np, o, _, _, rfl, i0, _, _, rfl, rfl, _, _, rfl, i2, _, _, rfl, rfl, r5⟩, Car.of (hnm 0 (by omega)).1 (isNum_of q1 q2) (isNum_of q3 (show out ≤ 1000000 by omega)) l1 l6 (fun x m => (hR x m).1), nm_x (hnm 0 (by omega)).1 (by have := (hnm 0 (by omega)).2; show (f 0).length ≤ 5; omega), (show out ≤ 999999 by omega)⟩
        let σ8 : L2.St := [some (.ref a), some (.ref b), some (.int (0 + (i : Int))), some (.ref pw), some (.ref lg), w5, w6, some vc, v8, v9, v10]
        have lI8 := lI.go g8
        have wI8 := wI7.go g8
        have all1 := e_allL (K := K) (bs := ((rows.map rowS).take 3).map fun _ => true) (by
          rw [List.map_map]
          exact e_lcL (K := K) (b := b) (σ := σ8) (v := 10) (ss := (rows.map rowS).take 3) (fun _ => .bl true) (e_cutTo (K := K) (n := 3) (e_var (i := 4) rfl lI8)) (by rw [List.length_take, List.length_map]; omega) fun i s hs H' x g ix => by
            obtain ⟨z, mz, rfl⟩ := List.mem_map.mp (List.mem_of_mem_take (List.mem_of_getElem? hs))
            exact e_call (s := .c (.bl true)) (sp := spSSo) (E := E0) (ss := [.c (.ref b), rowS z]) (n_cons (e_var (i := 1) rfl rfl) (n_cons (e_var (i := 10) rfl ix) n_nil)) fun vs H g i Q q => by
              obtain ⟨v, u, rfl, rfl, i2⟩ := is2 i
              exact ⟨b, u, z, rfl, g.1, i2, hR z mz, fun H' g' => q _ H' g' rfl⟩)
        have eall : (((rows.map rowS).take 3).map fun _ => true).all id = true := by
          rw [List.all_map]
          exact List.all_eq_true.mpr fun _ _ => rfl
        rw [eall] at all1
        refine all1 H8 (.refl g8.1) _ fun va H9 g9 ia => ⟨true, ia, iteF ?_⟩
        have hT9 : Tabs H9 P1 P2 P3 := by
          have gg : Go b H3 H9 := (((g4.trans g7).trans g8).trans g9)
          exact ⟨hT3.1.go hB3 gg, hT3.2.1.go hB3 gg, hT3.2.2.go hB3 gg⟩
        have ic9 := icc.go g9
        have lI9 := lI8.go g9
        have wI9 := wI8.go g9
        refine ⟨.ref b, rfl, vc, rfl, b, vc, zc, rfl, g9.1, ic9, oc, hT9.2.1, fun HA hBA tA kA oA => ⟨true, rfl, iteF ?_⟩⟩
        have t1A := TabF.keepO g9.1 hT9.1 nP.1 kA oA
        have t3A := TabF.keepO g9.1 hT9.2.2 nP.2.2.symm kA oA
        have lIA := lI9.keepT kA
        have wIA := wI9.keepT kA
        refine ⟨.ref b, rfl, ?_⟩
        refine e_ixT (K := K) (b := b) (σ := σ8) (j := 0) (s := .c (.str z0.r)) (e_ixL (K := K) (j := 0) (e_var (i := 4) rfl lIA) e_c h0) e_c rfl HA (.refl hBA) _ fun vr HB gB ir => ?_
        rw [show vr = _ from ir]
        refine ⟨b, z0.r, rfl, gB.1, t1A.go hBA gB, fun HC hBC tC' kC oC => ⟨true, rfl, iteF ?_⟩⟩
        have t2C := TabF.keepO gB.1 (tA.go hBA gB) nP.1.symm kC oC
        have t3C := TabF.keepO gB.1 (t3A.go hBA gB) nP.2.1.symm kC oC
        have lIC := (lIA.go gB).keepT kC
        have wIC := (wIA.go gB).keepT kC
        refine ⟨.ref b, rfl, ?_⟩
        refine e_ixL (K := K) (b := b) (σ := σ8) (j := 1) (s := .c (.str (f 1))) (e_var (i := 3) rfl wIC) e_c rfl HC (.refl hBC) _ fun vw HD gD iw => ?_
        rw [show vw = _ from iw]
        refine e_ixL (K := K) (b := b) (σ := σ8) (j := 0) (s := rowS z0) (e_var (i := 4) rfl (lIC.go gD)) e_c h0 HD (.refl gD.1) _ fun vy HE gE iy => ?_
        have gCE := gD.trans gE
        refine ⟨b, f 1, vy, z0, rfl, gE.1, (hnm 1 (by omega)).1, iy, (hR z0 m0).1, t3C.go hBC gCE, fun HF hBF tF kF oF => ⟨true, rfl, iteF ?_⟩⟩
        have t1F := TabF.keepO gE.1 (tC'.go hBC gCE) nP.2.1 kF oF
        have t2F := TabF.keepO gE.1 (t2C.go hBC gCE) nP.2.2 kF oF
        exact ⟨hBF, ⟨t1F, t2F, tF⟩, _, _, _, _, _, _, _, _, _, rfl⟩
    · rintro σ H3 ⟨hB3, hT3, v2, v3, v4, v5, v6, v7, v8, v9, v10, rfl⟩
      dsimp only
      let M : Int := 10 ^ (6 : Int).toNat
      let z3 : Row := ⟨"a.b.1", [M], M, .int M⟩
      have hz : z3.ok = true := by decide +kernel
      obtain ⟨r1, r2, r3, r4⟩ := Row.parts hz
      let c3 : Car := ⟨"far", 60, [z3], M⟩
      have hc : c3.ok = true := by decide +kernel
      have p6 : CPow 10 6 := ⟨by decide, by decide, by decide⟩
      refine q_raw (i := 8) ?_
      let σ3 : L2.St := [some (.ref a), some (.ref b), v2, v3, v4, v5, v6, v7, v8, v9, v10]
      have mkA : ∀ (Kq : VK), (∀ a d l H', Same H3 H' → H3 a = none → H3 l = none → H' a = some (.ins T.aStep d (stepF (.str "a.b.1") (.int M) (.int M) (.ref l))) → H' l = some (.lst ([M].map V.int)) → Kq (.ref a) H') →
          tMakeK T.aStep 2 2 (spSI T) (fun vs zs => vs ++ zs) E0 (tCons (tC (.str "a.b.1")) (tCons (tLst (tCons (tOp (rI CPow fun i j => .int (i ^ j.toNat)) (tC (.int 10)) (tC (.int 6))) tNil)) tNil)) (tCons (tOp (rI CPow fun i j => .int (i ^ j.toNat)) (tC (.int 10)) (tC (.int 6))) (tCons (tOp (rI CPow fun i j => .int (i ^ j.toNat)) (tC (.int 10)) (tC (.int 6))) tNil)) σ3 H3 Kq := by
        intro Kq hK
        refine ⟨10, 6, rfl, rfl, p6, Nat.le_of_ble_eq_true rfl, fun p np => ⟨10, 6, rfl, rfl, p6, 10, 6, rfl, rfl, p6, rfl, rfl, ?_⟩⟩
        have ht : TimesV K (upd H3 p (.lst [.int M])) (.ref p) true ([M].map V.int) := r1 ▸ .lst upd_same (Nat.le_of_ble_eq_true rfl) (fun x m => by obtain ⟨i, _, rfl⟩ := List.mem_map.mp m; exact ⟨_, .sc rfl⟩)
        exact mk_step (T := T) (r := "a.b.1") (st := M) (pu := .int M) ht r2 r3 r4 fun a d l H' s' na nl ea el => hK a d l H' ((same_new np).trans s') (none_of (same_new np) na) (none_of (same_new np) nl) ea el
      dsimp only [tMakeSK, tCons, tC]
      refine mkA _ fun sa sd sl H4 s4 nsa nsl esa esl => ?_
      refine ⟨10, 6, rfl, rfl, p6, [.str "far", .int 60], [.ref sa], .int M, rfl, rfl, rfl, Nat.le_of_lt (small1000 (Nat.le_of_ble_eq_true rfl)), mk_train (len := 60) (out := M) (by decide +kernel) (by decide) (by decide) (fun x m => by rw [List.mem_singleton.mp m]; exact ⟨sa, sd, _, rfl, esa⟩) (by show 1 ≤ 1; decide) (by show 1 ≤ 6; decide) fun ta td tl H5 s5 nta ntl eta etl => ?_⟩
      have hB4 := hB3.same s4
      have hB5 := hB4.same s5
      have i5 : Is b H5 (trainS T c3) (.ref ta) := train_is (z := c3) (hB4.ne nta) (hB4.ne ntl) eta etl ⟨.ref sa, [], rfl, step_is (z := z3) (hB3.ne nsa) (hB3.ne nsl) (s5 _ _ esa) (s5 _ _ esl), rfl⟩
      let σ5 : L2.St := [some (.ref a), some (.ref b), v2, v3, v4, v5, v6, v7, some (.ref ta), v9, v10]
      have far : Ev1 b (tVar 8) σ5 H5 (trainS T c3) := e_var rfl i5
      have st : Ev1 b (tOp (rIxF T.sT (spTGet T) E0) (tVar 8) (tC (.int 0))) σ5 H5 (stepS T z3) := e_getT (j := 0) (c := c3) hc rfl far e_c
      refine q_set (b := b) (σ := σ5) (s := .l [.c (.int M), .c (.int 60), .c (.int M), .c (.int M), .c (.int M)]) hB5 (e_lst (n_cons (e_tout far) (n_cons (e_tlength far) (n_cons (e_arrival hz st) (n_cons (e_stop st) (n_cons (e_base hz st) n_nil))))) (Nat.le_of_ble_eq_true rfl)) fun y9 H6 g6 i6 => ?_
      let σ6 : L2.St := [some (.ref a), some (.ref b), v2, v3, v4, v5, v6, v7, some (.ref ta), some y9, v10]
      have pw : Ev1 b (tOp (rI CPow fun i j => .int (i ^ j.toNat)) (tC (.int 10)) (tC (.int 6))) σ6 H6 (.c (.int M)) := e_pow e_c e_c p6
      have big := e_and (e_same (K := K) (n := 6) (s := .l [.c (.int M), .c (.int 60), .c (.int M), .c (.int M), .c (.int M)]) (n_cons (e_var (σ := σ6) (i := 9) rfl i6) (n_cons (e_lst (n_cons pw (n_cons e_c (n_cons pw (n_cons pw (n_cons pw n_nil))))) (Nat.le_of_ble_eq_true rfl)) n_nil)) rfl)
        (fun _ => e_eqD (K := K) (s1 := .l [.c (.int 6), .c (.int 60)]) (s2 := .l [.c (.int 6), .c (.int 60)]) (k1 := 1) (k2 := 1) (da := .list [.int 6, .int 60]) (db := .list [.int 6, .int 60]) (e_lst (n_cons (e_cvSteps (T := T)) (n_cons (e_cvLength (T := T)) n_nil)) (Nat.le_of_ble_eq_true rfl)) (e_lst (n_cons e_c (n_cons e_c n_nil)) (Nat.le_of_ble_eq_true rfl)) rfl rfl (by rw [datOf_l]; simp [datOf]) (by rw [datOf_l]; simp [datOf]) (by decide +kernel) (by decide +kernel))
      have eB : (true && PyData.eqv (.list [.int 6, .int 60]) (.list [.int 6, .int 60])) = true := by decide +kernel
      rw [eB] at big
      refine q_ret (b := b) (σ := σ6) (s := .c (.bl true)) g6.1 big fun y H7 g7 i7 => ?_
      rw [show y = _ from i7]
      exact q H7
end
end Rd
set_option maxHeartbeats 0
namespace Rd
open PySem PySem.Spec PyProof.Rows L2
theorem excB_ok {K : PySem.W.Frag} {D : Addr} (h : excB K D = true) : ExcC K D := by
  obtain ⟨h1, h⟩ := Bool.and_eq_true_iff.mp h
  obtain ⟨h2, h⟩ := Bool.and_eq_true_iff.mp h
  obtain ⟨h3, h⟩ := Bool.and_eq_true_iff.mp h
  obtain ⟨h4, h⟩ := Bool.and_eq_true_iff.mp h
  obtain ⟨h5, h⟩ := Bool.and_eq_true_iff.mp h
  obtain ⟨h6, h⟩ := Bool.and_eq_true_iff.mp h
  obtain ⟨h7, h8⟩ := Bool.and_eq_true_iff.mp h
  exact ⟨of_decide_eq_true h1, of_decide_eq_true h2, of_decide_eq_true h3, h4, of_decide_eq_true h5, of_decide_eq_true h6, of_decide_eq_true h7, of_decide_eq_true h8⟩
def mkDX {K : PySem.W.Frag} {mg : Str → Option Value} {x qual : Str} {st : Stmt} {ps nm : List Str} {B newId initId : String} {bmB : List Value} {C f : Addr} {fd : FuncData}
    (FB : ExcBaseFacts B newId initId bmB) (S : StoreFacts B bmB "object.__setattr__" "object") (g : mg x = some (.ref C)) (i : PySem.W.findIn K (.ref C) "__init__" = some (some (.ref f))) (F : L2.Fun K "__init__" qual st f fd) (b : Binds K fd ps [])
    (hx : xB K C f bmB newId nm = true) : DX K mg x qual st ps nm B newId initId bmB :=
  have h1 := (Bool.and_eq_true_iff.mp hx).1
  have r1 := (Bool.and_eq_true_iff.mp hx).2
  have h2 := (Bool.and_eq_true_iff.mp r1).1
  have r2 := (Bool.and_eq_true_iff.mp r1).2
  have h3 := (Bool.and_eq_true_iff.mp r2).1
  have r3 := (Bool.and_eq_true_iff.mp r2).2
  have h4 := (Bool.and_eq_true_iff.mp r3).1
  have r4 := (Bool.and_eq_true_iff.mp r3).2
  have h5 := (Bool.and_eq_true_iff.mp r4).1
  have r5 := (Bool.and_eq_true_iff.mp r4).2
  have h6 := (Bool.and_eq_true_iff.mp r5).1
  have r6 := (Bool.and_eq_true_iff.mp r5).2
  have h7 := (Bool.and_eq_true_iff.mp r6).1
  have r7 := (Bool.and_eq_true_iff.mp r6).2
  have h8 := (Bool.and_eq_true_iff.mp r7).1
  have r8 := (Bool.and_eq_true_iff.mp r7).2
  have h9 := (Bool.and_eq_true_iff.mp r8).1
  have h10 := (Bool.and_eq_true_iff.mp r8).2
  { C := C, f := f, fd := _, g := g, T := ⟨FB, S, h1, h2, h3, of_decide_eq_true h4, h5⟩, iC := i, tI := of_decide_eq_true h8, F := F, b := b,
    xf := ⟨xfB_ok h6, excB_ok h7⟩, no := fun n hn => of_decide_eq_true (List.all_eq_true.mp h9 n (List.elem_iff.mp hn)), ty := of_decide_eq_true h10 }
theorem fun_of {K : PySem.W.Frag} {x qual : Str} {st : Stmt} {f : Addr} {fd : FuncData} (F : FunD K x qual (defArgs st) (defBody st) (defScope st) [] [] f fd) : L2.Fun K x qual st f fd := by
  obtain ⟨oc, od, dV, kV, doc, pm, an, cdv, ct, osl, e, lk, hcd, hd, hk⟩ := F.ex
  rcases hd with ⟨_, rfl⟩ | ⟨n, _⟩
  · exact ⟨⟨oc, od, kV, doc, pm, an, cdv, ct, osl, e, lk, hcd⟩, F.kp⟩
  · exact absurd rfl n
theorem code_of {K : PySem.W.Frag} {x qual : Str} {st : Stmt} {fd : FuncData} {p : Str × Option Str} (F : L2.Fun K x qual st (He.fAd K p) fd) : fd.code = .ref (He.codeOf K p) := by
  obtain ⟨oc, od, kV, doc, pm, an, cdv, ct, osl, e, lk, hcd⟩ := F.ex
  obtain ⟨c, hc⟩ := He.codeIn_ref hcd
  have e2 : fd.code = .ref c := by rw [e]; exact hc
  rw [He.codeOf_eq lk e2]
  exact e2
theorem mkCl {K : PySem.W.Frag} {x : Str} {fs : List Str} (h : clsB K x = true) (hc : Cls K (He.ga K x)) (mk : Mk K (He.ga K x) (He.ma K (He.ga K x) "__init__")) (no : ∀ f, f ∈ fs → NoAttr K (He.ga K x) f) : ClsD K (He.ga K x) (He.ma K (He.ga K x) "__init__") fs := by
  unfold clsB at h
  obtain ⟨h1, h⟩ := He.ba h
  obtain ⟨h2, h⟩ := He.ba h
  obtain ⟨h3, h⟩ := He.ba h
  obtain ⟨h4, h⟩ := He.ba h
  obtain ⟨h5, h⟩ := He.ba h
  obtain ⟨h6, h7⟩ := He.ba h
  exact ⟨hc, mk, fun f hf => no f (List.elem_iff.mp hf), He.eqO_ok h1, of_decide_eq_true h2, fun t ht => List.all_eq_true.mp h3 t (List.elem_iff.mp ht), h4, of_decide_eq_true h5, fun t ht => of_decide_eq_true (List.all_eq_true.mp h6 t (List.elem_iff.mp ht)), He.eqO_ok h7⟩
theorem four4 {p : Str → Prop} {a b c d : Str} (h1 : p a) (h2 : p b) (h3 : p c) (h4 : p d) : ∀ f, f ∈ [a, b, c, d] → p f := fun f m => by
  simp only [List.mem_cons, List.not_mem_nil, or_false] at m
  rcases m with h | h | h | h <;> rw [h] <;> assumption
theorem factsB {w : World} {K : PySem.W.Frag} {h : Heap} {mg : Str → Option Value} {fa : Addr} (X : K.In h) (G : h.Ns mainGlobals mg) (hfa : mg ("law" : Str) = some (.ref fa)) (c : He.SaysX faL fnL tsL tfL exB w h K) (sv : seenL K = seenV) :
    LamX.LawAtS PySem.Challenge.rw_ringlessday_k10_steps_and_trains w K CX0 13 63 "_law_script" mg fa h := by
  obtain ⟨e1, e23⟩ := He.ba c.more
  obtain ⟨e2, e3⟩ := He.ba e23
  obtain ⟨eX, eO⟩ := He.ba e1
  obtain ⟨eCl, eT⟩ := He.ba e2
  obtain ⟨t1, eT⟩ := He.ba eT
  obtain ⟨t2, eT⟩ := He.ba eT
  obtain ⟨t3, t4⟩ := He.ba eT
  obtain ⟨eP, eA⟩ := He.ba e3
  obtain ⟨p0, p1⟩ := He.ba eP
  obtain ⟨a0, eA⟩ := He.ba eA
  obtain ⟨a1, a2⟩ := He.ba eA
  obtain ⟨o1, eO⟩ := He.ba eO
  obtain ⟨o2, eO⟩ := He.ba eO
  obtain ⟨o3, o4⟩ := He.ba eO
  have v0 := (List.cons.inj sv).1
  have v1 := (List.cons.inj (List.cons.inj sv).2).1
  have D : He.SaysD faL fnL K := c.t.d
  obtain ⟨tL, hL⟩ := He.str_ok X G (D.fact 34 (f := .str "LETTERS" "abcdefghijklmnopqrstuvwxyz") rfl)
  obtain ⟨tM, hM⟩ := He.int_ok X G (D.fact 35 (f := .int "MOST_LETTERS" 6) rfl)
  obtain ⟨tT, hT⟩ := He.int_ok X G (D.fact 36 (f := .int "MOST_TIME" 1000000) rfl)
  obtain ⟨tS, hS0⟩ := He.int_ok X G (D.fact 37 (f := .int "MOST_TIMES" 24) rfl)
  obtain ⟨fd0, F0'⟩ := D.def_ 0 (d := dd0) rfl
  have F0 : L2.Fun K "is_name" "is_name" s_is_name (He.fAd K ("is_name", none)) fd0 := fun_of F0'
  obtain ⟨fd1, F1'⟩ := D.def_ 1 (d := dd1) rfl
  have F1 : L2.Fun K "is_integer" "is_integer" s_is_integer (He.fAd K ("is_integer", none)) fd1 := fun_of F1'
  obtain ⟨fd2, F2'⟩ := D.def_ 2 (d := dd2) rfl
  have F2 : L2.Fun K "is_number" "is_number" s_is_number (He.fAd K ("is_number", none)) fd2 := fun_of F2'
  obtain ⟨fd3, F3'⟩ := D.def_ 3 (d := dd3) rfl
  have F3 : L2.Fun K "are_times" "are_times" s_are_times (He.fAd K ("are_times", none)) fd3 := fun_of F3'
  obtain ⟨fd4, F4'⟩ := D.def_ 4 (d := dd4) rfl
  have F4 : L2.Fun K "refuse_steps" "refuse_steps" s_refuse_steps (He.fAd K ("refuse_steps", none)) fd4 := fun_of F4'
  obtain ⟨fd5, F5'⟩ := D.def_ 5 (d := dd5) rfl
  have F5 : L2.Fun K "_law_bag" "_law_bag" s_law_bag (He.fAd K ("_law_bag", none)) fd5 := fun_of F5'
  obtain ⟨fd6, F6'⟩ := D.def_ 6 (d := dd6) rfl
  have F6 : L2.Fun K "_law_draw" "_law_draw" s_law_draw (He.fAd K ("_law_draw", none)) fd6 := fun_of F6'
  obtain ⟨fd7, F7'⟩ := D.def_ 7 (d := dd7) rfl
  have F7 : L2.Fun K "_law_of" "_law_of" s_law_of (He.fAd K ("_law_of", none)) fd7 := fun_of F7'
  obtain ⟨fd8, F8'⟩ := D.def_ 8 (d := dd8) rfl
  have F8 : L2.Fun K "_law_same" "_law_same" s_law_same (He.fAd K ("_law_same", none)) fd8 := fun_of F8'
  obtain ⟨fd9, F9'⟩ := D.def_ 9 (d := dd9) rfl
  have F9 : L2.Fun K "_law_fields" "_law_fields" s_law_fields (He.fAd K ("_law_fields", none)) fd9 := fun_of F9'
  obtain ⟨fd10, F10'⟩ := D.def_ 10 (d := dd10) rfl
  have F10 : L2.Fun K "_law_try" "_law_try" s_law_try (He.fAd K ("_law_try", none)) fd10 := fun_of F10'
  obtain ⟨fd11, F11'⟩ := D.def_ 11 (d := dd11) rfl
  have F11 : L2.Fun K "_law_tries" "_law_tries" s_law_tries (He.fAd K ("_law_tries", none)) fd11 := fun_of F11'
  obtain ⟨fd12, F12'⟩ := D.def_ 12 (d := dd12) rfl
  have F12 : L2.Fun K "_law_words" "_law_words" s_law_words (He.fAd K ("_law_words", none)) fd12 := fun_of F12'
  obtain ⟨fd13, F13'⟩ := D.def_ 13 (d := dd13) rfl
  have F13 : L2.Fun K "_law_odd" "_law_odd" s_law_odd (He.fAd K ("_law_odd", none)) fd13 := fun_of F13'
  obtain ⟨fd14, F14'⟩ := D.def_ 14 (d := dd14) rfl
  have F14 : L2.Fun K "_law_rising" "_law_rising" s_law_rising (He.fAd K ("_law_rising", none)) fd14 := fun_of F14'
  obtain ⟨fd15, F15'⟩ := D.def_ 15 (d := dd15) rfl
  have F15 : L2.Fun K "_law_step" "_law_step" s_law_step (He.fAd K ("_law_step", none)) fd15 := fun_of F15'
  obtain ⟨fd16, F16'⟩ := D.def_ 16 (d := dd16) rfl
  have F16 : L2.Fun K "_law_train" "_law_train" s_law_train (He.fAd K ("_law_train", none)) fd16 := fun_of F16'
  obtain ⟨fd17, F17'⟩ := D.def_ 17 (d := dd17) rfl
  have F17 : L2.Fun K "_law_bad_number" "_law_bad_number" s_law_bad_number (He.fAd K ("_law_bad_number", none)) fd17 := fun_of F17'
  obtain ⟨fd18, F18'⟩ := D.def_ 18 (d := dd18) rfl
  have F18 : L2.Fun K "_law_steps_so" "_law_steps_so" s_law_steps_so (He.fAd K ("_law_steps_so", none)) fd18 := fun_of F18'
  obtain ⟨fd19, F19'⟩ := D.def_ 19 (d := dd19) rfl
  have F19 : L2.Fun K "_law_trains_so" "_law_trains_so" s_law_trains_so (He.fAd K ("_law_trains_so", none)) fd19 := fun_of F19'
  obtain ⟨fd20, F20'⟩ := D.def_ 20 (d := dd20) rfl
  have F20 : L2.Fun K "_law_steps_refused_so" "_law_steps_refused_so" s_law_steps_refused_so (He.fAd K ("_law_steps_refused_so", none)) fd20 := fun_of F20'
  obtain ⟨fd21, F21'⟩ := D.def_ 21 (d := dd21) rfl
  have F21 : L2.Fun K "_law_trains_refused_so" "_law_trains_refused_so" s_law_trains_refused_so (He.fAd K ("_law_trains_refused_so", none)) fd21 := fun_of F21'
  obtain ⟨fd22, F22'⟩ := D.def_ 22 (d := dd22) rfl
  have F22 : L2.Fun K "law" "law" s_law (He.fAd K ("law", none)) fd22 := fun_of F22'
  obtain ⟨fd23, F23'⟩ := D.def_ 23 (d := dd23) rfl
  have F23 : L2.Fun K "__init__" "InvalidName.__init__" (inS 2 0) (He.fAd K ("InvalidName", some "__init__")) fd23 := fun_of F23'
  have r23 := He.ba (List.all_eq_true.mp eX _ (List.mem_of_getElem? (i := 0) rfl))
  obtain ⟨fd24, F24'⟩ := D.def_ 24 (d := dd24) rfl
  have F24 : L2.Fun K "__init__" "InvalidNumber.__init__" (inS 3 0) (He.fAd K ("InvalidNumber", some "__init__")) fd24 := fun_of F24'
  have r24 := He.ba (List.all_eq_true.mp eX _ (List.mem_of_getElem? (i := 1) rfl))
  obtain ⟨fd25, F25'⟩ := D.def_ 25 (d := dd25) rfl
  have F25 : L2.Fun K "__init__" "InvalidTimes.__init__" (inS 4 0) (He.fAd K ("InvalidTimes", some "__init__")) fd25 := fun_of F25'
  have r25 := He.ba (List.all_eq_true.mp eX _ (List.mem_of_getElem? (i := 2) rfl))
  obtain ⟨fd26, F26'⟩ := D.def_ 26 (d := dd26) rfl
  have F26 : L2.Fun K "__init__" "InvalidStep.__init__" (inS 5 0) (He.fAd K ("InvalidStep", some "__init__")) fd26 := fun_of F26'
  have r26 := He.ba (List.all_eq_true.mp eX _ (List.mem_of_getElem? (i := 3) rfl))
  obtain ⟨fd27, F27'⟩ := D.def_ 27 (d := dd27) rfl
  have F27 : L2.Fun K "__init__" "TooMany.__init__" (inS 6 0) (He.fAd K ("TooMany", some "__init__")) fd27 := fun_of F27'
  have r27 := He.ba (List.all_eq_true.mp eX _ (List.mem_of_getElem? (i := 4) rfl))
  obtain ⟨fd28, F28'⟩ := D.def_ 28 (d := dd28) rfl
  have F28 : L2.Fun K "__init__" "UnknownEntry.__init__" (inS 8 0) (He.fAd K ("UnknownEntry", some "__init__")) fd28 := fun_of F28'
  have r28 := He.ba (List.all_eq_true.mp eX _ (List.mem_of_getElem? (i := 5) rfl))
  obtain ⟨fd29, F29'⟩ := D.def_ 29 (d := dd29) rfl
  obtain ⟨fd30, F30'⟩ := D.def_ 30 (d := dd30) rfl
  obtain ⟨fd31, F31'⟩ := D.def_ 31 (d := dd31) rfl
  have F31 : L2.Fun K "times" "Step.times" (inS 19 1) (He.fAd K ("Step", some "times")) fd31 := fun_of F31'
  obtain ⟨fd32, F32'⟩ := D.def_ 32 (d := dd32) rfl
  have F32 : L2.Fun K "__eq__" "Step.__eq__" (inS 19 4) (He.fAd K ("Step", some "__eq__")) fd32 := fun_of F32'
  obtain ⟨fd33, F33'⟩ := D.def_ 33 (d := dd33) rfl
  have F33 : L2.Fun K "__repr__" "Step.__repr__" (inS 19 5) (He.fAd K ("Step", some "__repr__")) fd33 := fun_of F33'
  obtain ⟨fd34, F34'⟩ := D.def_ 34 (d := dd34) rfl
  have F34 : L2.Fun K "steps" "Train.steps" (inS 20 3) (He.fAd K ("Train", some "steps")) fd34 := fun_of F34'
  obtain ⟨fd35, F35'⟩ := D.def_ 35 (d := dd35) rfl
  have F35 : L2.Fun K "longer" "Train.longer" (inS 20 4) (He.fAd K ("Train", some "longer")) fd35 := fun_of F35'
  obtain ⟨fd36, F36'⟩ := D.def_ 36 (d := dd36) rfl
  have F36 : L2.Fun K "__getitem__" "Train.__getitem__" (inS 20 5) (He.fAd K ("Train", some "__getitem__")) fd36 := fun_of F36'
  obtain ⟨fd37, F37'⟩ := D.def_ 37 (d := dd37) rfl
  have F37 : L2.Fun K "__len__" "Train.__len__" (inS 20 7) (He.fAd K ("Train", some "__len__")) fd37 := fun_of F37'
  obtain ⟨fd38, F38'⟩ := D.def_ 38 (d := dd38) rfl
  have F38 : L2.Fun K "__bool__" "Train.__bool__" (inS 20 8) (He.fAd K ("Train", some "__bool__")) fd38 := fun_of F38'
  obtain ⟨fd39, F39'⟩ := D.def_ 39 (d := dd39) rfl
  have F39 : L2.Fun K "__eq__" "Train.__eq__" (inS 20 9) (He.fAd K ("Train", some "__eq__")) fd39 := fun_of F39'
  obtain ⟨fd40, F40'⟩ := D.def_ 40 (d := dd40) rfl
  have F40 : L2.Fun K "__repr__" "Train.__repr__" (inS 20 10) (He.fAd K ("Train", some "__repr__")) fd40 := fun_of F40'
  obtain ⟨fg0, G0'⟩ := getter_of (name := "arrival") (params := defArgs (inS 19 2)) (body := defBody (inS 19 2)) (scope := defScope (inS 19 2)) p0 v0
  have G0 : L2.Fun K "arrival" "Step.arrival" (inS 19 2) (gAd K "Step" "arrival") fg0 := fun_of G0'
  obtain ⟨fg1, G1'⟩ := getter_of (name := "base") (params := defArgs (inS 19 3)) (body := defBody (inS 19 3)) (scope := defScope (inS 19 3)) p1 v1
  have G1 : L2.Fun K "base" "Step.base" (inS 19 3) (gAd K "Step" "base") fg1 := fun_of G1'
  have e := hfa.symm.trans (He.glo_ok X G (D.fact 22 (f := .glo "law") rfl))
  cases e
  let T : Txt K mg := {
    d_is_name := ⟨_, fd0, F0, He.glo_ok X G (D.fact 0 (f := .glo "is_name") rfl), F0.binds fun _ _ _ _ _ _ us hl => match us, hl with | [_], _ => rfl⟩,
    d_is_integer := ⟨_, fd1, F1, He.glo_ok X G (D.fact 1 (f := .glo "is_integer") rfl), F1.binds fun _ _ _ _ _ _ us hl => match us, hl with | [_], _ => rfl⟩,
    d_is_number := ⟨_, fd2, F2, He.glo_ok X G (D.fact 2 (f := .glo "is_number") rfl), F2.binds fun _ _ _ _ _ _ us hl => match us, hl with | [_, _, _], _ => rfl⟩,
    d_are_times := ⟨_, fd3, F3, He.glo_ok X G (D.fact 3 (f := .glo "are_times") rfl), F3.binds fun _ _ _ _ _ _ us hl => match us, hl with | [_], _ => rfl⟩,
    d_refuse_steps := ⟨_, fd4, F4, He.glo_ok X G (D.fact 4 (f := .glo "refuse_steps") rfl), F4.binds fun _ _ _ _ _ _ us hl => match us, hl with | [_], _ => rfl⟩,
    d__law_bag := ⟨_, fd5, F5, He.glo_ok X G (D.fact 5 (f := .glo "_law_bag") rfl), F5.binds fun _ _ _ _ _ _ us hl => match us, hl with | [_], _ => rfl⟩,
    d__law_draw := ⟨_, fd6, F6, He.glo_ok X G (D.fact 6 (f := .glo "_law_draw") rfl), F6.binds fun _ _ _ _ _ _ us hl => match us, hl with | [_, _], _ => rfl⟩,
    d__law_of := ⟨_, fd7, F7, He.glo_ok X G (D.fact 7 (f := .glo "_law_of") rfl), F7.binds fun _ _ _ _ _ _ us hl => match us, hl with | [_, _], _ => rfl⟩,
    d__law_same := ⟨_, fd8, F8, He.glo_ok X G (D.fact 8 (f := .glo "_law_same") rfl), F8.binds fun _ _ _ _ _ _ us hl => match us, hl with | [_, _], _ => rfl⟩,
    d__law_fields := ⟨_, fd9, F9, He.glo_ok X G (D.fact 9 (f := .glo "_law_fields") rfl), F9.binds fun _ _ _ _ _ _ us hl => match us, hl with | [_], _ => rfl⟩,
    d__law_try := ⟨_, fd10, F10, He.glo_ok X G (D.fact 10 (f := .glo "_law_try") rfl), F10.binds fun _ _ _ _ _ _ us hl => match us, hl with | [_], _ => rfl⟩,
    d__law_tries := ⟨_, fd11, F11, He.glo_ok X G (D.fact 11 (f := .glo "_law_tries") rfl), F11.binds fun _ _ _ _ _ _ us hl => match us, hl with | [_], _ => rfl⟩,
    d__law_words := ⟨_, fd12, F12, He.glo_ok X G (D.fact 12 (f := .glo "_law_words") rfl), F12.binds fun _ _ _ _ _ _ us hl => match us, hl with | [_, _], _ => rfl⟩,
    d__law_odd := ⟨_, fd13, F13, He.glo_ok X G (D.fact 13 (f := .glo "_law_odd") rfl), F13.binds fun _ _ _ _ _ _ us hl => match us, hl with | [_], _ => rfl⟩,
    d__law_rising := ⟨_, fd14, F14, He.glo_ok X G (D.fact 14 (f := .glo "_law_rising") rfl), F14.binds fun _ _ _ _ _ _ us hl => match us, hl with | [_, _], _ => rfl⟩,
    d__law_step := ⟨_, fd15, F15, He.glo_ok X G (D.fact 15 (f := .glo "_law_step") rfl), F15.binds fun _ _ _ _ _ _ us hl => match us, hl with | [_], _ => rfl⟩,
    d__law_train := ⟨_, fd16, F16, He.glo_ok X G (D.fact 16 (f := .glo "_law_train") rfl), F16.binds fun _ _ _ _ _ _ us hl => match us, hl with | [_], _ => rfl⟩,
    d__law_bad_number := ⟨_, fd17, F17, He.glo_ok X G (D.fact 17 (f := .glo "_law_bad_number") rfl), F17.binds fun _ _ _ _ _ _ us hl => match us, hl with | [_], _ => rfl⟩,
    d__law_steps_so := ⟨_, fd18, F18, He.glo_ok X G (D.fact 18 (f := .glo "_law_steps_so") rfl), F18.binds fun _ _ _ _ _ _ us hl => match us, hl with | [_, _], _ => rfl⟩,
    d__law_trains_so := ⟨_, fd19, F19, He.glo_ok X G (D.fact 19 (f := .glo "_law_trains_so") rfl), F19.binds fun _ _ _ _ _ _ us hl => match us, hl with | [_, _], _ => rfl⟩,
    d__law_steps_refused_so := ⟨_, fd20, F20, He.glo_ok X G (D.fact 20 (f := .glo "_law_steps_refused_so") rfl), F20.binds fun _ _ _ _ _ _ us hl => match us, hl with | [_, _], _ => rfl⟩,
    d__law_trains_refused_so := ⟨_, fd21, F21, He.glo_ok X G (D.fact 21 (f := .glo "_law_trains_refused_so") rfl), F21.binds fun _ _ _ _ _ _ us hl => match us, hl with | [_, _, _], _ => rfl⟩,
    d_law := ⟨_, fd22, F22, He.glo_ok X G (D.fact 22 (f := .glo "law") rfl), F22.binds fun _ _ _ _ _ _ us hl => match us, hl with | [_], _ => rfl⟩,
    x_InvalidName := mkDX (nm := ["value", "code"]) PySem.F.excBase_ValueError PySem.F.store_ValueError (He.glo_ok X G (D.fact 23 (f := .glo "InvalidName") rfl)) (He.eqO_ok r23.1) F23 (F23.binds fun _ _ _ _ _ _ us hl => match us, hl with | [_, _], _ => rfl) r23.2,
    x_InvalidNumber := mkDX (nm := ["value", "code"]) PySem.F.excBase_ValueError PySem.F.store_ValueError (He.glo_ok X G (D.fact 24 (f := .glo "InvalidNumber") rfl)) (He.eqO_ok r24.1) F24 (F24.binds fun _ _ _ _ _ _ us hl => match us, hl with | [_, _], _ => rfl) r24.2,
    x_InvalidTimes := mkDX (nm := ["value", "code"]) PySem.F.excBase_ValueError PySem.F.store_ValueError (He.glo_ok X G (D.fact 25 (f := .glo "InvalidTimes") rfl)) (He.eqO_ok r25.1) F25 (F25.binds fun _ _ _ _ _ _ us hl => match us, hl with | [_, _], _ => rfl) r25.2,
    x_InvalidStep := mkDX (nm := ["value", "code"]) PySem.F.excBase_ValueError PySem.F.store_ValueError (He.glo_ok X G (D.fact 26 (f := .glo "InvalidStep") rfl)) (He.eqO_ok r26.1) F26 (F26.binds fun _ _ _ _ _ _ us hl => match us, hl with | [_, _], _ => rfl) r26.2,
    x_TooMany := mkDX (nm := ["subject", "most", "code"]) PySem.F.excBase_ValueError PySem.F.store_ValueError (He.glo_ok X G (D.fact 27 (f := .glo "TooMany") rfl)) (He.eqO_ok r27.1) F27 (F27.binds fun _ _ _ _ _ _ us hl => match us, hl with | [_, _, _], _ => rfl) r27.2,
    x_UnknownEntry := mkDX (nm := ["entry", "code"]) PySem.F.excBase_LookupError PySem.F.store_LookupError (He.glo_ok X G (D.fact 28 (f := .glo "UnknownEntry") rfl)) (He.eqO_ok r28.1) F28 (F28.binds fun _ _ _ _ _ _ us hl => match us, hl with | [_, _], _ => rfl) r28.2,
    ms_init := ⟨_, fd29, F29'⟩,
    mt_init := ⟨_, fd30, F30'⟩,
    ms_times := ⟨⟨_, fd31, F31, F31.binds fun _ _ _ _ _ _ us hl => match us, hl with | [_], _ => rfl⟩, fun D0 h0 => by rw [h0]; exact He.meth_ok (D.fact 50 (f := .meth "Step" "times") rfl)⟩,
    ms_eq := ⟨⟨_, fd32, F32, F32.binds fun _ _ _ _ _ _ us hl => match us, hl with | [_, _], _ => rfl⟩, fun D0 h0 => by rw [h0]; exact He.meth_ok (D.fact 51 (f := .meth "Step" "__eq__") rfl)⟩,
    ms_repr := ⟨⟨_, fd33, F33, F33.binds fun _ _ _ _ _ _ us hl => match us, hl with | [_], _ => rfl⟩, fun D0 h0 => by rw [h0]; exact He.meth_ok (D.fact 52 (f := .meth "Step" "__repr__") rfl)⟩,
    mt_steps := ⟨⟨_, fd34, F34, F34.binds fun _ _ _ _ _ _ us hl => match us, hl with | [_], _ => rfl⟩, fun D0 h0 => by rw [h0]; exact He.meth_ok (D.fact 53 (f := .meth "Train" "steps") rfl)⟩,
    mt_longer := ⟨⟨_, fd35, F35, F35.binds fun _ _ _ _ _ _ us hl => match us, hl with | [_, _], _ => rfl⟩, fun D0 h0 => by rw [h0]; exact He.meth_ok (D.fact 54 (f := .meth "Train" "longer") rfl)⟩,
    mt_getitem := ⟨⟨_, fd36, F36, F36.binds fun _ _ _ _ _ _ us hl => match us, hl with | [_, _], _ => rfl⟩, fun D0 h0 => by rw [h0]; exact He.meth_ok (D.fact 55 (f := .meth "Train" "__getitem__") rfl)⟩,
    mt_len := ⟨⟨_, fd37, F37, F37.binds fun _ _ _ _ _ _ us hl => match us, hl with | [_], _ => rfl⟩, fun D0 h0 => by rw [h0]; exact He.meth_ok (D.fact 56 (f := .meth "Train" "__len__") rfl)⟩,
    mt_bool := ⟨⟨_, fd38, F38, F38.binds fun _ _ _ _ _ _ us hl => match us, hl with | [_], _ => rfl⟩, fun D0 h0 => by rw [h0]; exact He.meth_ok (D.fact 57 (f := .meth "Train" "__bool__") rfl)⟩,
    mt_eq := ⟨⟨_, fd39, F39, F39.binds fun _ _ _ _ _ _ us hl => match us, hl with | [_, _], _ => rfl⟩, fun D0 h0 => by rw [h0]; exact He.meth_ok (D.fact 58 (f := .meth "Train" "__eq__") rfl)⟩,
    mt_repr := ⟨⟨_, fd40, F40, F40.binds fun _ _ _ _ _ _ us hl => match us, hl with | [_], _ => rfl⟩, fun D0 h0 => by rw [h0]; exact He.meth_ok (D.fact 59 (f := .meth "Train" "__repr__") rfl)⟩,
    ms_arrival := ⟨⟨_, fg0, G0, G0.binds fun _ _ _ _ _ _ us hl => match us, hl with | [_], _ => rfl⟩, _, prop_of p0⟩,
    ms_base := ⟨⟨_, fg1, G1, G1.binds fun _ _ _ _ _ _ us hl => match us, hl with | [_], _ => rfl⟩, _, prop_of p1⟩,
    z_abs := He.free_ok X G (D.fact 60 (f := .free "abs") rfl),
    z_all := He.free_ok X G (D.fact 61 (f := .free "all") rfl),
    z_bool := He.free_ok X G (D.fact 62 (f := .free "bool") rfl),
    z_int := He.free_ok X G (D.fact 63 (f := .free "int") rfl),
    z_isinstance := He.free_ok X G (D.fact 64 (f := .free "isinstance") rfl),
    z_len := He.free_ok X G (D.fact 65 (f := .free "len") rfl),
    z_list := He.free_ok X G (D.fact 66 (f := .free "list") rfl),
    z_range := He.free_ok X G (D.fact 67 (f := .free "range") rfl),
    z_repr := He.free_ok X G (D.fact 68 (f := .free "repr") rfl),
    z_str := He.free_ok X G (D.fact 69 (f := .free "str") rfl),
    z_tuple := He.free_ok X G (D.fact 70 (f := .free "tuple") rfl),
    z_zip := He.free_ok X G (D.fact 71 (f := .free "zip") rfl),
    tL := tL, c_LETTERS := hL, tM := tM, c_MOST_LETTERS := hM, tT := tT, c_MOST_TIME := hT, tS := tS, c_MOST_TIMES := hS0,
    aDayError := He.ga K "DayError", c_DayError := He.glo_ok X G (D.fact 29 (f := .glo "DayError") rfl),
    aMissing := He.ga K "Missing", c_Missing := He.glo_ok X G (D.fact 30 (f := .glo "Missing") rfl),
    aNothingLeft := He.ga K "NothingLeft", c_NothingLeft := He.glo_ok X G (D.fact 31 (f := .glo "NothingLeft") rfl),
    aStep := He.ga K "Step", c_Step := He.glo_ok X G (D.fact 32 (f := .glo "Step") rfl),
    aTrain := He.ga K "Train", c_Train := He.glo_ok X G (D.fact 33 (f := .glo "Train") rfl),
    kStep := mkCl (List.all_eq_true.mp eCl _ (List.mem_of_getElem? (i := 0) rfl)) (He.cls_ok (D.fact 38 (f := .cls "Step") rfl)) (He.mkr_ok (D.fact 39 (f := .mkr "Step") rfl)) (four4 (He.noat_ok (D.fact 40 (f := .noat "Step" "route") rfl)) (He.noat_ok (D.fact 41 (f := .noat "Step" "stop") rfl)) (He.noat_ok (D.fact 42 (f := .noat "Step" "public") rfl)) (He.noat_ok (D.fact 43 (f := .noat "Step" "_times") rfl))),
    kTrain := mkCl (List.all_eq_true.mp eCl _ (List.mem_of_getElem? (i := 1) rfl)) (He.cls_ok (D.fact 44 (f := .cls "Train") rfl)) (He.mkr_ok (D.fact 45 (f := .mkr "Train") rfl)) (four4 (He.noat_ok (D.fact 46 (f := .noat "Train" "name") rfl)) (He.noat_ok (D.fact 47 (f := .noat "Train" "length") rfl)) (He.noat_ok (D.fact 48 (f := .noat "Train" "out") rfl)) (He.noat_ok (D.fact 49 (f := .noat "Train" "_steps") rfl))),
    cvTrain := ⟨_, ⟨t1, He.eqO_ok t2⟩, cvB_ok t3, cvB_ok t4⟩,
    hn := He.eqO_ok o1, htk := of_decide_eq_true o2, getF := o3,
    ex_InvalidName := ⟨true, of_decide_eq_true (List.all_eq_true.mp o4 _ (List.mem_of_getElem? (i := 0) rfl)), rfl⟩,
    ex_InvalidNumber := ⟨true, of_decide_eq_true (List.all_eq_true.mp o4 _ (List.mem_of_getElem? (i := 1) rfl)), rfl⟩,
    ex_InvalidTimes := ⟨true, of_decide_eq_true (List.all_eq_true.mp o4 _ (List.mem_of_getElem? (i := 2) rfl)), rfl⟩,
    ex_InvalidStep := ⟨true, of_decide_eq_true (List.all_eq_true.mp o4 _ (List.mem_of_getElem? (i := 3) rfl)), rfl⟩,
    ex_TooMany := ⟨true, of_decide_eq_true (List.all_eq_true.mp o4 _ (List.mem_of_getElem? (i := 4) rfl)), rfl⟩,
    ex_UnknownEntry := ⟨true, of_decide_eq_true (List.all_eq_true.mp o4 _ (List.mem_of_getElem? (i := 5) rfl)), rfl⟩ }
  have b := FunD.bindsA (ps := ["_law_script"]) F22' fun _ _ _ _ _ _ us hl => match us, hl with | [_], _ => rfl
  have q0 : (("_law_steps_refused_so", none) : He.Defn) ∈ tfL := List.mem_of_getElem? (i := 0) rfl
  have q1 : (("_law_trains_so", none) : He.Defn) ∈ tfL := List.mem_of_getElem? (i := 1) rfl
  have q2 : (("_law_trains_refused_so", none) : He.Defn) ∈ tfL := List.mem_of_getElem? (i := 2) rfl
  have cs : ∀ {p : Addr × Addr}, p ∈ [He.cT K ("_law_steps_refused_so", none), He.cT K ("_law_trains_so", none), He.cT K ("_law_trains_refused_so", none)] → ∃ d, d ∈ tfL ∧ p = He.cT K d := fun m => by
    simp only [List.mem_cons, List.not_mem_nil, or_false] at m
    rcases m with h | h | h
    · exact ⟨_, q0, h⟩
    · exact ⟨_, q1, h⟩
    · exact ⟨_, q2, h⟩
  refine ⟨fd22, [He.cT K ("_law_steps_refused_so", none), He.cT K ("_law_trains_so", none), He.cT K ("_law_trains_refused_so", none)], spLaw K (He.cT K ("_law_steps_refused_so", none)).2 (He.cT K ("_law_trains_so", none)).2 (He.cT K ("_law_trains_refused_so", none)).2, fun p hm => ?_, fun p hm => ?_, fun p hm => ?_, fun s v => b s [v] rfl,
    fun H a ns hl _ hH hS => ⟨a, ns, rfl, hS, hl, ⟨TabF.nil (hH _ (List.mem_of_getElem? (i := 0) rfl)), TabF.nil (hH _ (List.mem_of_getElem? (i := 1) rfl)), TabF.nil (hH _ (List.mem_of_getElem? (i := 2) rfl))⟩, ⟨of_decide_eq_true a0, of_decide_eq_true a1, of_decide_eq_true a2⟩, fun _ => rfl⟩,
    fun base _ _ hT => ok_law T (hT _ (List.mem_of_getElem? (i := 0) rfl)) (code_of F20) (hT _ (List.mem_of_getElem? (i := 1) rfl)) (code_of F19) (hT _ (List.mem_of_getElem? (i := 2) rfl)) (code_of F21)⟩
  · obtain ⟨d, m, e⟩ := cs hm; rw [e]; exact c.empty _ m
  · obtain ⟨d, m, e⟩ := cs hm; rw [e]; exact c.out _ m
  · obtain ⟨d, m, e⟩ := cs hm; rw [e]; exact PySem.W.codeHd_of_K X (c.hd _ m)
end Rd
open PySem PySem.W PySem.Calls PyProof.Rows
theorem PySem.Challenge.cw_ringlessday_k10_steps_and_trains_holds : PySem.Challenge.rw_ringlessday_k10_steps_and_trains.Holds := by
  w_on; o_law
  refine HandSHeadRun.head_any (r := OpenLaw.row PySem.Challenge.rw_ringlessday_k10_steps_and_trains) (q := Rd.qv) (H := Rd.hkB) (ob := Rd.obB) (M := 12000) (loose := Rd.looseL) (d := HandSHeadRun.topDef (OpenLaw.row PySem.Challenge.rw_ringlessday_k10_steps_and_trains).prog 41) (kwd := []) Rd.obB_eq
    (by kernel_rfl) (fun s => by kernel_rfl) Rd.runB (by kernel_rfl) (by kernel_rfl) (by kernel_rfl) (by rfl) (by first | assumption | decide +kernel) (by decide +kernel) ⟨rfl, rfl, rfl, rfl, rfl, by decide +kernel⟩ ?hw ?hc
  case hw => w_witness2
  case hc =>
    refine LamX.walk_ofTsE (l := PySem.Challenge.rw_ringlessday_k10_steps_and_trains) (n := 63) (k := 13) (x := "_law_script") (CX := fun _ => L2.CX0) rfl (by decide) (by kernel_rfl) ⟨rfl, by decide, by decide⟩ ?F (fun _ _ _ _ _ z => z)
    intro w mg fa h Y G hmg0
    obtain ⟨K, KX, c, sv⟩ := Y
    have hmg : mg ("law" : PySem.Str) = some (.ref fa) := by
      have e : (HandSHeadRun.topDef (OpenLaw.row PySem.Challenge.rw_ringlessday_k10_steps_and_trains).prog 41).name = ("law" : PySem.Str) := by kernel_rfl
      rw [← e]
      exact hmg0
    exact ⟨K, KX, Rd.factsB KX G hmg c sv⟩
