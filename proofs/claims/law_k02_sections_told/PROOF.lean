import PyProof.Rows.All
import Wide.All
import OpenK.AllK
import Wide.FinOn
import HandS.ForMost
import HandS.IsInst
import HandS.Style
import HandS.Flow
import HandS.Codes
import HandS.Walk
import HandS.TupAny
import HandS.Dict
import HandS.FStr
import HandS.ClsMeth
import HandS.MakeKwOnly
import HandS.RaiseMore
import PySem.Challenge.RW_ringlessday_k02_sections_told
import KE.KStateDown
import HandS.Exc
import HandS.ExcInit
import HandS.ExcField
import HandS.Head0
import HandS.Head1
import HandS.Head2
import HandS.HeadEnd
import HandS.HeadWalk
import HandS.HeadHook1
import HandS.HeadHook2
import HandS.HeadHook3
import HandS.HeadHook4
import Wide.Once
import HandS.ExcIs
import HandS.TryMany
import HandS.Defaults
import KE.KExcInit
import KE.KExcIs
import HandS.ExcCtx
import HandS.HotCalls
import KE.KTryMore
import HandS.Lambda
import KE.KDflt
import HandS.Star
import HandS.OwnEq
import KE.KFmtOwn
import PyProof.InstEq
import HandS.TupSets
import HandS.Zip
import HandS.Nested
set_option Elab.async false
set_option linter.all false
set_option maxRecDepth 100000
namespace Rd
open PySem PySem.Spec PyProof.Rows L2
def topS (i : Nat) : Stmt := PySem.Challenge.pw_ringlessday_k02_sections_told.main.body.getD i (.Pass ⟨0, 0, 0, 0⟩)
def inS (i k : Nat) : Stmt := match topS i with
  | .ClassDef (body := b) .. => b.getD k (.Pass ⟨0, 0, 0, 0⟩)
  | s => s
end Rd
set_option maxHeartbeats 0
namespace Rd
open PySem PySem.Spec PyProof.Rows L2
abbrev sq_is_name : Stmt := topS 9
abbrev sq_is_number : Stmt := topS 10
abbrev sq_is_integer : Stmt := topS 11
abbrev sq_law_bag : Stmt := topS 20
abbrev sq_law_draw : Stmt := topS 21
abbrev sq_law_of : Stmt := topS 22
abbrev sq_law_same : Stmt := topS 23
abbrev sq_law_fields : Stmt := topS 24
abbrev sq_law_try : Stmt := topS 25
abbrev sq_law_tries : Stmt := topS 26
abbrev sq_law_words : Stmt := topS 27
abbrev sq_law_odd : Stmt := topS 28
abbrev sq_law_sides : Stmt := topS 29
abbrev sq_law_ways : Stmt := topS 30
abbrev sq_law_section : Stmt := topS 31
abbrev sq_law_refused_so : Stmt := topS 32
abbrev sq_law_base_so : Stmt := topS 33
abbrev sq_law : Stmt := topS 34
def excB (K : PySem.W.Frag) (D : Addr) : Bool := decide (PySem.W.findIn K (.ref D) "__getattribute__" = some (some (.builtin "BaseException.__getattribute__"))) && (decide (PySem.W.findIn K (.ref D) "__getattr__" = some none) && (decide (PySem.W.subIn K (.ref D) (.type "BaseException") = some true) && (PySem.W.hasDictIn K D &&
  (decide (PySem.W.findIn K (.ref D) "__class__" = some (some (.builtin "object.__class__"))) && (decide (PySem.W.specialIn K (.builtin "object.__class__") "__get__" = some (some (.builtin "getset_descriptor.__get__"))) && (decide (PySem.W.takesIn K (.builtin "object.__class__") = some true) && decide (PySem.W.mroIn K D (.type "object") = some true)))))))
def xB (K : PySem.W.Frag) (C f : Addr) (bmB : List Value) (newId : String) (nm : List Str) : Bool := PySem.W.excInitIn K C bmB newId && (PySem.W.excOver K C bmB && (PySem.W.hasDictIn K C && (decide (PySem.W.findIn K (.ref C) "__setattr__" = some (some (.builtin "object.__setattr__"))) && (PySem.W.keepIn K (.ref C) &&
  (xfB K C && (excB K C && (decide (PySem.W.typeIn K (.ref f) = some (.type "function")) && (nm.all (fun n => decide (PySem.W.findIn K (.ref C) n = some none)) && decide (PySem.W.typeIn K (.ref C) = some (.type "type"))))))))))
def xB2 (K : PySem.W.Frag) (r : Str × List Value × String × List Str) : Bool := He.eqO (PySem.W.findIn K (.ref (He.ga K r.1)) "__init__") (some (some (.ref (He.ma K (He.ga K r.1) "__init__")))) && xB K (He.ga K r.1) (He.ma K (He.ga K r.1) "__init__") r.2.1 r.2.2.1 r.2.2.2
def exR : List (Str × List Value × String × List Str) := [("InvalidName", [.type "ValueError", .type "Exception", .type "BaseException", .type "object"], "ValueError.__new__", ["value", "code"]), ("InvalidNumber", [.type "ValueError", .type "Exception", .type "BaseException", .type "object"], "ValueError.__new__", ["value", "code"])]
def kindN : List (Str × Str) := [("Section", "none"), ("Plain", "plain"), ("Point", "point"), ("Crossing", "crossing")]
def methN : List Str := ["__init__", "sides", "ends", "ways", "text", "__eq__", "__repr__"]
def typN : List String := ["NoneType", "str", "int", "bool", "tuple", "list"]
/-- a class's constant, read on the class -/
def cvB (K : PySem.W.Frag) (C : Addr) (f : Str) (v : V) : Bool := match PySem.W.findCls K (.ref C) (.type "type") f with
  | some (.val u) => He.relB v u
  | _ => false
theorem cvB_ok {K : PySem.W.Frag} {C : Addr} {f : Str} {v : V} (h : cvB K C f v = true) : ∃ u, ClX.CVal K C (.type "type") f v u := by
  unfold cvB at h
  split at h
  · rename_i u e
    exact ⟨u, e, He.relB_ok h⟩
  · cases h
/-- one of the four classes -/
def clsB (K : PySem.W.Frag) (x kind : Str) : Bool :=
  (methN.all fun m => decide (He.ma K (He.ga K x) m = He.ma K (He.ga K "Section") m)) &&
  (He.conB K x "KIND" (.str kind) && (He.conB K x "MOST" (.int 50) &&
  (He.eqO (PySem.W.findIn K (.ref (He.ga K x)) "__class__") (some (some (.builtin "object.__class__"))) &&
  (decide (PySem.W.mroIn K (He.ga K x) (.type "object") = some true) &&
  (PySem.W.readsIn K (He.ga K x) (.type "type") &&
  (He.eqO (PySem.W.specialIn K (.ref (He.ga K x)) "__getattribute__") (some (some (.builtin "type.__getattribute__"))) &&
  (cvB K (He.ga K x) "KIND" (.str kind) && (cvB K (He.ga K x) "MOST" (.int 50) &&
  ((typN.all fun t => PySem.W.notFirst K (He.ga K x) (.type t)) &&
  (He.eqO (PySem.W.findIn K (.ref (He.ga K x)) "__ne__") (some (some (.builtin "object.__ne__"))) &&
  decide (PySem.W.kitOne K (.ref (He.ga K x)) (.ref (He.ga K "Section")) = some true)))))))))))
structure ClsF (K : PySem.W.Frag) (x kind : Str) : Prop where
  mt : ∀ m, m ∈ methN → He.ma K (He.ga K x) m = He.ma K (He.ga K "Section") m
  kd : ∃ u, Con K (He.ga K x) "KIND" (.str kind) u
  ms : ∃ u, Con K (He.ga K x) "MOST" (.int 50) u
  ha : PySem.W.findIn K (.ref (He.ga K x)) "__class__" = some (some (.builtin "object.__class__"))
  mo : PySem.W.mroIn K (He.ga K x) (.type "object") = some true
  cv : ∃ mc, ClX.CRead K (He.ga K x) mc ∧ (∃ u, ClX.CVal K (He.ga K x) mc "KIND" (.str kind) u) ∧ ∃ u, ClX.CVal K (He.ga K x) mc "MOST" (.int 50) u
  nt : ∀ t, typN.contains t = true → PySem.W.notFirst K (He.ga K x) (.type t) = true
  ne : PySem.W.findIn K (.ref (He.ga K x)) "__ne__" = some (some (.builtin "object.__ne__"))
  isS : PySem.W.kitOne K (.ref (He.ga K x)) (.ref (He.ga K "Section")) = some true
theorem clsB_ok {K : PySem.W.Frag} {x kind : Str} (h : clsB K x kind = true) : ClsF K x kind := by
  unfold clsB at h
  obtain ⟨h1, h⟩ := He.ba h
  obtain ⟨h2, h⟩ := He.ba h
  obtain ⟨h3, h⟩ := He.ba h
  obtain ⟨h4, h⟩ := He.ba h
  obtain ⟨h5, h⟩ := He.ba h
  obtain ⟨h6, h⟩ := He.ba h
  obtain ⟨h7, h⟩ := He.ba h
  obtain ⟨h8, h⟩ := He.ba h
  obtain ⟨h9, h⟩ := He.ba h
  obtain ⟨h10, h⟩ := He.ba h
  obtain ⟨h11, h12⟩ := He.ba h
  exact ⟨fun m hm => of_decide_eq_true (List.all_eq_true.mp h1 m hm), He.conB_ok h2, He.conB_ok h3, He.eqO_ok h4, of_decide_eq_true h5, ⟨_, ⟨h6, He.eqO_ok h7⟩, cvB_ok h8, cvB_ok h9⟩, fun t ht => List.all_eq_true.mp h10 t (List.elem_iff.mp ht), He.eqO_ok h11, of_decide_eq_true h12⟩
/-- how the four lie to one another -/
def subN : List Str := ["Plain", "Point", "Crossing"]
def excN : List Str := ["InvalidName", "InvalidNumber"]
def subsB (K : PySem.W.Frag) : Bool := (subN.all fun x => decide (PySem.W.subIn K (.ref (He.ga K x)) (.ref (He.ga K "Section")) = some true) && decide (He.ga K x ≠ He.ga K "Section")) &&
  ((subN.all fun x => kindN.all fun y => PySem.W.notFirst K (He.ga K x) (.ref (He.ga K y.1))) &&
  (decide (He.ga K "Plain" ≠ He.ga K "Point") && (decide (He.ga K "Plain" ≠ He.ga K "Crossing") && decide (He.ga K "Point" ≠ He.ga K "Crossing"))))
def oneB (K : PySem.W.Frag) : Bool := He.eqO (PySem.W.specialIn K (.builtin "object.__class__") "__get__") (some (some (.builtin "getset_descriptor.__get__"))) &&
  (decide (PySem.W.takesIn K (.builtin "object.__class__") = some true) && (PySem.W.notFirst K (He.ga K "Section") (.ref (He.ga K "Section")) &&
  ((typN.all fun t => decide (PySem.W.kitOne K (.type t) (.ref (He.ga K "Section")) = some false)) &&
  (excN.all fun x => decide (PySem.W.exmAny K (.ref (He.ga K x)) [.ref (He.ga K "DayError"), .ref (He.ga K "Missing"), .ref (He.ga K "NothingLeft")] = some true)))))
/-- a written tuple at p -/
def atT (K : PySem.W.Frag) (p : Addr) (vs : List V) : Bool := match K.lookup p with
  | some ⟨.type c, _, .seq its _, _⟩ => decide (c = "tuple") && (decide (its.size ≤ sizeLine) && He.relAll vs its.toList)
  | _ => false
theorem atT_ok {K : PySem.W.Frag} {p : Addr} {vs : List V} (h : atT K p vs = true) (H : Hp) : SqT K H p vs := by
  unfold atT at h
  split at h
  · rename_i c od its n sl e
    obtain ⟨h1, h2⟩ := He.ba h
    obtain ⟨h3, h4⟩ := He.ba h2
    exact .inr ⟨_, its, n, e, congrArg Value.type (of_decide_eq_true h1), rfl, of_decide_eq_true h3, He.relAll_ok h4⟩
  · cases h
def sdB (K : PySem.W.Frag) (r : Str × List V) : Bool := match PySem.W.nsIn K (He.ga K "SIDES_OF") r.1 with
  | some (some (.ref p)) => atT K p r.2
  | _ => false
def vw (z : Str × Str × Str) : List V := [.str z.1, .str z.2.1, .str z.2.2]
def refsB : List Value → Option (List Addr)
  | [] => some []
  | .ref t :: us => (refsB us).map (t :: ·)
  | _ => none
def pairB (K : PySem.W.Frag) : List Addr → List (Str × Str × Str) → Bool
  | [], [] => true
  | t :: ts, z :: zs => atT K t (vw z) && pairB K ts zs
  | _, _ => false
def waB (K : PySem.W.Frag) (p : Addr) (ts : List Addr) (zs : List (Str × Str × Str)) : Bool := atT K p (ts.map V.ref) && pairB K ts zs
def wdB (K : PySem.W.Frag) (r : Str × List (Str × Str × Str)) : Bool := match PySem.W.nsIn K (He.ga K "WAYS_OF") r.1 with
  | some (some (.ref p)) => (match K.lookup p with
    | some ⟨_, _, .seq its _, _⟩ => (match refsB its.toList with
      | some ts => waB K p ts r.2
      | _ => false)
    | _ => false)
  | _ => false
def sidesL : List (Str × List V) := [("none", []), ("plain", [.str "a", .str "b"]), ("point", [.str "left", .str "right", .str "stem"]), ("crossing", [.str "a", .str "b", .str "c", .str "d"])]
def waysL : List (Str × List (Str × Str × Str)) := [("none", []), ("plain", [("a", "b", "")]), ("point", [("left", "stem", "left"), ("right", "stem", "right")]), ("crossing", [("a", "b", ""), ("c", "d", "")])]
def faL : List He.Fa := ([.glo "is_name", .glo "is_integer", .glo "is_number", .glo "_law_bag", .glo "_law_draw", .glo "_law_of", .glo "_law_same", .glo "_law_fields", .glo "_law_try", .glo "_law_tries"] : List He.Fa) ++ (([.glo "_law_words", .glo "_law_odd", .glo "_law_sides", .glo "_law_ways", .glo "_law_section", .glo "_law_refused_so", .glo "_law_base_so", .glo "law", .glo "InvalidName", .glo "InvalidNumber"] : List He.Fa) ++ (([.glo "DayError", .glo "Missing", .glo "NothingLeft", .glo "Section", .glo "Plain", .glo "Point", .glo "Crossing", .glo "SIDES_OF", .glo "WAYS_OF", .str "LETTERS" "abcdefghijklmnopqrstuvwxyz"] : List He.Fa) ++ (([.int "MOST_LETTERS" 6, .cls "Section", .mkr "Section", .noat "Section" "name", .noat "Section" "length", .meth "Section" "sides", .meth "Section" "ends", .meth "Section" "ways", .meth "Section" "text", .meth "Section" "__eq__"] : List He.Fa) ++ (([.meth "Section" "__repr__", .cls "Plain", .mkr "Plain", .noat "Plain" "name", .noat "Plain" "length", .meth "Plain" "sides", .meth "Plain" "ends", .meth "Plain" "ways", .meth "Plain" "text", .meth "Plain" "__eq__"] : List He.Fa) ++ (([.meth "Plain" "__repr__", .cls "Point", .mkr "Point", .noat "Point" "name", .noat "Point" "length", .meth "Point" "sides", .meth "Point" "ends", .meth "Point" "ways", .meth "Point" "text", .meth "Point" "__eq__"] : List He.Fa) ++ (([.meth "Point" "__repr__", .cls "Crossing", .mkr "Crossing", .noat "Crossing" "name", .noat "Crossing" "length", .meth "Crossing" "sides", .meth "Crossing" "ends", .meth "Crossing" "ways", .meth "Crossing" "text", .meth "Crossing" "__eq__"] : List He.Fa) ++ (([.meth "Crossing" "__repr__", .free "abs", .free "all", .free "any", .free "bool", .free "int", .free "isinstance", .free "len", .free "list", .free "range"] : List He.Fa) ++ (([.free "repr", .free "sorted", .free "str", .free "tuple", .free "zip"] : List He.Fa)))))))))
def dd0 : He.DefD := ⟨("is_name", none), "is_name", "is_name", defArgs sq_is_name, defBody sq_is_name, defScope sq_is_name, [], []⟩
def dd1 : He.DefD := ⟨("is_integer", none), "is_integer", "is_integer", defArgs sq_is_integer, defBody sq_is_integer, defScope sq_is_integer, [], []⟩
def dd2 : He.DefD := ⟨("is_number", none), "is_number", "is_number", defArgs sq_is_number, defBody sq_is_number, defScope sq_is_number, [], []⟩
def dd3 : He.DefD := ⟨("_law_bag", none), "_law_bag", "_law_bag", defArgs sq_law_bag, defBody sq_law_bag, defScope sq_law_bag, [], []⟩
def dd4 : He.DefD := ⟨("_law_draw", none), "_law_draw", "_law_draw", defArgs sq_law_draw, defBody sq_law_draw, defScope sq_law_draw, [], []⟩
def dd5 : He.DefD := ⟨("_law_of", none), "_law_of", "_law_of", defArgs sq_law_of, defBody sq_law_of, defScope sq_law_of, [], []⟩
def dd6 : He.DefD := ⟨("_law_same", none), "_law_same", "_law_same", defArgs sq_law_same, defBody sq_law_same, defScope sq_law_same, [], []⟩
def dd7 : He.DefD := ⟨("_law_fields", none), "_law_fields", "_law_fields", defArgs sq_law_fields, defBody sq_law_fields, defScope sq_law_fields, [], []⟩
def dd8 : He.DefD := ⟨("_law_try", none), "_law_try", "_law_try", defArgs sq_law_try, defBody sq_law_try, defScope sq_law_try, [], []⟩
def dd9 : He.DefD := ⟨("_law_tries", none), "_law_tries", "_law_tries", defArgs sq_law_tries, defBody sq_law_tries, defScope sq_law_tries, [], []⟩
def dd10 : He.DefD := ⟨("_law_words", none), "_law_words", "_law_words", defArgs sq_law_words, defBody sq_law_words, defScope sq_law_words, [], []⟩
def dd11 : He.DefD := ⟨("_law_odd", none), "_law_odd", "_law_odd", defArgs sq_law_odd, defBody sq_law_odd, defScope sq_law_odd, [], []⟩
def dd12 : He.DefD := ⟨("_law_sides", none), "_law_sides", "_law_sides", defArgs sq_law_sides, defBody sq_law_sides, defScope sq_law_sides, [], []⟩
def dd13 : He.DefD := ⟨("_law_ways", none), "_law_ways", "_law_ways", defArgs sq_law_ways, defBody sq_law_ways, defScope sq_law_ways, [], []⟩
def dd14 : He.DefD := ⟨("_law_section", none), "_law_section", "_law_section", defArgs sq_law_section, defBody sq_law_section, defScope sq_law_section, [], []⟩
def dd15 : He.DefD := ⟨("_law_refused_so", none), "_law_refused_so", "_law_refused_so", defArgs sq_law_refused_so, defBody sq_law_refused_so, defScope sq_law_refused_so, [], []⟩
def dd16 : He.DefD := ⟨("_law_base_so", none), "_law_base_so", "_law_base_so", defArgs sq_law_base_so, defBody sq_law_base_so, defScope sq_law_base_so, [], []⟩
def dd17 : He.DefD := ⟨("law", none), "law", "law", defArgs sq_law, defBody sq_law, defScope sq_law, [], []⟩
def dd18 : He.DefD := ⟨("InvalidName", some "__init__"), "__init__", "InvalidName.__init__", defArgs (inS 2 0), defBody (inS 2 0), defScope (inS 2 0), [], []⟩
def dd19 : He.DefD := ⟨("InvalidNumber", some "__init__"), "__init__", "InvalidNumber.__init__", defArgs (inS 3 0), defBody (inS 3 0), defScope (inS 3 0), [], []⟩
def dd20 : He.DefD := ⟨("Section", some "__init__"), "__init__", "Section.__init__", defArgs (inS 15 2), defBody (inS 15 2), defScope (inS 15 2), [], []⟩
def dd21 : He.DefD := ⟨("Section", some "sides"), "sides", "Section.sides", defArgs (inS 15 3), defBody (inS 15 3), defScope (inS 15 3), [], []⟩
def dd22 : He.DefD := ⟨("Section", some "ends"), "ends", "Section.ends", defArgs (inS 15 4), defBody (inS 15 4), defScope (inS 15 4), [], []⟩
def dd23 : He.DefD := ⟨("Section", some "ways"), "ways", "Section.ways", defArgs (inS 15 5), defBody (inS 15 5), defScope (inS 15 5), [], []⟩
def dd24 : He.DefD := ⟨("Section", some "text"), "text", "Section.text", defArgs (inS 15 6), defBody (inS 15 6), defScope (inS 15 6), [], []⟩
def dd25 : He.DefD := ⟨("Section", some "__eq__"), "__eq__", "Section.__eq__", defArgs (inS 15 7), defBody (inS 15 7), defScope (inS 15 7), [], []⟩
def dd26 : He.DefD := ⟨("Section", some "__repr__"), "__repr__", "Section.__repr__", defArgs (inS 15 8), defBody (inS 15 8), defScope (inS 15 8), [], []⟩
def fnL : List He.DefD := ([dd0, dd1, dd2, dd3, dd4, dd5, dd6, dd7, dd8, dd9] : List He.DefD) ++ (([dd10, dd11, dd12, dd13, dd14, dd15, dd16, dd17, dd18, dd19] : List He.DefD) ++ (([dd20, dd21, dd22, dd23, dd24, dd25, dd26] : List He.DefD)))
def tsL : List He.Tab := [(fun K => He.ga K "SIDES_OF", ["none", "plain", "point", "crossing"]), (fun K => He.ga K "WAYS_OF", ["none", "plain", "point", "crossing"])]
def tfL : List He.Defn := [("_law_refused_so", none)]
def exB1 (K : PySem.W.Frag) : Bool := exR.all (xB2 K) && (oneB K && subsB K)
def exB2 (K : PySem.W.Frag) : Bool := kindN.all fun r => clsB K r.1 r.2
def exB3 (K : PySem.W.Frag) : Bool := sidesL.all (sdB K) && waysL.all (wdB K)
def exB (K : PySem.W.Frag) : Bool := exB1 K && (exB2 K && exB3 K)
abbrev Rr : PySem.W.OpenRow := PySem.W.OpenLaw.row PySem.Challenge.rw_ringlessday_k02_sections_told
/-- the part of the heap that is looked at: the names' own, and the interpreter's statics -/
def kW (g : Addr → Option Obj) : PySem.W.Frag := He.frT g (He.asD g 5 ++ [cStatics])
def lookB (g : Addr → Option Obj) (K : PySem.W.Frag) : He.AlX := ⟨He.obsT faL fnL tsL K, exB K && He.tabsB g tfL K⟩
def valB (w : World) : He.AlX := ⟨He.valT fnL tsL w, true⟩
theorem tab_got {g : Addr → Option Obj} {K : PySem.W.Frag} (e : He.tabsB g tfL K = true) {p : He.Defn} (hp : p ∈ tfL) :
    PySem.W.codeHdIn K (He.cT K p).1 (He.cT K p).2 = true ∧ g (He.cT K p).2 = some ⟨.none, none, .fields #[], #[]⟩ := by
  obtain ⟨u, v⟩ := Bool.and_eq_true_iff.mp (List.all_eq_true.mp e p hp)
  refine And.intro u ?_
  generalize g (He.cT K p).2 = r at v
  match r, v with
  | some ob, v => exact congrArg some (He.emptyTab_eq v)
theorem look_says {w : World} {h : Heap} (e : lookB h.get? (kW h.get?) = valB w) : He.SaysX faL fnL tsL tfL exB w h (kW h.get?) := by
  have a := (Prod.mk.inj e).1
  obtain ⟨b, d⟩ := Bool.and_eq_true_iff.mp (Prod.mk.inj e).2
  refine { t := a, more := b, hd := fun p hp => (tab_got d hp).1, out := fun p hp => ?_, empty := fun p hp => (tab_got d hp).2 }
  exact He.frT_none (tab_got d hp).2 rfl
def hkB : PySem.W.Hook where
  α := He.AlX
  obs := fun s => lookB s.heap.get? (kW s.heap.get?)
  val := valB
  says := fun w h => ∃ K : PySem.W.Frag, K.In h ∧ He.SaysX faL fnL tsL tfL exB w h K
  of := fun _ s e => Exists.intro (kW s.heap.get?) (And.intro (fun _ _ z => (He.frT_mem z).1) (look_says e))
  keeps := fun _ _ _ ⟨K, i, c⟩ k => ⟨K, PySem.W.Frag.In.keeps i k, { c with empty := fun p hp => k _ _ (c.empty p hp) }⟩
def obB (s : PySem.W.SharedT) : He.AlX := lookB (HandSHeadRun.getT s) (kW (HandSHeadRun.getT s))
theorem obB_eq (s : PySem.W.SharedT) : obB s = hkB.obs s.abs := by
  have e : HandSHeadRun.getT s = s.abs.heap.get? := funext fun a => HandSHeadRun.getT_eq s a
  show lookB _ (kW _) = lookB _ (kW _)
  rw [e]
def looseL : List Str := ["SIDES_OF", "WAYS_OF", "Section", "Plain", "Point", "Crossing"]
abbrev qv : Program := PySem.W.view Rr.prog (([1, 2, 3, 4, 5, 7, 8, 9, 10, 11] : List Nat) ++ (([20, 21, 22, 23, 24, 25, 26, 27, 28, 29] : List Nat) ++ (([30, 31, 32, 33, 34] : List Nat))))
section
open HandSHeadRun PySem.W
noncomputable abbrev oB (w : World) (os : OsState) : Option SharedT := endF (stepQ (denQ tabQ) Rr.prog w) 10600 Rr.prog w os
abbrev kOf (s : SharedT) : Frag := kW (getT s)
theorem run1f (w : World) (os : OsState) : (fun w : World => (oB w os).map (fun s => (looksF Rr.prog (boot_heap w.params) s.abs, seenQ qv looseL (importedModules Rr.prog.main.body) (fun s => xlAt qv [] s && recOk Rr.toRowW.records s) s.abs)) = some (true, openGood qv looseL)) (w.withFollow "special-get-raises" false) := by kernel_rfl
theorem run1t (w : World) (os : OsState) : (fun w : World => (oB w os).map (fun s => (looksF Rr.prog (boot_heap w.params) s.abs, seenQ qv looseL (importedModules Rr.prog.main.body) (fun s => xlAt qv [] s && recOk Rr.toRowW.records s) s.abs)) = some (true, openGood qv looseL)) (w.withFollow "special-get-raises" true) := by kernel_rfl
theorem run1 (w : World) (os : OsState) : (oB w os).map (fun s => (looksF Rr.prog (boot_heap w.params) s.abs, seenQ qv looseL (importedModules Rr.prog.main.body) (fun s => xlAt qv [] s && recOk Rr.toRowW.records s) s.abs)) = some (true, openGood qv looseL) := byRow2 "special-get-raises" (P := fun w => (oB w os).map (fun s => (looksF Rr.prog (boot_heap w.params) s.abs, seenQ qv looseL (importedModules Rr.prog.main.body) (fun s => xlAt qv [] s && recOk Rr.toRowW.records s) s.abs)) = some (true, openGood qv looseL)) (fun w => run1f w os) (fun w => run1t w os) w
theorem run2f (w : World) (os : OsState) : (fun w : World => (oB w os).map (fun s => He.obsT faL fnL tsL (kOf s)) = some (He.valT fnL tsL w)) (w.withFollow "special-get-raises" false) := by kernel_rfl
theorem run2t (w : World) (os : OsState) : (fun w : World => (oB w os).map (fun s => He.obsT faL fnL tsL (kOf s)) = some (He.valT fnL tsL w)) (w.withFollow "special-get-raises" true) := by kernel_rfl
theorem run2 (w : World) (os : OsState) : (oB w os).map (fun s => He.obsT faL fnL tsL (kOf s)) = some (He.valT fnL tsL w) := byRow2 "special-get-raises" (P := fun w => (oB w os).map (fun s => He.obsT faL fnL tsL (kOf s)) = some (He.valT fnL tsL w)) (fun w => run2f w os) (fun w => run2t w os) w
theorem run3f (w : World) (os : OsState) : (fun w : World => (oB w os).map (fun s => exB1 (kOf s) && He.tabsB (getT s) tfL (kOf s)) = some true) (w.withFollow "special-get-raises" false) := by kernel_rfl
theorem run3t (w : World) (os : OsState) : (fun w : World => (oB w os).map (fun s => exB1 (kOf s) && He.tabsB (getT s) tfL (kOf s)) = some true) (w.withFollow "special-get-raises" true) := by kernel_rfl
theorem run3 (w : World) (os : OsState) : (oB w os).map (fun s => exB1 (kOf s) && He.tabsB (getT s) tfL (kOf s)) = some true := byRow2 "special-get-raises" (P := fun w => (oB w os).map (fun s => exB1 (kOf s) && He.tabsB (getT s) tfL (kOf s)) = some true) (fun w => run3f w os) (fun w => run3t w os) w
theorem run4f (w : World) (os : OsState) : (fun w : World => (oB w os).map (fun s => exB2 (kOf s) && exB3 (kOf s)) = some true) (w.withFollow "special-get-raises" false) := by kernel_rfl
theorem run4t (w : World) (os : OsState) : (fun w : World => (oB w os).map (fun s => exB2 (kOf s) && exB3 (kOf s)) = some true) (w.withFollow "special-get-raises" true) := by kernel_rfl
theorem run4 (w : World) (os : OsState) : (oB w os).map (fun s => exB2 (kOf s) && exB3 (kOf s)) = some true := byRow2 "special-get-raises" (P := fun w => (oB w os).map (fun s => exB2 (kOf s) && exB3 (kOf s)) = some true) (fun w => run4f w os) (fun w => run4t w os) w
theorem runB (w : World) : HandSHeadRun.RunEq Rr qv hkB obB 10600 looseL w := by
  intro os
  have h1 := run1 w os
  have h2 := run2 w os
  have h3 := run3 w os
  have h4 := run4 w os
  show (oB w os).map _ = _
  generalize oB w os = o at h1 h2 h3 h4
  cases o with
  | none => cases h1
  | some s =>
    have e1 : (looksF Rr.prog (boot_heap w.params) s.abs, seenQ qv looseL (importedModules Rr.prog.main.body) (fun s => xlAt qv [] s && recOk Rr.toRowW.records s) s.abs) = (true, openGood qv looseL) := Option.some.inj h1
    have e2 : He.obsT faL fnL tsL (kOf s) = He.valT fnL tsL w := Option.some.inj h2
    have e3 : (exB1 (kOf s) && He.tabsB (getT s) tfL (kOf s)) = true := Option.some.inj h3
    have e4 : (exB2 (kOf s) && exB3 (kOf s)) = true := Option.some.inj h4
    obtain ⟨e31, e32⟩ := Bool.and_eq_true_iff.mp e3
    have e5 : obB s = (He.valT fnL tsL w, true) := by
      show (He.obsT faL fnL tsL (kOf s), (exB1 (kOf s) && (exB2 (kOf s) && exB3 (kOf s))) && He.tabsB (getT s) tfL (kOf s)) = _
      rw [e2, e4, e31, e32]; rfl
    obtain ⟨a, b⟩ := Prod.mk.inj e1
    have e6 : (looksF Rr.prog (boot_heap w.params) s.abs, seenQ qv looseL (importedModules Rr.prog.main.body) (fun s => xlAt qv [] s && recOk Rr.toRowW.records s) s.abs, obB s) = (true, openGood qv looseL, (He.valT fnL tsL w, true)) := by rw [a, b, e5]
    exact congrArg some e6
end
end Rd
set_option maxHeartbeats 4000000
namespace Rd
open PySem PySem.Spec PyProof.Rows L2
/-! ## own exceptions over any base, as values -/
/-- what the top says of such a class -/
structure XC (K : PySem.W.Frag) (C : Addr) (B newId initId : String) (bmB : List Value) : Prop where
  F : ExcBaseFacts B newId initId bmB
  S : StoreFacts B bmB "object.__setattr__" "object"
  ini : PySem.W.excInitIn K C bmB newId = true
  ovr : PySem.W.excOver K C bmB = true
  hasd : PySem.W.hasDictIn K C = true
  sa : PySem.W.findIn K (.ref C) "__setattr__" = some (some (.builtin "object.__setattr__"))
  kC : PySem.W.keepIn K (.ref C) = true
section
variable {X : Cx} {pins : List (Addr × Obj)} {σ : L2.St} {H : Hp} {s : Shared} {a C dx : Addr} {f : Str} {y : V} {u : Value} {fs : List (Str × V)} {Q : Unit → Shared → Prop} {E : Value → Shared → Prop} {A : Around} {B newId initId : String} {bmB : List Value}
theorem cls_of (T : XC X.K C B newId initId bmB) : ∃ cd, PySem.W.clsIn X.K C = some cd ∧ cd.hasDict = true := by
  have h : (PySem.W.clsIn X.K C).any (·.hasDict) = true := T.hasd
  cases e : PySem.W.clsIn X.K C with
  | none => rw [e] at h; cases h
  | some cd => rw [e] at h; exact ⟨cd, rfl, h⟩
theorem gst_new (T : XC X.K C B newId initId bmB) (I : Inv X pins σ H s) (e : H a = some (exo a C none)) (hno : PySem.W.findIn X.K (.ref C) f = some none) (ry : RelV y u)
    (h : ∀ dx s', H dx = none → dx ≠ a → Inv X pins σ (upd (upd H dx (exd dx [(f, y)])) a (exo a C (some dx))) s' → Q () s') : wpAny (model X.prog X.w) A (setAttr (.ref a) f u) Q E s := by
  obtain ⟨cd, hcl, hdc⟩ := cls_of T
  obtain ⟨t1, ho⟩ := exo_at I.hok e
  obtain ⟨hp, g, d, t, os⟩ := s
  have hcls : PySem.W.Looks (model X.prog X.w) hp (classData C) cd := PySem.W.looks_clsIn I.kIn hcl
  have IA : PySem.W.InstAt hp a { cls := .ref C, dict := none, data := .fields #[.ref t1, .none, .none, .none, .bool false, .none] } C none := ⟨ho, rfl, rfl, trivial⟩
  refine PySem.W.set_plain I.kIn IA T.sa ?_
  refine PySem.W.osa_openX T.S I.kIn IA T.ovr (r := none) (by unfold PySem.W.takerIn; rw [hno]; rfl) fun b => ?_
  show wpAny _ _ (Builtin.ObjectAttr.storeInOwnDict (.ref a) (.ref C) (.str f _) f u b) _ _ _
  obtain ⟨nm, bs, mro, ns, qn, hd, sn, sb, ab, col, del⟩ := cd
  dsimp only at hdc
  subst hdc
  have ha : a ≠ hp.objs.size := Nat.ne_of_lt (Heap.lt_size ho)
  unfold Builtin.ObjectAttr.storeInOwnDict Builtin.ObjectAttr.ownDictForStores
  repeat (first | with_reducible refine PySem.HandSPX.store_in_new ?_ ?_ | with_reducible refine wpAny_loadPart_at ho ?_ | with_reducible refine hcls.at ?_ | wp_step)
  · exact ⟨_, #[], _, (Heap.get?_update_ne _ _ _ _ ha.symm).trans (Heap.get?_push_at rfl rfl), rfl, fun e he => absurd he (by simp), fun _ => rfl⟩
  · intro h' tk' hn' hs
    have h1 : (hp.push { cls := .type "dict", data := .dict #[] }).get? a = some { cls := .ref C, dict := none, data := .fields #[.ref t1, .none, .none, .none, .bool false, .none] } := Heap.get?_push_of_some _ ho
    have ha' : h'.get? a = some { cls := .ref C, dict := some hp.objs.size, data := .fields #[.ref t1, .none, .none, .none, .bool false, .none] } := (hs.2 a ha).trans (Heap.get?_update_self _ h1 rfl)
    have keep : ∀ b o, b ≠ a → hp.get? b = some o → h'.get? b = some o := fun b o hb hob => (hs.2 b (Nat.ne_of_lt (Heap.lt_size hob))).trans ((Heap.get?_update_ne _ _ _ _ hb).trans (Heap.get?_push_of_some _ hob))
    -- the dict alone, then the exception's own object
    have g1 : ∀ b, b ≠ a → (h'.update a fun _ => ({ cls := .ref C, dict := none, data := .fields #[.ref t1, .none, .none, .none, .bool false, .none] } : Obj)).get? b = h'.get? b := fun b hb => Heap.get?_update_other _ _ (Ne.symm hb)
    have g2 := Heap.get?_update_self (fun _ => ({ cls := .ref C, dict := none, data := .fields #[.ref t1, .none, .none, .none, .bool false, .none] } : Obj)) ha' rfl
    have J1 := I.laid (t' := tk') (a := hp.objs.size) (o := exd hp.objs.size [(f, y)]) (h' := h'.update a fun _ => ({ cls := .ref C, dict := none, data := .fields #[.ref t1, .none, .none, .none, .bool false, .none] } : Obj))
      (fun b o hob => by
        by_cases hb : b = a
        · subst hb
          rw [ho] at hob
          cases hob
          exact g2
        · exact (g1 b hb).trans (keep b o hb hob)) (Nat.le_refl _)
      (exd_ok (hn'.at fun o q => (g1 _ ha.symm).trans q) (relO_put (fs := []) ry fun g => True.intro))
    have ea : upd H hp.objs.size (exd hp.objs.size [(f, y)]) a = some (exo a C none) := by rw [upd_ne ha]; exact e
    have J2 := J1.write (t' := tk') (x := a) (e := a) (h' := h') (o := exo a C (some hp.objs.size)) (by rw [ea]; exact True.intro) (.inl rfl) (fun b o hb hob => (g1 b hb).symm.trans hob) ⟨_, ha'⟩ (exo_ok ha')
    exact h _ _ (I.hok.fresh (Nat.le_refl _)) ha.symm J2
theorem gst_old (T : XC X.K C B newId initId bmB) (I : Inv X pins σ H s) (e : H a = some (exo a C (some dx))) (ed : H dx = some (exd dx fs)) (hl : fs.length ≤ 900) (hno : PySem.W.findIn X.K (.ref C) f = some none) (ry : RelV y u)
    (h : ∀ s', Inv X pins σ (upd H dx (exd dx ((f, y) :: fs))) s' → Q () s') : wpAny (model X.prog X.w) A (setAttr (.ref a) f u) Q E s := by
  obtain ⟨cd, hcl, hdc⟩ := cls_of T
  obtain ⟨t1, ho⟩ := exo_at I.hok e
  obtain ⟨mA, hns, rel⟩ := exd_at I.hok ed
  have hw := within_of rel
  obtain ⟨hp, g, d, t, os⟩ := s
  obtain ⟨oD, _, _, hoD, _, _⟩ := hns.count hw
  have hcls : PySem.W.Looks (model X.prog X.w) hp (classData C) cd := PySem.W.looks_clsIn I.kIn hcl
  have IA : PySem.W.InstAt hp a { cls := .ref C, dict := some dx, data := .fields #[.ref t1, .none, .none, .none, .bool false, .none] } C (some oD) := ⟨ho, rfl, rfl, hoD⟩
  refine PySem.W.set_plain I.kIn IA T.sa ?_
  refine PySem.W.osa_openX T.S I.kIn IA T.ovr (r := none) (by unfold PySem.W.takerIn; rw [hno]; rfl) fun b => ?_
  show wpAny _ _ (Builtin.ObjectAttr.storeInOwnDict (.ref a) (.ref C) (.str f _) f u b) _ _ _
  obtain ⟨nm, bs, mro, ns, qn, hd, sn, sb, ab, col, del⟩ := cd
  dsimp only at hdc
  subst hdc
  unfold Builtin.ObjectAttr.storeInOwnDict Builtin.ObjectAttr.ownDictForStores
  have hz : (fs.map (·.1)).length ≤ 1000 := by rw [List.length_map]; omega
  repeat (first | with_reducible refine PySem.OEX.store_in_old hns hw hz ?_ | with_reducible refine wpAny_loadPart_at ho ?_ | with_reducible refine hcls.at ?_ | wp_step)
  intro h' tk' hn' hs
  have hd : ∃ o, h'.get? dx = some o := by
    obtain ⟨o, _, _, e', _⟩ := hn'
    exact ⟨o, e'⟩
  exact h _ (I.write (t' := tk') (x := dx) (e := dx) (o := exd dx ((f, y) :: fs)) (by rw [ed]; exact True.intro) (.inl rfl) (fun b o hb hob => (hs.2 b hb).trans hob) hd (exd_ok hn' (relO_put ry rel)))
end
/-! ### readings and rules -/
/-- self.f = e, self an exception that is made or stands -/
def tGst (K : PySem.W.Frag) (f : Str) (to te : TE) : TS := fun D σ H => te σ H fun y H1 => to σ H1 fun x H2 => ∃ (a C : Addr) (B newId initId : String) (bmB : List Value), x = .ref a ∧ XC K C B newId initId bmB ∧ PySem.W.findIn K (.ref C) f = some none ∧
  ((H2 a = some (exo a C none) ∧ ∀ dx, H2 dx = none → dx ≠ a → D.nx σ (upd (upd H2 dx (exd dx [(f, y)])) a (exo a C (some dx)))) ∨
    ∃ (dx : Addr) (fs : List (Str × V)), H2 a = some (exo a C (some dx)) ∧ H2 dx = some (exd dx fs) ∧ fs.length ≤ 900 ∧ D.nx σ (upd H2 dx (exd dx ((f, y) :: fs))))
/-- C(e, ..) as a value -/
def tGmk (C : Addr) (sp : Sp) (gV : List V → List V) (ta : TA) : TE := fun σ H Q => ta σ H fun vs H1 => vs.length ≤ 1000 ∧ ∀ a, H1 a = none → sp (.ref a :: gV vs) (upd H1 a (exo a C none)) (fun v H2 => v = .non ∧ Q (.ref a) H2) E0
/-- e.f of an exception that is tracked -/
structure XF (K : PySem.W.Frag) (C : Addr) : Prop where
  x : XfC K C
  i : ExcC K C
def tGf (K : PySem.W.Frag) (f : Str) (te : TE) : TE := fun σ H Q => te σ H fun x H1 => ∃ (a C d : Addr) (fs : List (Str × V)) (v : V), x = .ref a ∧ XF K C ∧ PySem.W.findIn K (.ref C) f = some none ∧ H1 a = some (exo a C (some d)) ∧ H1 d = some (exd d fs) ∧ fs.lookup f = some v ∧ Q v H1
def rIsX (K : PySem.W.Frag) : List V → Hp → VK → Prop := fun xs H Q => ∃ (a C d : Addr) (fs : List (Str × V)) (c : V) (cv : Value) (b : Bool), xs = [.ref a, c] ∧ ClsV c cv ∧ H a = some (exo a C (some d)) ∧ H d = some (exd d fs) ∧ XF K C ∧ PySem.W.kitOne K (.ref C) cv = some b ∧ Q (.bl b) H
section
variable {X : Cx} {o e : Expr} {es : List Expr} {to te : TE} {ta : TA} {f : Str} {p p' pos : Pos}
theorem ps_gst (ho : PE X o to) (he : PE X e te) (hs : swapsWith e (some (.Attribute o f p')) pos.line X.env = pure false := by rfl) : PS X (.Assign [.Attribute o f p'] e pos) (tGst X.K f to te) where
  run := fun pins s σ H D I h => plainObj_wpAny_Assign_Attribute (thn (he.run pins s σ H _ I h) fun v s1 ⟨y, H1, I1, r1, q1⟩ => thn (ho.run pins s1 σ H1 _ I1 q1) fun u s2 hh => by
    obtain ⟨x, H2, I2, r2, a, C, B, nI, iI, bmB, ex, T, hno, q⟩ := hh
    subst ex
    obtain rfl : u = Value.ref a := r2
    rcases q with ⟨ea, q⟩ | ⟨dx, fs, ea, ed, hl, q⟩
    · exact gst_new T I2 ea hno r1 fun dx s' n ne J => ⟨σ, _, J, q dx n ne⟩
    · exact gst_old T I2 ea ed hl hno r1 fun s' J => ⟨σ, _, J, q⟩) hs
theorem pe_gf (he : PE X e te) (hb : attributeBase e f X.env (eval e X.env) = eval e X.env := by rfl) : PE X (.Attribute e f pos) (tGf X.K f te) where
  run := fun pins s σ H Q I h => attr_of hb (thn (he.run pins s σ H _ I h) fun u s1 hh => by
    obtain ⟨x, H1, I1, rx, a, C, d, fs, v, ex, T, hno, ea, ed, l, q⟩ := hh
    subst ex
    obtain rfl : u = Value.ref a := rx
    obtain ⟨t1, ho⟩ := exo_at I1.hok ea
    obtain ⟨mA, hns, rel⟩ := exd_at I1.hok ed
    obtain ⟨od, hod, hl⟩ := lookIn_ns hns
    obtain ⟨u, hu, ru⟩ := RelO.some_of (v := v) (o := mA f) (by rw [← l]; exact rel f)
    have J : PySem.W.InstAt s1.heap a _ C (some od) := ⟨ho, rfl, rfl, hod⟩
    exact HandSPX.exc_get I1.kIn J T.x.ga T.x.gg T.x.exC (PySem.W.findObj_own T.x.hdC hno rfl (by rw [hl, hu])) (handed_of ru) ⟨v, H1, I1.tok _, ru, q⟩)
theorem some_dict {K : PySem.W.Frag} {C : Addr} (h : PySem.W.hasDictIn K C = true) : (PySem.W.clsIn K C).isSome = true := by
  unfold PySem.W.hasDictIn at h
  cases e : PySem.W.clsIn K C with
  | none => rw [e] at h; cases h
  | some _ => rfl
theorem call_isX : CallR X (.builtin "isinstance") (rIsX X.K) := by
  intro pins s σ H xs us Q I r h
  obtain ⟨a, C, d, fs, c, cv, b, rfl, hcv, ea, ed, T, e, q⟩ := h
  obtain ⟨u1, u2, rfl, r1, r2⟩ := vals2 r
  obtain rfl : u1 = Value.ref a := r1
  have ec := hcv.eq r2
  subst ec
  obtain ⟨t1, ho⟩ := exo_at I.hok ea
  obtain ⟨mA, hns, rel⟩ := exd_at I.hok ed
  obtain ⟨od, hod, hl⟩ := lookIn_ns hns
  have J : PySem.W.InstAt s.heap a _ C (some od) := ⟨ho, rfl, rfl, hod⟩
  exact PySem.W.kia_one (PySem.W.kitx_exc (some_dict T.i.hd) T.i.hg T.i.hk T.i.hs T.i.ha T.i.hn T.i.ht T.i.hm) I.kIn J e (fun z => nomatch z) fun tk => ⟨.bl b, H, I.tok tk, rfl, q⟩
end
end Rd
set_option maxHeartbeats 1000000
namespace PySem
namespace RdK
open Builtin Builtin.ObjectAttr HandSPX
section
variable {M : Model} {A : Around} {E : Value → Shared → Prop} {h : Heap} {g : Array GenState} {d : Drawn} {t : Nat} {os : OsState}
variable {nm q : Str} {C N : Addr} {bs bm bmB : List Value} {hdct : Bool} {sn : List Str} {sub : List Value} {ab : Bool} {col : Option Bool} {dd : Option Addr} {k0 k1 k2 k3 k5 : Option Value} {B newId initId : String} {kw : List (Str × Value)}
theorem chk_newK (F : ExcBaseFacts B newId initId bmB) (hT : ∀ X : String, bm.contains (.type X) = bmB.contains (.type X)) {Q : Unit → Shared → Prop}
    (hC : h.get? C = some (excClassObj nm q C N bs bm hdct sn sub ab col dd k0 k1 k2 k3 k5 newId)) (hq : Q () ⟨h, g, d, t, os⟩) :
    wpAny M A (checkBuiltinCall newId ⟨[.ref C], kw⟩) Q E ⟨h, g, d, t, os⟩ := by
  have hcont : (Value.ref C :: bm).contains (.type B) = true := by rw [List.contains_cons, hT, F.hasB, Bool.or_true]
  have hstar := F.noStar
  simp only [checkBuiltinCall, F.newKind, F.newSplit, F.newRow]
  repeat (first
    | refine wpAny_loadPart_at hC ?_
    | (refine wpAny_isSubtype_exc hC ?_; rw [hcont])
    | refine wpAny_staticBase_exc hC ?_
    | refine wpAny_madeBy_exc hC ?_
    | simp only [bne_self_eq_false, Bool.false_eq_true, if_false]
    | wp_step)
  exact hq
end
section
variable {prog : Program} {w : World} {A : Around} {E : Value → Shared → Prop} {R : Result → Shared → Prop} {h : Heap} {g : Array GenState} {d : Drawn} {t : Nat} {os : OsState}
variable {nm q : Str} {C N : Addr} {bs bm bmB : List Value} {hdct : Bool} {sn : List Str} {sub : List Value} {ab : Bool} {col : Option Bool} {dd : Option Addr} {k0 k1 k2 k3 k5 : Option Value} {B newId initId : String} {kw : List (Str × Value)}
theorem newK (F : ExcBaseFacts B newId initId bmB) (hT : ∀ X : String, bm.contains (.type X) = bmB.contains (.type X))
    (hC : h.get? C = some (excClassObj nm q C N bs bm hdct sn sub ab col dd k0 k1 k2 k3 k5 newId))
    (hq : R (.ok (.ret (.ref (h.objs.size + 1)))) ⟨(h.push (PySem.W.kdv_tup [])).push (PySem.HandSPX.excO C h.objs.size), g, d, t, os⟩) :
    codeAny (model prog w) A (.builtin newId ⟨[.ref C], kw⟩) R ⟨h, g, d, t, os⟩ := by
  have hends := F.ends
  have c1 : (Value.ref C :: bm).contains (.type B) = true := by rw [List.contains_cons, hT, F.hasB, Bool.or_true]
  have c2 : (Value.ref C :: bm).contains (.type "AttributeError") = false := by rw [List.contains_cons, hT, F.noAttr]; rfl
  have c3 : (Value.ref C :: bm).contains (.type "NameError") = false := by rw [List.contains_cons, hT, F.noName]; rfl
  refine codeAny_builtinAt F.entry ?_
  unfold Builtin.«BaseException.__new__»
  refine wpAt_bind ?_
  show wpAt _ _ _ (stack >>= _) _ _ _
  refine wpAt_bind (wpAt_stack fun p below => wpAt_of_wpAny ?_)
  wp_walk
  refine wpAt_of_wpAny ?_
  rw [F.owner]
  repeat (first
    | with_reducible refine wpAny_madeHere_exc F.canon hC ?_
    | with_reducible refine wpAny_loadPart_at hC ?_
    | (with_reducible refine wpAny_isSubtype_exc hC ?_; first | rw [c1] | rw [c2] | rw [c3])
    | wp_step)
  show R _ _
  rw [Heap.size_push]
  exact hq
theorem tcallK (F : ExcBaseFacts B newId initId bmB) (hT : ∀ X : String, bm.contains (.type X) = bmB.contains (.type X)) {fI : Addr} {Q : Fin → Shared → Prop}
    (hC : h.get? C = some (excClassObj nm q C N bs bm hdct sn sub ab col dd k0 k1 k2 k3 k5 newId))
    (hi : W.Looks (model prog w) h (typeLookup (.ref C) "__init__") (some (.ref fI))) (hb : ∀ self, W.Looks (model prog w) h (bindSpecial (.ref fI) self) (.ref fI, [self]))
    (hq : codeAny (model prog w) A (.call (.ref fI) ⟨[.ref (h.objs.size + 1)], kw⟩) (fun r s' => match r with | .ok (.ret v) => v = .none ∧ Q (.done (.ret (.ref (h.objs.size + 1)))) s' | .ok _ => False | .error e => E e s')
      ⟨(h.push (W.kdv_tup [])).push (excO C h.objs.size), g, d, t, os⟩) :
    wpAny (model prog w) A (Builtin.«type.__call__» ⟨[.ref C], kw⟩) Q E ⟨h, g, d, t, os⟩ := by
  repeat (first
    | with_reducible refine wpAny_loadPart_at hC ?_
    | with_reducible refine wpAny_madeBy_exc hC ?_
    | wp_step)
  refine codeAny_call_builtin_code (Code.quiet_builtin _ F.quiet) (chk_newK F hT hC ?_)
  refine newK F hT hC ?_
  show wpAny _ _ _ _ _ _
  have kk : ∀ b o, h.get? b = some o → ((h.push (W.kdv_tup [])).push (excO C h.objs.size)).get? b = some o := fun b o e => Heap.get?_push_of_some _ (Heap.get?_push_of_some _ e)
  have hC₁ := kk _ _ hC
  have he : ((h.push (W.kdv_tup [])).push (excO C h.objs.size)).get? (h.objs.size + 1) = some (excO C h.objs.size) := by heap_get
  have hcC : (Value.ref C :: bm).contains (.ref C) = true := by simp
  have i1 := hi.keeps kk
  have b1 := (hb (.ref (h.objs.size + 1))).keeps kk
  unfold isInstance
  repeat (first
    | with_reducible refine wpAny_loadPart_at he ?_
    | (with_reducible refine wpAny_isSubtype_exc hC₁ ?_; rw [hcC])
    | wp_step)
  show wpAny _ _ (typeLookup (.ref C) _) _ _ _
  refine i1.at (wpAny_holding (wpAny_bind (b1.at (wpAny_bind (wpAny_call (codeAny_mono hq fun r s' z => ?_))))))
  rcases r with e | (v | _ | _ | _) <;> first | exact z | exact z.elim | skip
  obtain ⟨rfl, z⟩ := z
  first
    | exact wpAny_pure (wpAny_pure z)
    | (wp_walk; exact z)
theorem ccallK (F : ExcBaseFacts B newId initId bmB) (hT : ∀ X : String, bm.contains (.type X) = bmB.contains (.type X)) {fI : Addr}
    (hC : h.get? C = some (excClassObj nm q C N bs bm hdct sn sub ab col dd k0 k1 k2 k3 k5 newId))
    (hi : W.Looks (model prog w) h (typeLookup (.ref C) "__init__") (some (.ref fI))) (hb : ∀ self, W.Looks (model prog w) h (bindSpecial (.ref fI) self) (.ref fI, [self]))
    (hq : codeAny (model prog w) (A.under (.builtin "type.__call__" ⟨[.ref C], kw⟩)) (.call (.ref fI) ⟨[.ref (h.objs.size + 1)], kw⟩) (W.InitBack (h.objs.size + 1) R)
      ⟨(h.push (W.kdv_tup [])).push (excO C h.objs.size), g, d, t, os⟩) :
    codeAny (model prog w) A (.call (.ref C) ⟨[], kw⟩) R ⟨h, g, d, t, os⟩ := by
  have f1 := tc_lookup
  have f2 := tc_bind (.ref C)
  have hTy : (⟨h, g, d, t, os⟩ : Shared).TypeIs (.ref C) "type" := ⟨_, hC, rfl⟩
  refine codeAny_of_tree ?_
  show wpAny _ _ (callAny (.ref C) _) _ _ _
  repeat (any_goals (first
    | assumption
    | with_reducible refine wpAny_loadPart_at hC ?_
    | wp_step))
  refine ⟨rfl, ?_⟩
  show codeAny (model prog w) A (.call (.builtin "type.__call__") ⟨[.ref C], kw⟩) R _
  refine codeAny_call_builtin_at (Code.quiet_builtin _ (by decide +kernel)) entry_typeCall (wpAny_check_type_call_sub hC (tcallK F hT hC hi hb ?_))
  exact codeAny_mono hq fun r s' z => by rcases r with e | (v | _ | _ | _) <;> exact z
end
end RdK
end PySem
set_option maxHeartbeats 1000000
namespace Rd
open PySem PySem.Spec PyProof.Rows L2
/-! ## an own exception is made: by position, by keywords, as a value, to be raised -/
/-- what is asked of the class's own __init__ -/
structure XI (X : Cx) (CX : CXT) (k : Nat) (C : Addr) (fI : Addr) (fd : FuncData) (ps : List Str) (sp : Sp) : Prop where
  iC : PySem.W.findIn X.K (.ref C) "__init__" = some (some (.ref fI))
  tI : PySem.W.typeIn X.K (.ref fI) = some (.type "function")
  F : FnOk X.prog X.w X.K X.mg X.base CX k fI fd ps sp
def MkQ (sp : Sp) (C : Addr) (f : V → List V) (H1 : Hp) (Q : VK) : Prop := ∀ a, H1 a = none → sp (f (.ref a)) (upd H1 a (exo a C none)) (fun v H2 => v = .non ∧ Q (.ref a) H2) E0
section
variable {X : Cx} {CX : CXT} {pins : List (Addr × Obj)} {σ : L2.St} {H1 : Hp} {s1 : Shared} {C fI : Addr} {k : Nat} {fd : FuncData} {ps ks : List Str} {sp : Sp} {Q : VK} {B newId initId : String} {bmB : List Value} {us ws : List Value} {vs zs : List V} {g : List Value → List Value → List Value} {gV : List V → List V → List V}
theorem mk_pos (T : XC X.K C B newId initId bmB) (N : XI X CX k C fI fd ps sp) (hr : Room (k + 1) X.A) (hb : Binds X.K fd ps []) (hx : Passes CX X E0) (I1 : Inv X pins σ H1 s1) (r1 : Vals vs us) (hz : vs.length ≤ 1000) (q1 : MkQ sp C (fun a => a :: vs) H1 Q) :
    wpAny (model X.prog X.w) X.A (call (.ref C) us) (EP X pins σ Q) X.xe s1 := by
  obtain ⟨nm, N', qn, bs, bm, hdct, sn, sub, ab, col, dd, k0, k1, k2, k3, k5, hC, hT⟩ := PySem.W.excInit_of I1.kIn T.ini
  obtain ⟨hp, g, dr, tk, os⟩ := s1
  have hsz : hp.objs.size ≤ hp.objs.size + 1 := Nat.le_succ _
  have hn : H1 (hp.objs.size + 1) = none := I1.hok.fresh hsz
  have hq := q1 (hp.objs.size + 1) hn
  have kk : ∀ b o, hp.get? b = some o → ((hp.push (PySem.W.kdv_tup us)).push (PySem.HandSPX.excO C hp.objs.size)).get? b = some o := fun b o e => Heap.get?_push_of_some _ (Heap.get?_push_of_some _ e)
  have hget : ((hp.push (PySem.W.kdv_tup us)).push (PySem.HandSPX.excO C hp.objs.size)).get? (hp.objs.size + 1) = some (PySem.HandSPX.excO C hp.objs.size) := by heap_get
  have I2 : Inv X pins σ (upd H1 (hp.objs.size + 1) (exo (hp.objs.size + 1) C none)) ⟨(hp.push (PySem.W.kdv_tup us)).push (PySem.HandSPX.excO C hp.objs.size), g, dr, tk, os⟩ :=
    I1.laid (t' := tk) (a := hp.objs.size + 1) (o := exo (hp.objs.size + 1) C none) (h' := (hp.push (PySem.W.kdv_tup us)).push (PySem.HandSPX.excO C hp.objs.size)) kk hsz (exo_ok hget)
  have r2 : Vals (V.ref (hp.objs.size + 1) :: vs) ((Value.ref (hp.objs.size + 1) :: us) ++ []) := by rw [List.append_nil]; exact .cons rfl r1
  have hl : (Value.ref (hp.objs.size + 1) :: us ++ []).length = ps.length := by
    have e := r2.length
    rw [N.F.len _ _ _ _ hq] at e
    exact e.symm
  have hus : us.length ≤ sizeLine := by
    rw [← Paired.length r1, sizeLine_eq]
    omega
  refine wpAny_call (PySem.HandSPX.call_own T.F hT hC (PySem.W.looks_findIn I1.kIn N.iC) (fun self => PySem.W.bind_fn I1.kIn self N.tI) hus
    (codeAny_mono (N.F.run _ X.stack _ _ ⟨Value.ref (hp.objs.size + 1) :: us, []⟩ ((Value.ref (hp.objs.size + 1) :: us) ++ []) _ _ E0 (hr.make C us []) (I2.env0.make C us []) (hb _ (Value.ref (hp.objs.size + 1) :: us) I2.kIn hl) r2 hq) fun r s' hq' => ?_))
  cases r with
  | error er => exact hx pins σ _ _ er s' I2 hq'
  | ok fl =>
    cases fl with
    | ret u =>
      obtain ⟨v, H2, J, rv, ev, q⟩ := I2.after hq'
      subst ev
      exact ⟨rv, .ref _, H2, J, rfl, q⟩
    | next => exact False.elim hq'
    | brk => exact False.elim hq'
    | cont => exact False.elim hq'
theorem mk_kw (T : XC X.K C B newId initId bmB) (N : XI X CX k C fI fd ps sp) (hr : Room (k + 1) X.A) (hb : KBn X.K fd ps 1 ks g gV) (hx : Passes CX X E0) (I1 : Inv X pins σ H1 s1) (r1 : Vals zs ws) (hz : zs.length = ks.length) (q1 : MkQ sp C (fun a => gV [a] zs) H1 Q) :
    wpAny (model X.prog X.w) X.A (call (.ref C) [] (ks.zip ws)) (EP X pins σ Q) X.xe s1 := by
  obtain ⟨nm, N', qn, bs, bm, hdct, sn, sub, ab, col, dd, k0, k1, k2, k3, k5, hC, hT⟩ := PySem.W.excInit_of I1.kIn T.ini
  obtain ⟨hp, g', dr, tk, os⟩ := s1
  have hsz : hp.objs.size ≤ hp.objs.size + 1 := Nat.le_succ _
  have hn : H1 (hp.objs.size + 1) = none := I1.hok.fresh hsz
  have hq := q1 (hp.objs.size + 1) hn
  have kk : ∀ b o, hp.get? b = some o → ((hp.push (PySem.W.kdv_tup [])).push (PySem.HandSPX.excO C hp.objs.size)).get? b = some o := fun b o e => Heap.get?_push_of_some _ (Heap.get?_push_of_some _ e)
  have hget : ((hp.push (PySem.W.kdv_tup [])).push (PySem.HandSPX.excO C hp.objs.size)).get? (hp.objs.size + 1) = some (PySem.HandSPX.excO C hp.objs.size) := by heap_get
  have I2 : Inv X pins σ (upd H1 (hp.objs.size + 1) (exo (hp.objs.size + 1) C none)) ⟨(hp.push (PySem.W.kdv_tup [])).push (PySem.HandSPX.excO C hp.objs.size), g', dr, tk, os⟩ :=
    I1.laid (t' := tk) (a := hp.objs.size + 1) (o := exo (hp.objs.size + 1) C none) (h' := (hp.push (PySem.W.kdv_tup [])).push (PySem.HandSPX.excO C hp.objs.size)) kk hsz (exo_ok hget)
  have r2 := hb.rel (vs := [V.ref (hp.objs.size + 1)]) (us := [Value.ref (hp.objs.size + 1)]) (.cons rfl .nil) r1
  refine wpAny_call (PySem.RdK.ccallK T.F hT hC (PySem.W.looks_findIn I1.kIn N.iC) (fun self => PySem.W.bind_fn I1.kIn self N.tI)
    (codeAny_mono (N.F.run _ X.stack _ _ ⟨[Value.ref (hp.objs.size + 1)], ks.zip ws⟩ (g [Value.ref (hp.objs.size + 1)] ws) _ _ E0 (hr.make C [] (ks.zip ws)) (I2.env0.make C [] (ks.zip ws)) (hb.to _ [Value.ref (hp.objs.size + 1)] ws I2.kIn rfl (r1.length.symm.trans hz)) r2 hq) fun r s' hq' => ?_))
  cases r with
  | error er => exact hx pins σ _ _ er s' I2 hq'
  | ok fl =>
    cases fl with
    | ret u =>
      obtain ⟨v, H2, J, rv, ev, q⟩ := I2.after hq'
      subst ev
      exact ⟨rv, .ref _, H2, J, rfl, q⟩
    | next => exact False.elim hq'
    | brk => exact False.elim hq'
    | cont => exact False.elim hq'
/-- C(e, ..) to be raised: as a value, then its object is let go -/
theorem mk_raise (T : XC X.K C B newId initId bmB) (hR : Raises X (.ref C)) (N : XI X CX k C fI fd ps sp) (hr : Room (k + 1) X.A) (hb : Binds X.K fd ps []) (hx : Passes CX X E0) (I1 : Inv X pins σ H1 s1) (r1 : Vals vs us) (hz : vs.length ≤ 1000) {Q : XK}
    (q1 : MkQ sp C (fun a => a :: vs) H1 (fun v H2 => ∃ (a d : Addr) (fs : List (Str × V)), v = .ref a ∧ H2 a = some (exo a C (some d)) ∧ H2 d = some (exd d fs) ∧ H1 d = none ∧ Q (.ref C) (some d) (upd (del H2 a) d (.xd fs)))) :
    wpAny (model X.prog X.w) X.A (call (.ref C) us) (MkP X pins σ Q) X.xe s1 := by
  obtain ⟨nm, N', qn, bs, bm, hdct, sn, sub, ab, col, dd, k0, k1, k2, k3, k5, hC, hT⟩ := PySem.W.excInit_of I1.kIn T.ini
  obtain ⟨hp, g, dr, tk, os⟩ := s1
  have hsz : hp.objs.size ≤ hp.objs.size + 1 := Nat.le_succ _
  have hn : H1 (hp.objs.size + 1) = none := I1.hok.fresh hsz
  have hq := q1 (hp.objs.size + 1) hn
  have kk : ∀ b o, hp.get? b = some o → ((hp.push (PySem.W.kdv_tup us)).push (PySem.HandSPX.excO C hp.objs.size)).get? b = some o := fun b o e => Heap.get?_push_of_some _ (Heap.get?_push_of_some _ e)
  have hget : ((hp.push (PySem.W.kdv_tup us)).push (PySem.HandSPX.excO C hp.objs.size)).get? (hp.objs.size + 1) = some (PySem.HandSPX.excO C hp.objs.size) := by heap_get
  have I2 : Inv X pins σ (upd H1 (hp.objs.size + 1) (exo (hp.objs.size + 1) C none)) ⟨(hp.push (PySem.W.kdv_tup us)).push (PySem.HandSPX.excO C hp.objs.size), g, dr, tk, os⟩ :=
    I1.laid (t' := tk) (a := hp.objs.size + 1) (o := exo (hp.objs.size + 1) C none) (h' := (hp.push (PySem.W.kdv_tup us)).push (PySem.HandSPX.excO C hp.objs.size)) kk hsz (exo_ok hget)
  have r2 : Vals (V.ref (hp.objs.size + 1) :: vs) ((Value.ref (hp.objs.size + 1) :: us) ++ []) := by rw [List.append_nil]; exact .cons rfl r1
  have hl : (Value.ref (hp.objs.size + 1) :: us ++ []).length = ps.length := by
    have e := r2.length
    rw [N.F.len _ _ _ _ hq] at e
    exact e.symm
  have hus : us.length ≤ sizeLine := by
    rw [← Paired.length r1, sizeLine_eq]
    omega
  refine wpAny_call (PySem.HandSPX.call_own T.F hT hC (PySem.W.looks_findIn I1.kIn N.iC) (fun self => PySem.W.bind_fn I1.kIn self N.tI) hus
    (codeAny_mono (N.F.run _ X.stack _ _ ⟨Value.ref (hp.objs.size + 1) :: us, []⟩ ((Value.ref (hp.objs.size + 1) :: us) ++ []) _ _ E0 (hr.make C us []) (I2.env0.make C us []) (hb _ (Value.ref (hp.objs.size + 1) :: us) I2.kIn hl) r2 hq) fun r s' hq' => ?_))
  cases r with
  | error er => exact hx pins σ _ _ er s' I2 hq'
  | ok fl =>
    cases fl with
    | ret u =>
      obtain ⟨v, H2, os2, bare2, un2, hok2, rv, ev, a, d, fs, ea0, ea, ed, hd1, q2⟩ := hq'
      subst ev
      cases ea0
      obtain ⟨h2, g2, d2, t2, os'⟩ := s'
      exact ⟨rv, mk_end hR I1 hsz kk un2 hok2 os2 bare2 ea ed hd1 q2⟩
    | next => exact False.elim hq'
    | brk => exact False.elim hq'
    | cont => exact False.elim hq'
end
/-! ### readings -/
def tMkV (C : Addr) (sp : Sp) (ta : TA) : TE := fun σ H Q => ta σ H fun vs H1 => vs.length ≤ 1000 ∧ MkQ sp C (fun a => a :: vs) H1 Q
def tMkK (C : Addr) (m : Nat) (sp : Sp) (gV : List V → List V → List V) (tk : TA) : TE := fun σ H Q => tk σ H fun zs H1 => zs.length = m ∧ MkQ sp C (fun a => gV [a] zs) H1 Q
def tMkR (C : Addr) (sp : Sp) (ta : TA) : L2.St → Hp → XK → Prop := fun σ H Q => ta σ H fun vs H1 => vs.length ≤ 1000 ∧
  MkQ sp C (fun a => a :: vs) H1 (fun v H2 => ∃ (a d : Addr) (fs : List (Str × V)), v = .ref a ∧ H2 a = some (exo a C (some d)) ∧ H2 d = some (exd d fs) ∧ H1 d = none ∧ Q (.ref C) (some d) (upd (del H2 a) d (.xd fs)))
section
variable {X : Cx} {CX : CXT} {x : Str} {e : Expr} {es : List Expr} {kws : List Keyword} {ta tk : TA} {p pos : Pos} {C fI : Addr} {k : Nat} {fd : FuncData} {ps ks : List Str} {sp : Sp} {B newId initId : String} {bmB : List Value} {g : List Value → List Value → List Value} {gV : List V → List V → List V}
theorem pe_mkV (T : XC X.K C B newId initId bmB) (N : XI X CX k C fI fd ps sp) (hr : Room (k + 1) X.A) (hb : Binds X.K fd ps []) (hx : Passes CX X E0) (hg : Gl X x) (hm : X.mg x = some (.ref C)) (ha : PA X (e :: es) ta)
    (hdb : (x == ("__debug__" : Str)) = false := by decide) (he : starEach (e :: es) X.env = (false, eval e X.env) :: starEach es X.env := by rfl) (hpl : (backTo pos (starEach es X.env)).any (·.1) = false := by rfl) :
    PE X (.Call (.Name x p) (e :: es) [] pos) (tMkV C sp ta) := by
  refine ⟨fun pins s σ H Q I h => ?_⟩
  refine wpAny_Call_Name_kw (ld_glob I hg hm ?_ hdb)
  exact PySem.W.callWith_K (h₀ := X.base) I.ok.mod.kin T.kC (thn (ha.run pos pins s σ H _ I h) fun us s1 ⟨vs, H1, I1, r1, hz, q1⟩ => ⟨I1.kIn, mk_pos T N hr hb hx I1 r1 hz q1⟩) he hpl
theorem pe_mkV0 (T : XC X.K C B newId initId bmB) (N : XI X CX k C fI fd ps sp) (hr : Room (k + 1) X.A) (hb : Binds X.K fd ps []) (hx : Passes CX X E0) (hg : Gl X x) (hm : X.mg x = some (.ref C))
    (hdb : (x == ("__debug__" : Str)) = false := by decide) : PE X (.Call (.Name x p) [] [] pos) (tMkV C sp tNil) := by
  refine ⟨fun pins s σ H Q I h => ?_⟩
  refine wpAny_Call_Name_kw (ld_glob I hg hm ?_ hdb)
  obtain ⟨hz, q1⟩ := h
  exact PySem.W.callWith_K0 I.kIn T.kC (mk_pos (us := []) (vs := []) T N hr hb hx I .nil hz q1)
theorem pe_mkK (T : XC X.K C B newId initId bmB) (N : XI X CX k C fI fd ps sp) (hr : Room (k + 1) X.A) (hb : KBn X.K fd ps 1 ks g gV) (hx : Passes CX X E0) (hg : Gl X x) (hm : X.mg x = some (.ref C)) (hkw : PK X kws tk)
    (hall : (backToKw pos (keywordEach kws X.env)).all (·.1.isSome) = true := by rfl) (hks : (backToKw pos (keywordEach kws X.env)).filterMap (·.1) = ks := by rfl) (hdb : (x == ("__debug__" : Str)) = false := by decide)
    (hpl : ((backTo pos (starEach [] X.env)).any (·.1) || (backToKw pos (keywordEach kws X.env)).any (·.1.isNone)) = false := by rfl) :
    PE X (.Call (.Name x p) [] kws pos) (tMkK C ks.length sp gV tk) where
  run := fun pins s σ H Q I h => wpAny_Call_Name_kw (ld_glob I hg hm (PySem.W.callWith_KW0 (h₀ := X.base) I.ok.mod.kin T.kC hall
    (thn (hkw.run pos pins s σ H _ I h) fun ws s2 ⟨zs, H2, I2, rz, l2, q2⟩ => ⟨I2.kIn, by rw [hks]; exact mk_kw T N hr hb hx I2 rz l2 q2⟩) hpl) hdb)
theorem pmk_V (T : XC X.K C B newId initId bmB) (hR : Raises X (.ref C)) (N : XI X CX k C fI fd ps sp) (hr : Room (k + 1) X.A) (hb : Binds X.K fd ps []) (hx : Passes CX X E0) (hg : Gl X x) (hm : X.mg x = some (.ref C)) (ha : PA X (e :: es) ta)
    (hdb : (x == ("__debug__" : Str)) = false := by decide) (he : starEach (e :: es) X.env = (false, eval e X.env) :: starEach es X.env := by rfl) (hpl : (backTo pos (starEach es X.env)).any (·.1) = false := by rfl) :
    PMk X (.Call (.Name x p) (e :: es) [] pos) (tMkR C sp ta) := by
  intro pins s σ H Q I h
  refine wpAny_Call_Name_kw (ld_glob I hg hm ?_ hdb)
  exact PySem.W.callWith_K (h₀ := X.base) I.ok.mod.kin T.kC (thn (ha.run pos pins s σ H _ I h) fun us s1 ⟨vs, H1, I1, r1, hz, q1⟩ => ⟨I1.kIn, mk_raise T hR N hr hb hx I1 r1 hz q1⟩) he hpl
theorem pmk_V0 (T : XC X.K C B newId initId bmB) (hR : Raises X (.ref C)) (N : XI X CX k C fI fd ps sp) (hr : Room (k + 1) X.A) (hb : Binds X.K fd ps []) (hx : Passes CX X E0) (hg : Gl X x) (hm : X.mg x = some (.ref C))
    (hdb : (x == ("__debug__" : Str)) = false := by decide) : PMk X (.Call (.Name x p) [] [] pos) (tMkR C sp tNil) := by
  intro pins s σ H Q I h
  refine wpAny_Call_Name_kw (ld_glob I hg hm ?_ hdb)
  obtain ⟨hz, q1⟩ := h
  exact PySem.W.callWith_K0 I.kIn T.kC (mk_raise (us := []) (vs := []) T hR N hr hb hx I .nil hz q1)
end
end Rd
set_option maxHeartbeats 4000000
namespace L2N
open PySem PySem.Spec PyProof.Rows L2
/-! ## except (A, B, C) as n -/
theorem flying_push {B h : Heap} {l : List Env} {a : Addr} {Z : Obj → Prop} (x : HandSPX.FlyingZ B l a Z h) (o : Obj) : HandSPX.FlyingZ B l a Z (h.push o) := by
  obtain ⟨k1, k2, k3, oe, vs, T, oT, ts, he, hz, hd, h1, hb, hne, hT, hTd, h3⟩ := x
  have kp : ∀ b u, h.get? b = some u → (h.push o).get? b = some u := fun b u e => Heap.get?_push_of_some _ e
  exact ⟨fun b u e => kp b u (k1 b u e), k2, k3.of_keeps fun b u e _ => ⟨u, kp b u e, rfl⟩, oe, vs, T, oT, ts, kp _ _ he, hz, hd, h1, hb, hne, kp _ _ hT, hTd, h3⟩
def wTup (K : PySem.W.Frag) (cs : List Value) (i : Nat) (ts : Addr → Value → Option Addr → TS) (Wout : WX) (D : Ends) : WX := fun cls d σ H =>
  ∃ b, PySem.W.exmAny K cls cs = some b ∧ (b = true → ∀ a, H a = none → ts a cls d { nx := fun σ' H' => D.nx (σ'.set i none) H', rt := D.rt, bk := fun σ' H' => D.bk (σ'.set i none) H', ct := fun σ' H' => D.ct (σ'.set i none) H' } (σ.set i (some (.ref a))) H) ∧
    (b = false → Wout cls d σ H)
section
variable {X : Cx} {x1 x2 x3 n : Str} {c1 c2 c3 : Value} {i kk : Nat} {body suite : List Stmt} {b₀ : Stmt} {p1 p2 p3 tpos pos pos' : Pos} {tb : WX → TS} {ts : Addr → Value → Option Addr → TS} {Wout : WX}
theorem ps_try_tup3 (hs : X.stack = X.env :: X.outer) (hf : X.env.frame = some X.env.locals) (hN : X.N.Nodup) (hi : X.N[i]? = some n) (hln : X.env.kindOf n = some .local) (n1 : Names X x1 c1) (n2 : Names X x2 c2) (n3 : Names X x3 c3) (tk : Takes X Wout)
    (hb : ∀ (W : WX) (pn : List (Addr × Obj)) (xe : Value → Shared → Prop), Takes (X.tr pn xe) W → PassesOwn (model X.prog X.w) X.A X.env xe → PSs (X.tr pn xe) body (tb W))
    (hsu : ∀ (a : Addr) (oe : Obj) (cls : Value) (d : Option Addr) (pn : List (Addr × Obj)), Zn cls d oe → (∃ vs, oe.data = .fields vs) → X.base.get? a = none → PSs (X.suite a ((a, oe) :: pn)) (b₀ :: suite) (ts a cls d)) :
    PS X (.Try body [.ExceptHandler (some (.Tuple [.Name x1 p1, .Name x2 p2, .Name x3 p3] kk tpos)) (some n) (b₀ :: suite) pos'] [] [] pos) (fun D σ H => tb (wTup X.K [c1, c2, c3] i ts Wout D) D σ H) := by
  refine ⟨fun pins s σ H D I h => ?_⟩
  have ok := I.ok
  have hfr : X.A.frames = some (X.env :: X.outer) := by rw [ok.frames, hs]
  have hloc : Loc X.env.scope n := .inl hln
  refine wpAny_Try_except ?_
  refine wpAny_mono ((hb (wTup X.K [c1, c2, c3] i ts Wout D) (X.pn ++ pins) (fun e s₁ => wpAny (model X.prog X.w) X.A (noteFrame e X.env) (fun _ s₂ => wpAny (model X.prog X.w) X.A (setFlight e none) (fun _ s₃ =>
    wpAny (model X.prog X.w) X.A (handleBy e X.env [.ExceptHandler (some (.Tuple [.Name x1 p1, .Name x2 p2, .Name x3 p3] kk tpos)) (some n) (b₀ :: suite) pos']) (SP X pins D) X.xe s₃) X.xe s₂) X.xe s₁) (fun u s' xx => ?_) PassesOwn.looking).run [] s σ H D (I.toTry _) h) (fun f s1 hsp => ?_) (fun e s1 he => he)
  · obtain ⟨a, B, sI, pins', σ', H', cls, d, rfl, J', nb, up, sky, na, os, ag, b, hb1, hyes, hno⟩ := xx
    have J : Inv X pins σ' H' sI := J'.ofTry ok
    have sky' : Sky B (X.env :: X.outer) a (Zn cls d) X.env.locals s'.heap := by rw [← hs]; exact sky
    show wpAny (model X.prog X.w) X.A (noteFrame (.ref a) X.env) _ _ _
    refine Sky.land Zn.steady hfr hf sky' fun h3 fl3 up3 => ?_
    have J3 : Inv X pins σ' H' { s' with heap := h3 } := J.landed nb fl3.1 (up.trans up3) os ag
    obtain ⟨oe3, vs3, he3, hz3, hd3⟩ := fl3.there
    have notFr : ∀ {h : Heap} {o : Obj} {vs : Array Value}, h.FunFrames B (X.env :: X.outer) → h.get? a = some o → o.data = .fields vs → a ∉ frs (X.env :: X.outer) := fun {h o vs} ff e dd hm => by
      obtain ⟨_, o', e', hnf⟩ := ff.mem hm
      rw [e] at e'; cases e'
      exact hnf _ dd
    have nfr := notFr fl3.2.2.1 he3 hd3
    have nL : a ≠ X.env.locals := fun z => nfr (List.mem_filterMap.mpr ⟨X.env, List.mem_cons_self, by rw [hf, z]⟩)
    have nF : a ∉ X.fs := fun hm => by
      obtain ⟨e, he, q⟩ := List.mem_filterMap.mp hm
      exact nfr (List.mem_filterMap.mpr ⟨e, List.mem_cons_of_mem _ he, q⟩)
    have nbase : X.base.get? a = none := by
      cases e : X.base.get? a with
      | none => rfl
      | some o =>
        have h1 := nb _ _ (J.bs _ _ e).1 (by rw [hs]; exact nfr)
        rw [fl3.2.1] at h1
        cases h1
    have S3 := J3.suite he3 hd3 na nL nF
    have test : ∀ {x : Str} {c : Value} {np : Pos} (hc : Names X x c) {Q : Value → Shared → Prop} {E : Value → Shared → Prop}, Q c { s' with heap := h3 } → wpAny (model X.prog X.w) (X.A.mark (some (.ref a))) (eval (.Name x np) X.env) Q E { s' with heap := h3 } := fun {x c np} hc {Q E} q => by
      obtain ⟨hg, hdbg, hm | ⟨hm, hv, hnn⟩⟩ := hc
      · exact ld_glob (X := X.suite a ((a, oe3) :: (X.pn ++ pins))) S3 hg hm q hdbg
      · exact ld_blt (X := X.suite a ((a, oe3) :: (X.pn ++ pins))) S3 hg hm hv q hnn hdbg
    refine wpAny_handleBy_cons (codeAny_handlers_test ?_) (by intro q; cases q)
    refine Tuple_ (spliced_more (test n1 (spliced_more (test n2 (spliced_more (test n3 (spliced_none ?_)))))))
    refine wpAny_newObj_type ?_
    have fl5 := flying_push fl3 { cls := .type "tuple", dict := none, data := .seq [c1, c2, c3].toArray }
    have up5 : h3.UpToSlots (h3.push { cls := .type "tuple", dict := none, data := .seq [c1, c2, c3].toArray }) := Heap.UpToSlots.of_keeps fun b u e => Heap.get?_push_of_some _ e
    have hp : (h3.push { cls := .type "tuple", dict := none, data := .seq [c1, c2, c3].toArray }).get? h3.objs.size = some { cls := .type "tuple", data := .seq [c1, c2, c3].toArray } := Heap.get?_push_size _ rfl
    have k5 : PySem.W.Frag.In X.K (h3.push { cls := .type "tuple", dict := none, data := .seq [c1, c2, c3].toArray }) := J3.kIn.keeps fun b u e => Heap.get?_push_of_some _ e
    have he5 : (h3.push { cls := .type "tuple", dict := none, data := .seq [c1, c2, c3].toArray }).get? a = some oe3 := Heap.get?_push_of_some _ he3
    have LT : PySem.W.Looks (model X.prog X.w) (h3.push { cls := .type "tuple", dict := none, data := .seq [c1, c2, c3].toArray }) (typeOf (.ref a)) cls := fun A Q E s k q => wpAny_typeOf_ref (k _ _ he5) (by rw [hz3.1]; exact q)
    have LM := PySem.W.exm_tup3 (M := model X.prog X.w) k5 LT hp hb1
    have up35 := (up.trans up3).trans up5
    generalize (h3.push { cls := .type "tuple", dict := none, data := .seq [c1, c2, c3].toArray }) = h5 at fl5 LM up35
    refine LM.here ?_
    cases b with
    | true =>
      refine codeAny_handlers_suite_as ?_
      refine HandSPX.lands_againZ fl5 fun h4 fl4 up4 => ?_
      have J4 : Inv X pins σ' H' { s' with heap := h4 } := J.landed nb fl4.1 (up35.trans up4) os ag
      obtain ⟨oe4, vs4, he4, hz4, hd4⟩ := fl4.there
      have S4 := J4.suite he4 hd4 na nL nF
      refine store_ok (X := X.suite a ((a, oe4) :: (X.pn ++ pins))) (v := .ref a) S4 hN hi hloc rfl (fun s5 S5 => ?_) (.inr hln)
      refine wpAny_mono ((hsu a oe4 cls d (X.pn ++ pins) hz4 ⟨_, hd4⟩ nbase).run [] s5 _ H' _ S5 (hyes rfl a na)) (fun f s6 hsp => ?_) (fun _ _ z => False.elim z)
      have end_ : ∀ {σ6 : L2.St} {H6 : Hp} {Q : Shared → Prop}, Inv (X.suite a ((a, oe4) :: (X.pn ++ pins))) [] σ6 H6 s6 → (∀ s7, Inv X pins (σ6.set i none) H6 s7 → Q s7) →
          wpAny (model X.prog X.w) X.A (do bindName X.env n .none; unbindBehindTheSuite X.env n pos') (fun _ s7 => Q s7) X.xe s6 := fun {σ6 H6 Q} S6 hq => gone_ok (S6.unsuite ok) hN hi hln hq
      cases f with
      | next =>
        obtain ⟨σ6, H6, S6, q6⟩ := hsp
        exact end_ S6 fun s7 J7 => ⟨_, _, J7, q6⟩
      | brk =>
        obtain ⟨σ6, H6, S6, q6⟩ := hsp
        exact end_ S6 fun s7 J7 => ⟨_, _, J7, q6⟩
      | cont =>
        obtain ⟨σ6, H6, S6, q6⟩ := hsp
        exact end_ S6 fun s7 J7 => ⟨_, _, J7, q6⟩
      | ret u =>
        obtain ⟨v6, σ6, H6, S6, r6, q6⟩ := hsp
        exact end_ S6 fun s7 J7 => ⟨_, _, _, J7, r6, q6⟩
    | false =>
      show wpAny _ X.A (handleBy (.ref a) X.env []) _ _ _
      refine wpAny_handleBy_nil ?_
      obtain ⟨k1, k2, k3, oe, vs, T, oT, ts', he, hz, hd, h1, hr⟩ := id fl5
      unfold PySem.passOn
      refine wpAny_bind (wpAny_field he hd h1 ?_)
      rw [if_neg (show ¬ ((Value.ref T == Value.none) = true) from by simp)]
      have fin : wpAny (model X.prog X.w) X.A (setFlight (.ref a) X.env.frame) (fun _ s4 => wpAny (model X.prog X.w) X.A (throw (.ref a) : Sem Flow) (SP X pins D) X.xe s4) X.xe { s' with heap := h5 } := by
        rw [hf]
        refine HandSPX.setFlight_upZ fl5 fun h4 hh4 up4 => wpAny_throw (tk _ _ ?_)
        exact ⟨a, B, sI, pins, σ', H', cls, d, rfl, J, nb, up35.trans up4, .inr (.inr (by rw [hs]; exact hh4)), na, os, ag, hno rfl⟩
      first
        | exact wpAny_bind (wpAny_pure (wpAny_bind fin))
        | exact wpAny_bind fin
  · cases f with
    | next =>
      obtain ⟨σ', H', J', q⟩ := hsp
      exact wpAny_execs_nil ⟨σ', H', J'.ofTry ok, q⟩
    | brk =>
      obtain ⟨σ', H', J', q⟩ := hsp
      exact ⟨σ', H', J'.ofTry ok, q⟩
    | cont =>
      obtain ⟨σ', H', J', q⟩ := hsp
      exact ⟨σ', H', J'.ofTry ok, q⟩
    | ret u =>
      obtain ⟨v, σ', H', J', r, q⟩ := hsp
      exact ⟨v, σ', H', J'.ofTry ok, r, q⟩
end
end L2N
set_option maxHeartbeats 2000000
namespace Rd
open PySem PySem.Spec PyProof.Rows L2 L2H HotX
/-! ## a def called in an except suite, with the handled exception (a, oe) known -/
structure FnE (P : Program) (w : World) (K : PySem.W.Frag) (mg : Str → Option Value) (base : Heap) (CX : CXT) (k : Nat) (f : Addr) (fd : FuncData) (ps : List Str) (sp : Sp) (a : Addr) (oe : Obj) : Prop where
  len : ∀ vs H Q E, sp vs H Q E → vs.length = ps.length
  run : ∀ (A : Around) (outer : List Env) (s : Shared) (H : Hp) (args : Args) (us : List Value) (vs : List V) (Q : VK) (E : XK), RoomH k A → Hot1 A (a, oe) → PinOk outer H s (a, oe) → Env0 P w K mg base A outer s H → BindsTo s fd args (ps.zip us) → Vals vs us → sp vs H Q E →
    codeAny (model P w) A (.call (.ref f) args) (CR CX outer P w H s Q E) s
section
variable {P : Program} {w : World} {K : PySem.W.Frag} {mg : Str → Option Value} {base : Heap} {CX : CXT}
theorem Fun.okE {x qual : Str} {st : Stmt} {f a : Addr} {oe : Obj} {fd : FuncData} {N ps : List Str} {k : Nat} {sp : Sp} (F : L2.Fun K x qual st f fd) (S : FnScope N ps (defScope st)) (len : ∀ vs H Q E, sp vs H Q E → vs.length = ps.length)
    (hbody : ∀ (cdv : Value) (A : Around) (outer : List Env) (s : Shared) (H : Hp) (vs : List V) (Q : VK) (E : XK), Hot1 A (a, oe) → RoomH k (A.deeper (envOfC qual (defScope st) s.heap.objs.size f cdv)) → sp vs H Q E →
      ∃ t, PSs (cxH CX P w K mg base N qual (defScope st) f cdv A outer s H E (a, oe)) (defBody st) t ∧ t { nx := fun _ H' => Q .non H', rt := Q } (L2.start N vs) H) : FnE P w K mg base CX (k + 1) f fd ps sp a oe := by
  obtain ⟨oc, od, kV, doc, pm, an, cdv, ct, osl, rfl, lk, hcd⟩ := F.ex
  refine ⟨len, fun A outer s H args us vs Q E hr hot hpin e0 hb r hsp => ?_⟩
  have hl := len _ _ _ _ hsp
  have KX : K.In s.heap := e0.mod.kin.keeps fun b o e => (e0.bs b o e).1
  have lim : s.heap.NoLimit := e0.mod.nolimit.keeps fun b o e => (e0.bs b o e).1
  have hkind : ∀ y ∈ ps.zip us, (defScope st).names.lookup y.1 = some .local ∨ ((defScope st).names.lookup y.1 = some .cell ∧ ((cellsFrom (s.heap.objs.size + 1) (defScope st).names []).lookup y.1).isSome = true) := fun ⟨n, v⟩ hy => by
    rcases S.par n (List.of_mem_zip hy).1 with q | q
    · exact .inl q
    · exact .inr ⟨q, PySem.W.cellsFrom_some _ _ _ (.inl q)⟩
  refine codeAny_call_function hr.depth (KX _ _ lk) rfl S.co S.gen rfl (PySem.W.codeRec_of KX hcd) (hb _ _ _ _ ?_)
  refine wpAny_newFunctionEnv_cells S.kind hkind fun env he s1 x => ?_
  subst he
  refine ⟨lim.keeps x.toInCall.keep, codeAny_func ?_⟩
  obtain ⟨t, ht, hq⟩ := hbody cdv A outer s H vs Q E hot (hr.deeper _) hsp
  have I : Inv (cxH CX P w K mg base N qual (defScope st) f cdv A outer s H E (a, oe)) [] (L2.start N vs) H s1 := inv_startH S hpin e0 hl r x
  refine wpAny_mono (ht.run [] s1 (L2.start N vs) H _ I hq) (fun fl s' hs => ?_) fun e s' hs => hs
  have fin : ∀ {σ' : L2.St} {H' : Hp} {v : V} {u : Value}, Inv (cxH CX P w K mg base N qual (defScope st) f cdv A outer s H E (a, oe)) [] σ' H' s' → RelV v u → Q v H' → CE outer P w H s Q u s' :=
    fun {σ' H' v u} J rv q => ⟨v, H', J.os, J.bare, J.base, J.hok, rv, q⟩
  cases fl with
  | ret u =>
    obtain ⟨v, σ', H', J, rv, q⟩ := hs
    exact fin J rv q
  | next =>
    obtain ⟨σ', H', J, q⟩ := hs
    exact fin (v := V.non) (u := Value.none) J rfl q
  | brk =>
    obtain ⟨_, _, _, q⟩ := hs
    exact False.elim q
  | cont =>
    obtain ⟨_, _, _, q⟩ := hs
    exact False.elim q
end
section
variable {X : Cx} {CX : CXT} {k : Nat} {f C a dd : Addr} {oe : Obj} {fd : FuncData} {ps : List Str} {sp : Sp} {E : XK} {x n : Str} {q pos : Pos} {e : Expr} {es : List Expr} {te : TE} {t : TA}
theorem pe_callE (F : FnE X.prog X.w X.K X.mg X.base CX k f fd ps sp a oe) (hr : RoomH k X.A) (hot : Hot1 X.A (a, oe)) (hp : (a, oe) ∈ X.pn) (hg : Gl X x) (hm : X.mg x = some (.ref f)) (hk : PySem.W.keepIn X.K (.ref f) = true) (hb : Binds X.K fd ps []) (hx : Passes CX X E)
    (ha : PA X (e :: es) t) (hdb : (x == ("__debug__" : Str)) = false := by decide) (he : starEach (e :: es) X.env = (false, eval e X.env) :: starEach es X.env := by rfl) (hpl : (backTo pos (starEach es X.env)).any (·.1) = false := by rfl) :
    PE X (.Call (.Name x q) (e :: es) [] pos) (tCall sp [] E t) := by
  refine ⟨fun pins s σ H Q I h => ?_⟩
  refine wpAny_Call_Name_kw (ld_glob I hg hm ?_ hdb)
  refine PySem.W.callWith_K (h₀ := X.base) I.ok.mod.kin hk (thn (ha.run pos pins s σ H _ I h) fun us s1 ⟨vs, H1, I1, r, h⟩ => ⟨I1.kIn, ?_⟩) he hpl
  replace h : sp (vs ++ []) H1 Q E := h
  rw [List.append_nil] at h
  have hl : us.length = ps.length := by rw [← r.length]; exact F.len _ _ _ _ h
  have b := hb s1 us I1.kIn (by rw [List.append_nil]; exact hl)
  rw [List.append_nil] at b
  have P1 := I1.pin (a, oe) (List.mem_append_left _ hp)
  have hpin : PinOk X.stack H1 s1 (a, oe) := ⟨P1.1, P1.2.1, fun hm => (List.mem_cons.mp (I1.stkSub a hm)).elim P1.2.2.1 P1.2.2.2.1, P1.2.2.2.2⟩
  refine wpAny_call (codeAny_mono (F.run X.A X.stack s1 H1 ⟨us, []⟩ us vs Q E hr hot hpin I1.env0 b r h) fun r s' hq => ?_)
  cases r with
  | error e => exact hx pins σ H1 s1 e s' I1 hq
  | ok fl =>
    cases fl with
    | ret u => exact I1.after hq
    | next => exact False.elim hq
    | brk => exact False.elim hq
    | cont => exact False.elim hq
/-- e.f of the exception that is handled -/
def tXq (a dd : Addr) (n : Str) (te : TE) : TE := fun σ H Q => te σ H fun x H1 => x = .ref a ∧ ∃ (fs : List (Str × V)) (v : V), H1 dd = some (.xd fs) ∧ fs.lookup n = some v ∧ Q v H1
theorem pe_xq (T : XfC X.K C) (hno : PySem.W.findIn X.K (.ref C) n = some none) (hc : oe.cls = .ref C) (hd : oe.dict = some dd) (hf : ∃ vs, oe.data = .fields vs) (hp : (a, oe) ∈ X.pn) (he : PE X e te) (hb : attributeBase e n X.env (eval e X.env) = eval e X.env := by rfl) :
    PE X (.Attribute e n pos) (tXq a dd n te) where
  run := fun pins s σ H Q I h => attr_of hb (thn (he.run pins s σ H _ I h) fun u s1 hh => by
    obtain ⟨x, H1, I1, rx, ex, fs, v, ea, l, q⟩ := hh
    subst ex
    obtain rfl : u = Value.ref a := rx
    obtain ⟨ha, _⟩ := I1.pin (a, oe) (List.mem_append_left _ hp)
    obtain ⟨vs, hv⟩ := hf
    obtain ⟨mA, hns, hr⟩ := (show ObjOk X.prog X.w H1 s1.heap dd (.xd fs) from I1.hok dd _ ea)
    obtain ⟨od, ho, hl⟩ := lookIn_ns hns
    obtain ⟨u, hu, ru⟩ := RelO.some_of (v := v) (o := mA n) (by rw [← l]; exact hr n)
    have J : PySem.W.InstAt s1.heap a oe C (some od) := ⟨ha, hc, by unfold PySem.W.notCls; rw [hv] <;> rfl, by rw [hd]; exact ho⟩
    exact HandSPX.exc_get I1.kIn J T.ga T.gg T.exC (PySem.W.findObj_own T.hdC hno rfl (by rw [hl, hu])) (handed_of ru) ⟨v, H1, I1.tok _, ru, q⟩)
/-- in the suite of an except clause -/
theorem hot_suite {X : Cx} {a : Addr} {oe : Obj} {pn : List (Addr × Obj)} {cls : Value} {d : Option Addr} (hz : L2N.Zn cls d oe) (hf : ∃ vs, oe.data = .fields vs) : Hot1 (X.suite a ((a, oe) :: pn)).A (a, oe) := by
  obtain ⟨vs, hv⟩ := hf
  exact ⟨rfl, vs, hv, hz.2.2 vs hv⟩
theorem room_suite {X : Cx} {a : Addr} {pn : List (Addr × Obj)} {k : Nat} (hr : Room k X.A) : RoomH k (X.suite a pn).A := ⟨hr.dp, hr.un⟩
end
end Rd
set_option maxHeartbeats 1000000
namespace Rd
open PySem PySem.Spec PyProof.Rows L2
/-! ## raised where a suite calls defs: the context field is told -/
section
variable {X : Cx} {CX : CXT} {pins : List (Addr × Obj)} {σ : L2.St} {H1 : Hp} {s1 : Shared} {C fI : Addr} {k : Nat} {fd : FuncData} {ps ks : List Str} {sp : Sp} {Q : VK} {B newId initId : String} {bmB : List Value} {us ws : List Value} {vs zs : List V} {g : List Value → List Value → List Value} {gV : List V → List V → List V}
/-- C(e, ..) to be raised where the handled one counts -/
theorem mk_raiseN (T : XC X.K C B newId initId bmB) (hR : Raises X (.ref C)) (N : XI X CX k C fI fd ps sp) (hr : Room (k + 1) X.A) (hb : Binds X.K fd ps []) (hx : Passes CX X E0) (I1 : Inv X pins σ H1 s1) (r1 : Vals vs us) (hz : vs.length ≤ 1000) {Q : XK}
    (q1 : MkQ sp C (fun a => a :: vs) H1 (fun v H2 => ∃ (a d : Addr) (fs : List (Str × V)), v = .ref a ∧ H2 a = some (exo a C (some d)) ∧ H2 d = some (exd d fs) ∧ H1 d = none ∧ Q (.ref C) (some d) (upd (del H2 a) d (.xd fs)))) :
    wpAny (model X.prog X.w) X.A (call (.ref C) us) (L2N.MkP X pins σ Q) X.xe s1 := by
  obtain ⟨nm, N', qn, bs, bm, hdct, sn, sub, ab, col, dd, k0, k1, k2, k3, k5, hC, hT⟩ := PySem.W.excInit_of I1.kIn T.ini
  obtain ⟨hp, g, dr, tk, os⟩ := s1
  have hsz : hp.objs.size ≤ hp.objs.size + 1 := Nat.le_succ _
  have hn : H1 (hp.objs.size + 1) = none := I1.hok.fresh hsz
  have hq := q1 (hp.objs.size + 1) hn
  have kk : ∀ b o, hp.get? b = some o → ((hp.push (PySem.W.kdv_tup us)).push (PySem.HandSPX.excO C hp.objs.size)).get? b = some o := fun b o e => Heap.get?_push_of_some _ (Heap.get?_push_of_some _ e)
  have hget : ((hp.push (PySem.W.kdv_tup us)).push (PySem.HandSPX.excO C hp.objs.size)).get? (hp.objs.size + 1) = some (PySem.HandSPX.excO C hp.objs.size) := by heap_get
  have I2 : Inv X pins σ (upd H1 (hp.objs.size + 1) (exo (hp.objs.size + 1) C none)) ⟨(hp.push (PySem.W.kdv_tup us)).push (PySem.HandSPX.excO C hp.objs.size), g, dr, tk, os⟩ :=
    I1.laid (t' := tk) (a := hp.objs.size + 1) (o := exo (hp.objs.size + 1) C none) (h' := (hp.push (PySem.W.kdv_tup us)).push (PySem.HandSPX.excO C hp.objs.size)) kk hsz (exo_ok hget)
  have r2 : Vals (V.ref (hp.objs.size + 1) :: vs) ((Value.ref (hp.objs.size + 1) :: us) ++ []) := by rw [List.append_nil]; exact .cons rfl r1
  have hl : (Value.ref (hp.objs.size + 1) :: us ++ []).length = ps.length := by
    have e := r2.length
    rw [N.F.len _ _ _ _ hq] at e
    exact e.symm
  have hus : us.length ≤ sizeLine := by
    rw [← Paired.length r1, sizeLine_eq]
    omega
  refine wpAny_call (PySem.HandSPX.call_own T.F hT hC (PySem.W.looks_findIn I1.kIn N.iC) (fun self => PySem.W.bind_fn I1.kIn self N.tI) hus
    (codeAny_mono (N.F.run _ X.stack _ _ ⟨Value.ref (hp.objs.size + 1) :: us, []⟩ ((Value.ref (hp.objs.size + 1) :: us) ++ []) _ _ E0 (hr.make C us []) (I2.env0.make C us []) (hb _ (Value.ref (hp.objs.size + 1) :: us) I2.kIn hl) r2 hq) fun r s' hq' => ?_))
  cases r with
  | error er => exact hx pins σ _ _ er s' I2 hq'
  | ok fl =>
    cases fl with
    | ret u =>
      obtain ⟨v, H2, os2, bare2, un2, hok2, rv, ev, a, d, fs, ea0, ea, ed, hd1, q2⟩ := hq'
      subst ev
      cases ea0
      obtain ⟨h2, g2, d2, t2, os'⟩ := s'
      obtain ⟨t0, G, J, kG, ge, hoe, na⟩ := mk_end0 (d2 := d2) (t2 := t2) I1 hsz kk un2 hok2 os2 bare2 ea ed hd1
      refine ⟨rv, hp.objs.size + 1, _, _, ⟨G, g2, d2, t2, os'⟩, _, .ref C, some d, rfl, J, kG, ge, hoe, ⟨rfl, rfl, ?_⟩, rfl, rfl, na, rfl, bare2, hR, q2⟩
      intro vs e
      cases e
      rfl
    | next => exact False.elim hq'
    | brk => exact False.elim hq'
    | cont => exact False.elim hq'
end
section
variable {X : Cx} {CX : CXT} {x : Str} {e : Expr} {es : List Expr} {kws : List Keyword} {ta tk : TA} {p pos : Pos} {C fI : Addr} {k : Nat} {fd : FuncData} {ps ks : List Str} {sp : Sp} {B newId initId : String} {bmB : List Value} {g : List Value → List Value → List Value} {gV : List V → List V → List V}
theorem pmk_VN (T : XC X.K C B newId initId bmB) (hR : Raises X (.ref C)) (N : XI X CX k C fI fd ps sp) (hr : Room (k + 1) X.A) (hb : Binds X.K fd ps []) (hx : Passes CX X E0) (hg : Gl X x) (hm : X.mg x = some (.ref C)) (ha : PA X (e :: es) ta)
    (hdb : (x == ("__debug__" : Str)) = false := by decide) (he : starEach (e :: es) X.env = (false, eval e X.env) :: starEach es X.env := by rfl) (hpl : (backTo pos (starEach es X.env)).any (·.1) = false := by rfl) :
    L2N.PMk X (.Call (.Name x p) (e :: es) [] pos) (tMkR C sp ta) := by
  intro pins s σ H Q I h
  refine wpAny_Call_Name_kw (ld_glob I hg hm ?_ hdb)
  exact PySem.W.callWith_K (h₀ := X.base) I.ok.mod.kin T.kC (thn (ha.run pos pins s σ H _ I h) fun us s1 ⟨vs, H1, I1, r1, hz, q1⟩ => ⟨I1.kIn, mk_raiseN T hR N hr hb hx I1 r1 hz q1⟩) he hpl
theorem pmk_VN0 (T : XC X.K C B newId initId bmB) (hR : Raises X (.ref C)) (N : XI X CX k C fI fd ps sp) (hr : Room (k + 1) X.A) (hb : Binds X.K fd ps []) (hx : Passes CX X E0) (hg : Gl X x) (hm : X.mg x = some (.ref C))
    (hdb : (x == ("__debug__" : Str)) = false := by decide) : L2N.PMk X (.Call (.Name x p) [] [] pos) (tMkR C sp tNil) := by
  intro pins s σ H Q I h
  refine wpAny_Call_Name_kw (ld_glob I hg hm ?_ hdb)
  obtain ⟨hz, q1⟩ := h
  exact PySem.W.callWith_K0 I.kIn T.kC (mk_raiseN (us := []) (vs := []) T hR N hr hb hx I .nil hz q1)
end
theorem passLN {X : Cx} : Passes (L2N.CX X.prog X.w) X E0 := fun _ _ _ _ _ _ _ h => by
  obtain ⟨_, _, _, _, _, _, _, _, _, _, _, _, z⟩ := h
  exact z.elim
theorem takes0N {X : Cx} : L2N.Takes X (fun _ _ _ _ => False) := fun _ _ x => by
  obtain ⟨_, _, _, _, _, _, _, _, _, _, _, _, _, _, _, _, z⟩ := x
  exact z.elim
theorem Fun.okXN {P : Program} {w : World} {K : PySem.W.Frag} {mg : Str → Option Value} {base : Heap} {x qual : Str} {st : Stmt} {f : Addr} {fd : FuncData} {N ps : List Str} {k : Nat} {sp : Sp} (F : L2.Fun K x qual st f fd) (S : FnScope N ps (defScope st)) (len : ∀ vs H Q E, sp vs H Q E → vs.length = ps.length)
    (hbody : ∀ (cdv : Value) (A : Around) (outer : List Env) (s : Shared) (H : Hp) (vs : List V) (Q : VK) (E : XK), Room k (A.deeper (envOfC qual (defScope st) s.heap.objs.size f cdv)) → sp vs H Q E →
      ∃ t, PSs (cxOf (L2N.CX P w) P w K mg base N qual (defScope st) f cdv A outer s H E) (defBody st) t ∧ t { nx := fun _ H' => Q .non H', rt := Q } (L2.start N vs) H) : FnOk P w K mg base (L2N.CX P w) (k + 1) f fd ps sp := by
  obtain ⟨oc, od, kV, doc, pm, an, cdv, ct, osl, rfl, lk, hcd⟩ := F.ex
  exact fn_of lk hcd S len fun A outer s H vs Q E hr hsp => hbody cdv A outer s H vs Q E hr hsp
end Rd
set_option maxHeartbeats 2000000
namespace Rd
open PySem PySem.Spec PyProof.Rows L2
/-! ## lambdas that stand in a list and are called later: the cells they hold are set fast while the call runs -/
/-- the objects at cs are known as they stand -/
def FzC (H : Hp) (cs : List Addr) : Prop := ∀ c ∈ cs, ∃ oc, H c = some (.frz oc (.own c))
/-- H without cs -/
def offC (H : Hp) (cs : List Addr) : Hp := fun b => if b ∈ cs then none else H b
/-- H' with what H has at cs -/
def mixC (H H' : Hp) (cs : List Addr) : Hp := fun b => if b ∈ cs then H b else H' b
section
variable {P : Program} {w : World} {H H' : Hp} {h h' B : Heap} {cs fs : List Addr} {b : Addr} {o : HO}
theorem offC_in (m : b ∈ cs) : offC H cs b = none := if_pos m
theorem offC_out (m : b ∉ cs) : offC H cs b = H b := if_neg m
theorem mixC_in (m : b ∈ cs) : mixC H H' cs b = H b := if_pos m
theorem mixC_out (m : b ∉ cs) : mixC H H' cs b = H' b := if_neg m
theorem FzC.noOwn (z : FzC H cs) {y : Addr} (e : H b = some (.own y)) : b ∉ cs := fun m => by
  obtain ⟨oc, q⟩ := z b m
  rw [e] at q
  cases q
theorem FzC.noTup (z : FzC H cs) {xs : List V} (e : H b = some (.tup xs)) : b ∉ cs := fun m => by
  obtain ⟨oc, q⟩ := z b m
  rw [e] at q
  cases q
theorem FzC.noTbl (z : FzC H cs) {ps : Array Value} (e : H b = some (.tbl ps)) : b ∉ cs := fun m => by
  obtain ⟨oc, q⟩ := z b m
  rw [e] at q
  cases q
theorem FzC.noFree (z : FzC H cs) (e : H b = none) : b ∉ cs := fun m => by
  obtain ⟨oc, q⟩ := z b m
  rw [e] at q
  cases q
/-- forgetting them -/
theorem hok_off (x : HOk P w H h) (z : FzC H cs) : HOk P w (offC H cs) h := fun a o e => by
  by_cases m : a ∈ cs
  · rw [offC_in m] at e
    cases e
  · rw [offC_out m] at e
    refine (x a o e).stay (fun b u _ q => q) (fun b q => ?_) fun b xs q => ?_
    · rw [offC_out (z.noOwn q)]; exact q
    · rw [offC_out (z.noTup q)]; exact q
/-- they are known again -/
theorem hok_mix (x : HOk P w H' h) (z : FzC H cs) (hn : ∀ c ∈ cs, H' c = none) (hg : ∀ c ∈ cs, ∀ oc u, H c = some (.frz oc u) → h.get? c = some oc) : HOk P w (mixC H H' cs) h := fun a o e => by
  by_cases m : a ∈ cs
  · rw [mixC_in m] at e
    obtain ⟨oc, q⟩ := z a m
    rw [q] at e
    cases e
    have g := hg a m oc _ q
    exact ⟨g, oc, g⟩
  · rw [mixC_out m] at e
    refine (x a o e).stay (fun b u _ q => q) (fun b q => ?_) fun b xs q => ?_
    · rw [mixC_out (fun k => by rw [hn b k] at q; cases q)]; exact q
    · rw [mixC_out (fun k => by rw [hn b k] at q; cases q)]; exact q
/-- a call that ran without them, told with them -/
theorem un_mix (u : Un fs [] (offC H cs) H' h h') (z : FzC H cs) : Un fs [] H (mixC H H' cs) h h' where
  keep := fun b o q n hb hx => u.keep b o q (by rw [offC_out (z.noFree n)]; exact n) hb hx
  slot := fun b o q n hb hx => u.slot b o q (by rw [offC_out (z.noFree n)]; exact n) hb hx
  free := fun b o q n hx => by
    rw [mixC_out (z.noFree n)]
    exact u.free b o q (by rw [offC_out (z.noFree n)]; exact n) hx
  there := fun b o q hx => u.there b o q hx
  tups := fun b xs q => by
    rw [mixC_out (z.noTup q)]
    exact u.tups b xs (by rw [offC_out (z.noTup q)]; exact q)
  frzs := fun b o xs q => by
    by_cases m : b ∈ cs
    · rw [mixC_in m]; exact q
    · rw [mixC_out m]
      exact u.frzs b o xs (by rw [offC_out m]; exact q)
  tbls := fun b ps q => by
    rw [mixC_out (z.noTbl q)]
    exact u.tbls b ps (by rw [offC_out (z.noTbl q)]; exact q)
theorem ub_mix (u : UB fs (offC H cs) H' h B h') (z : FzC H cs) : UB fs H (mixC H H' cs) h B h' where
  keep := fun b o q n hb => u.keep b o q (by rw [offC_out (z.noFree n)]; exact n) hb
  slot := fun b o q hb => u.slot b o q hb
  free := fun b o q n => by
    rw [mixC_out (z.noFree n)]
    exact u.free b o q (by rw [offC_out (z.noFree n)]; exact n)
  there := fun b o q hb => u.there b o q hb
  tups := fun b xs q => by
    rw [mixC_out (z.noTup q)]
    exact u.tups b xs (by rw [offC_out (z.noTup q)]; exact q)
  frzs := fun b o xs q => by
    by_cases m : b ∈ cs
    · rw [mixC_in m]; exact q
    · rw [mixC_out m]
      exact u.frzs b o xs (by rw [offC_out m]; exact q)
  tbls := fun b ps q => by
    rw [mixC_out (z.noTbl q)]
    exact u.tbls b ps (by rw [offC_out (z.noTbl q)]; exact q)
/-- from the caller's side: Hz is H with cs known beside -/
structure FzOf (H Hz : Hp) (cs : List Addr) : Prop where
  out : ∀ b, b ∉ cs → Hz b = H b
  non : ∀ c ∈ cs, H c = none
  fz : FzC Hz cs
theorem un_off {Hz : Hp} (u : Un fs [] Hz H' h h') (f : FzOf H Hz cs) (ok : HOk P w Hz h) (ok' : HOk P w H' h') : Un fs [] H (offC H' cs) h h' where
  keep := fun b o q n hb hx => by
    by_cases m : b ∈ cs
    · obtain ⟨oc, e⟩ := f.fz b m
      obtain ⟨g, _⟩ := ok b _ e
      obtain ⟨g', _⟩ := ok' b _ (u.frzs b _ _ e)
      rw [q] at g
      cases g
      exact g'
    · exact u.keep b o q (by rw [f.out b m]; exact n) hb hx
  slot := fun b o q n hb hx => by
    by_cases m : b ∈ cs
    · obtain ⟨oc, e⟩ := f.fz b m
      obtain ⟨g, _⟩ := ok b _ e
      obtain ⟨g', _⟩ := ok' b _ (u.frzs b _ _ e)
      rw [q] at g
      cases g
      exact ⟨o.slots, g'⟩
    · exact u.slot b o q (by rw [f.out b m]; exact n) hb hx
  free := fun b o q n hx => by
    by_cases m : b ∈ cs
    · exact offC_in m
    · rw [offC_out m]
      exact u.free b o q (by rw [f.out b m]; exact n) hx
  there := fun b o q hx => u.there b o q hx
  tups := fun b xs q => by
    have m : b ∉ cs := fun m => by rw [f.non b m] at q; cases q
    rw [offC_out m]
    exact u.tups b xs (by rw [f.out b m]; exact q)
  frzs := fun b o xs q => by
    have m : b ∉ cs := fun m => by rw [f.non b m] at q; cases q
    rw [offC_out m]
    exact u.frzs b o xs (by rw [f.out b m]; exact q)
  tbls := fun b ps q => by
    have m : b ∉ cs := fun m => by rw [f.non b m] at q; cases q
    rw [offC_out m]
    exact u.tbls b ps (by rw [f.out b m]; exact q)
/-- ahead of the call: the cells at cs are set fast as the heap has them -/
def onC (H : Hp) (h : Heap) (cs : List Addr) : Hp := fun b => if b ∈ cs then (h.get? b).map (fun o => .frz o (.own b)) else H b
theorem onC_of (hn : ∀ c ∈ cs, H c = none) (hg : ∀ c ∈ cs, ∃ o, h.get? c = some o) : FzOf H (onC H h cs) cs :=
  ⟨fun b m => if_neg m, hn, fun c m => by
    obtain ⟨o, e⟩ := hg c m
    exact ⟨o, by unfold onC; rw [if_pos m, e]; rfl⟩⟩
theorem onC_at {c : Addr} {o : Obj} (m : c ∈ cs) (e : h.get? c = some o) : onC H h cs c = some (.frz o (.own c)) := by
  unfold onC
  rw [if_pos m, e]
  rfl
theorem hok_on (x : HOk P w H h) (hn : ∀ c ∈ cs, H c = none) (hg : ∀ c ∈ cs, ∃ o, h.get? c = some o) : HOk P w (onC H h cs) h := fun a o e => by
  by_cases m : a ∈ cs
  · obtain ⟨oc, q⟩ := hg a m
    rw [onC_at m q] at e
    cases e
    exact ⟨q, oc, q⟩
  · have e' : H a = some o := by rw [← e]; exact (if_neg m).symm
    have out : ∀ {b u}, H b = some u → onC H h cs b = some u := fun {b u} q => by
      rw [← q]
      exact if_neg fun k => by rw [hn b k] at q; cases q
    exact (x a o e').stay (fun b u _ q => q) (fun b q => out q) fun b xs q => out q
end
/-- what a lambda promises in every state that keeps what is known: called with nothing -/
def Keeps (H H' : Hp) : Prop := (∀ a o u, H a = some (.frz o u) → H' a = some (.frz o u)) ∧ ∀ a xs, H a = some (.tup xs) → H' a = some (.tup xs)
theorem Keeps.refl {H : Hp} : Keeps H H := ⟨fun _ _ _ e => e, fun _ _ e => e⟩
theorem Keeps.trans {H H1 H2 : Hp} (a : Keeps H H1) (b : Keeps H1 H2) : Keeps H H2 := ⟨fun c o u e => b.1 c o u (a.1 c o u e), fun c xs e => b.2 c xs (a.2 c xs e)⟩
theorem Keeps.same {H H' : Hp} (s : ∀ a o, H a = some o → H' a = some o) : Keeps H H' := ⟨fun a _ _ e => s a _ e, fun a _ e => s a _ e⟩
def Act (P : Program) (w : World) (K : PySem.W.Frag) (mg : Str → Option Value) (base : Heap) (k : Nat) (H : Hp) (f : Addr) (spf : Hp → VK → XK → Prop) : Prop :=
  ∀ (A : Around) (outer : List Env) (s : Shared) (H' : Hp) (Q : VK) (E : XK), Keeps H H' → Room k A → Env0 P w K mg base A outer s H' → spf H' Q E → codeAny (model P w) A (.call (.ref f) ⟨[], []⟩) (CR (L2N.CX P w) outer P w H' s Q E) s
theorem Act.mono {P : Program} {w : World} {K : PySem.W.Frag} {mg : Str → Option Value} {base : Heap} {k : Nat} {H H1 : Hp} {f : Addr} {spf : Hp → VK → XK → Prop} (a : Act P w K mg base k H f spf) (e : Keeps H H1) : Act P w K mg base k H1 f spf :=
  fun A outer s H' Q E e' hr e0 h => a A outer s H' Q E (e.trans e') hr e0 h
theorem Act.le {P : Program} {w : World} {K : PySem.W.Frag} {mg : Str → Option Value} {base : Heap} {k j : Nat} {H : Hp} {f : Addr} {spf : Hp → VK → XK → Prop} (a : Act P w K mg base k H f spf) (e : k ≤ j) : Act P w K mg base j H f spf :=
  fun A outer s H' Q E e' hr e0 h => a A outer s H' Q E e' (hr.mono e) e0 h
end Rd
set_option maxHeartbeats 2000000
namespace Rd
open PySem PySem.Spec PyProof.Rows L2
/-! ## a lambda is made: its code object and itself are known from then on -/
/-- a code object of the name q, known -/
def CodeF (q : Str) (c : Addr) (u : HO) : Prop := ∃ (oc : Obj) (vs : Array Value) (t : Tok), u = .frz oc (.own c) ∧ oc.data = .fields vs ∧ vs[1]? = some (.str q t)
/-- the maker's table: every code object in it is known -/
def TabF (H : Hp) (P : Addr) (q : Str) : Prop := ∃ ps : Array Value, H P = some (.tbl ps) ∧ TriplesOk ps.toList ∧ ∀ (pos : Pos) (cv : Value), codeAmong pos ps.toList = some cv → ∃ c u, cv = .ref c ∧ H c = some u ∧ CodeF q c u
/-- all but tables stay -/
def KeepT (H H' : Hp) : Prop := ∀ b o, H b = some o → (∀ ps, o ≠ .tbl ps) → H' b = some o
theorem KeepT.refl {H : Hp} : KeepT H H := fun _ _ e _ => e
theorem KeepT.trans {H H1 H2 : Hp} (a : KeepT H H1) (b : KeepT H1 H2) : KeepT H H2 := fun c o h n => b c o (a c o h n) n
theorem KeepT.keeps {H H' : Hp} (a : KeepT H H') : Keeps H H' := ⟨fun c o u e => a c _ e fun _ z => (by cases z), fun c xs e => a c _ e fun _ z => (by cases z)⟩
theorem TabF.same {H H' : Hp} {P : Addr} {q : Str} (t : TabF H P q) (s : ∀ a o, H a = some o → H' a = some o) : TabF H' P q := by
  obtain ⟨ps, e1, e2, e3⟩ := t
  exact ⟨ps, s _ _ e1, e2, fun pos cv h => let ⟨c, u, a1, a2, a3⟩ := e3 pos cv h; ⟨c, u, a1, s _ _ a2, a3⟩⟩
theorem TabF.nil {H : Hp} {P : Addr} {q : Str} (h : H P = some (.tbl #[])) : TabF H P q := ⟨#[], h, True.intro, fun pos cv hc => by
  rw [show (#[] : Array Value).toList = [] from rfl] at hc
  simp [codeAmong] at hc⟩
theorem CodeF.ne {q : Str} {c : Addr} {u : HO} (h : CodeF q c u) (ps : Array Value) : u ≠ .tbl ps := fun z => by
  obtain ⟨oc, vs, t, e, _⟩ := h
  rw [e] at z
  cases z
section
variable {X : Cx} {pins : List (Addr × Obj)} {σ : L2.St} {H : Hp} {s : Shared}
/-- the table's object is written, the new code object is known -/
theorem inv_tabF {P c : Addr} {oc : Obj} {ps more : Array Value} {h' : Heap} {t' : Nat} (I : Inv X pins σ H s) (hP : H P = some (.tbl ps))
    (kp : ∀ b o, b ≠ P → s.heap.get? b = some o → h'.get? b = some o) (hm : h'.get? P = some { cls := .none, data := .fields (ps ++ more) }) (hc : s.heap.objs.size ≤ c) (ho : h'.get? c = some oc) :
    Inv X pins σ (upd (upd H P (.tbl (ps ++ more))) c (.frz oc (.own c))) { s with heap := h', toks := t' } := by
  have cN : H c = none := I.hok.fresh hc
  have pC : P ≠ c := ne_of_none hP cN
  have look : ∀ b, b ≠ P → b ≠ c → upd (upd H P (.tbl (ps ++ more))) c (.frz oc (.own c)) b = H b := fun b n1 n2 => by rw [upd_ne n2, upd_ne n1]
  have lookP : upd (upd H P (.tbl (ps ++ more))) c (.frz oc (.own c)) P = some (.tbl (ps ++ more)) := by rw [upd_ne pC, upd_same]
  have notP : ∀ b u, H b = some u → (∀ r, u ≠ .tbl r) → b ≠ P := fun b u e n z => by
    subst z
    rw [hP] at e
    exact n ps (Option.some.inj e).symm
  have freeP : ∀ b, H b = none → b ≠ P := fun b e z => by
    subst z
    rw [hP] at e
    cases e
  have oldC : ∀ b o, s.heap.get? b = some o → b ≠ c := fun b o e z => by
    subst z
    exact Nat.lt_irrefl _ (Nat.lt_of_lt_of_le (Heap.lt_size e) hc)
  have hadC : ∀ b u, H b = some u → b ≠ c := fun b u e => ne_of_none e cN
  refine I.step (g' := s.gens) (d' := s.drawn) (ch := []) ?_ ?_ ?_ ?_ ?_ ?_ ?_ ?_ ?_ ?_ I.bare
  · exact fun b hb => absurd hb (by simp)
  · exact fun b o _ _ _ e n => kp b o (freeP b n) e
  · exact fun b o _ _ _ e n => ⟨o.slots, kp b o (freeP b n) e⟩
  · exact fun b o _ e n => by rw [look b (freeP b n) (oldC b o e)]; exact n
  · intro b o _ e
    by_cases hb : b = P
    · rw [hb]; exact ⟨_, hm⟩
    · exact ⟨o, kp b o hb e⟩
  · exact fun b xs e => by rw [look b (notP b _ e fun r z => by cases z) (hadC b _ e)]; exact e
  · exact fun b o u e => by rw [look b (notP b _ e fun r z => by cases z) (hadC b _ e)]; exact e
  · intro b qs e
    by_cases hb : b = P
    · subst hb
      rw [hP] at e
      cases e
      exact ⟨more, lookP⟩
    · exact ⟨#[], by rw [look b hb (hadC b _ e), e]; simp⟩
  · intro m hn
    obtain ⟨ob, es, ep, e, r⟩ := hn
    exact ⟨ob, es, ep, kp _ ob (freeP _ I.free) e, r⟩
  · intro b u e
    by_cases hb : b = c
    · subst hb
      rw [upd_same] at e
      cases e
      exact ⟨ho, oc, ho⟩
    · by_cases hb2 : b = P
      · subst hb2
        rw [lookP] at e
        cases e
        exact hm
      · rw [look b hb2 hb] at e
        refine (I.hok b u e).stay (fun d v hd r => kp d v ?_ r) (fun d r => by rw [look d (notP d _ r fun _ z => by cases z) (hadC d _ r)]; exact r) fun d xs r => by rw [look d (notP d _ r fun _ z => by cases z) (hadC d _ r)]; exact r
        rcases hd with z | z
        · rw [z]; exact hb2
        · exact notP d _ z fun _ z => by cases z
theorem amongF {pos p' : Pos} {c cv : Value} : ∀ (l : List Value), TriplesOk l → codeAmong p' (l ++ [rawInt pos.line, rawInt pos.col, c]) = some cv → codeAmong p' l = some cv ∨ cv = c := fun l a b => LamX.among_app l a b
/-- a lambda as it stands: the table and the code object, the defaults' tuple -/
def LamAt (H : Hp) (f : Addr) (q : Str) (params : Arguments) (body : Expr) (scope : Scope) (cl : List (Str × Addr)) (ds : List V) : Prop :=
  ∃ (dV doc pm : Value) (c' : Addr) (ctv : Value) (u : HO), H f = some (.frz (PySem.W.kdv_obj "<lambda>" q params (.expr body) scope cl dV doc pm c' ctv) (.own f)) ∧ H c' = some u ∧ CodeF q c' u ∧
    ((ds = [] ∧ dV = .none) ∨ (ds ≠ [] ∧ ∃ T, dV = .ref T ∧ H T = some (.tup ds)))
theorem LamAt.keep {H H' : Hp} {f : Addr} {q : Str} {params : Arguments} {body : Expr} {scope : Scope} {cl : List (Str × Addr)} {ds : List V} (a : LamAt H f q params body scope cl ds) (k : Keeps H H') : LamAt H' f q params body scope cl ds := by
  obtain ⟨dV, doc, pm, c', ctv, u, h1, h2, h3, h4⟩ := a
  obtain ⟨oc, vs, t, e, h5, h6⟩ := h3
  subst e
  refine ⟨dV, doc, pm, c', ctv, _, k.1 _ _ _ h1, k.1 _ _ _ h2, ⟨oc, vs, t, rfl, h5, h6⟩, ?_⟩
  rcases h4 with h4 | ⟨n, T, e, h⟩
  · exact .inl h4
  · exact .inr ⟨n, T, e, k.2 _ _ h⟩
/-- behind the defaults: the tail of the making -/
theorem lam_tail {P c : Addr} {params : Arguments} {body : Expr} {scope : Scope} {pos : Pos} {dV : Value} {ds : List V} {E : Value → Shared → Prop} {Q : Value → Shared → Prop} (I : Inv X pins σ H s) (TB : LamX.TabB X.base X.mg c P) (hcode : X.env.code = .ref c)
    (hT : TabF H P (X.env.qual ++ "<lambda>")) (hfree : ∀ y ∈ scope.names, y.2 = .free → ∃ c, X.env.cells.lookup y.1 = some c) (hd : (ds = [] ∧ dV = .none) ∨ (ds ≠ [] ∧ ∃ T, dV = .ref T ∧ H T = some (.tup ds)))
    (h : ∀ (f : Addr) (H1 : Hp) (s' : Shared), Inv X pins σ H1 s' → KeepT H H1 → TabF H1 P (X.env.qual ++ "<lambda>") → H f = none → LamAt H1 f (X.env.qual ++ "<lambda>") params body scope (cloFrom X.env.cells scope.names []) ds → Q (.ref f) s') :
    wpAny (model X.prog X.w) X.A (makeTail "<lambda>" (X.env.qual ++ "<lambda>") params (.expr body) scope X.env dV .none none pos pos.line) Q E s := by
  obtain ⟨ps, hP, ht, ha⟩ := hT
  have bP : s.heap.BuiltinsAt X.mg P := TB.bm.keeps I.bk
  have gP : s.heap.get? P = some { cls := .none, data := .fields ps } := I.hok P _ hP
  cases hc : codeAmong pos ps.toList with
  | none =>
    refine PySem.W.kdv_makeTail (mg := X.mg) (c := c) (P := P) (ps := ps) (closure_ok hfree) I.ok.glob (I.mod.glob.keeps I.bk) hcode (TB.code.keeps I.bk) gP ht hc TB.gP bP fun c' ctv doc h' tk hx hge hlt hrec htb => ?_
    obtain ⟨c2, oc, vs, t, e2, hoc, hdt, hv⟩ := hrec
    cases e2
    have hsz : s.heap.objs.size ≤ h'.objs.size := Nat.le_trans hge (Nat.le_of_lt hlt)
    have cN : H c' = none := I.hok.fresh hge
    have I1 := inv_tabF (t' := tk) (more := #[rawInt pos.line, rawInt pos.col, .ref c']) (h' := h') I hP hx htb hge hoc
    have kT : KeepT H (upd (upd H P (.tbl (ps ++ #[rawInt pos.line, rawInt pos.col, .ref c']))) c' (.frz oc (.own c'))) := fun b o e n => by
      rw [upd_ne (ne_of_none e cN), upd_ne fun z => by subst z; rw [hP] at e; exact n ps (Option.some.inj e).symm]
      exact e
    have tF : TabF (upd (upd H P (.tbl (ps ++ #[rawInt pos.line, rawInt pos.col, .ref c']))) c' (.frz oc (.own c'))) P (X.env.qual ++ "<lambda>") := by
      have eL : (ps ++ #[rawInt pos.line, rawInt pos.col, .ref c']).toList = ps.toList ++ [rawInt pos.line, rawInt pos.col, .ref c'] := by simp
      refine ⟨_, by rw [upd_ne (ne_of_none hP cN), upd_same], by rw [eL]; exact PySem.TriplesOk_snoc _ _ _ _ ht, fun p' cv hcv => ?_⟩
      rw [eL] at hcv
      rcases amongF _ ht hcv with z | z
      · obtain ⟨c0, u0, e1, e2, e3⟩ := ha p' cv z
        exact ⟨c0, u0, e1, kT _ _ e2 e3.ne, e3⟩
      · exact ⟨c', _, z, upd_same, oc, vs, t, rfl, hdt, hv⟩
    have fN : upd (upd H P (.tbl (ps ++ #[rawInt pos.line, rawInt pos.col, .ref c']))) c' (.frz oc (.own c')) h'.objs.size = none := by
      rw [upd_ne (Nat.ne_of_gt hlt), upd_ne (Nat.ne_of_gt (Nat.lt_of_lt_of_le (Heap.lt_size gP) hsz))]
      exact I.hok.fresh hsz
    have same1 := fun b o (e : upd (upd H P (.tbl (ps ++ #[rawInt pos.line, rawInt pos.col, .ref c']))) c' (.frz oc (.own c')) b = some o) => ne_of_none e fN
    have gN : (h'.push (PySem.W.kdv_obj "<lambda>" (X.env.qual ++ "<lambda>") params (.expr body) scope (cloFrom X.env.cells scope.names []) dV doc ((X.mg "__name__").getD .none) c' ctv)).get? h'.objs.size = some _ := Heap.get?_push_size _ rfl
    have I2 := I1.laid (t' := tk) (a := h'.objs.size) (o := .frz (PySem.W.kdv_obj "<lambda>" (X.env.qual ++ "<lambda>") params (.expr body) scope (cloFrom X.env.cells scope.names []) dV doc ((X.mg "__name__").getD .none) c' ctv) (.own h'.objs.size))
      (fun b u e => Heap.get?_push_of_some _ e) (Nat.le_refl _) ⟨gN, _, gN⟩
    refine h h'.objs.size _ _ I2 (kT.trans fun b o e _ => by rw [upd_ne (same1 b o e)]; exact e) (tF.same fun b o e => by rw [upd_ne (same1 b o e)]; exact e) (I.hok.fresh hsz)
      ⟨dV, doc, _, c', ctv, _, upd_same, by rw [upd_ne (Nat.ne_of_lt hlt), upd_same], ⟨oc, vs, t, rfl, hdt, hv⟩, ?_⟩
    rcases hd with hd | ⟨n, T, e, hT⟩
    · exact .inl hd
    · have e1 := kT _ _ hT fun _ z => by cases z
      exact .inr ⟨n, T, e, by rw [upd_ne (same1 _ _ e1)]; exact e1⟩
  | some cv =>
    obtain ⟨c', u', e, hu, hco⟩ := ha pos cv hc
    subst e
    refine PySem.W.kdv_makeTailHit (mg := X.mg) (c := c) (P := P) (ps := ps) (closure_ok hfree) I.ok.glob (I.mod.glob.keeps I.bk) hcode (TB.code.keeps I.bk) gP ht hc bP fun ctv doc h' tk hx hsz => ?_
    have I1 : Inv X pins σ H { s with heap := h', toks := tk } := I.kept hx
    have fN : H h'.objs.size = none := I.hok.fresh hsz
    have gN : (h'.push (PySem.W.kdv_obj "<lambda>" (X.env.qual ++ "<lambda>") params (.expr body) scope (cloFrom X.env.cells scope.names []) dV doc ((X.mg "__name__").getD .none) c' ctv)).get? h'.objs.size = some _ := Heap.get?_push_size _ rfl
    have I2 := I1.laid (t' := tk) (a := h'.objs.size) (o := .frz (PySem.W.kdv_obj "<lambda>" (X.env.qual ++ "<lambda>") params (.expr body) scope (cloFrom X.env.cells scope.names []) dV doc ((X.mg "__name__").getD .none) c' ctv) (.own h'.objs.size))
      (fun b u e => Heap.get?_push_of_some _ e) (Nat.le_refl _) ⟨gN, _, gN⟩
    have same1 : ∀ b o, H b = some o → upd H h'.objs.size (.frz (PySem.W.kdv_obj "<lambda>" (X.env.qual ++ "<lambda>") params (.expr body) scope (cloFrom X.env.cells scope.names []) dV doc ((X.mg "__name__").getD .none) c' ctv) (.own h'.objs.size)) b = some o := fun b o e => by
      rw [upd_ne (ne_of_none e fN)]; exact e
    refine h h'.objs.size _ _ I2 (fun b o e _ => same1 b o e) (TabF.same ⟨ps, hP, ht, ha⟩ same1) fN ⟨dV, doc, _, c', ctv, u', upd_same, same1 _ _ hu, hco, ?_⟩
    rcases hd with hd | ⟨n, T, e, hT⟩
    · exact .inl hd
    · exact .inr ⟨n, T, e, same1 _ _ hT⟩
end
/-- lambda: e, without parameters -/
def tLam0 (P : Addr) (q : Str) (params : Arguments) (body : Expr) (scope : Scope) (cl : List (Str × Addr)) : TE := fun _ H Q => TabF H P q ∧ ∀ (f : Addr) (H1 : Hp), KeepT H H1 → TabF H1 P q → H f = none → LamAt H1 f q params body scope cl [] → Q (.ref f) H1
/-- lambda x = i: e -/
def tLam1 (P : Addr) (q : Str) (params : Arguments) (body : Expr) (scope : Scope) (cl : List (Str × Addr)) (i : Int) : TE := fun _ H Q => TabF H P q ∧ ∀ (f : Addr) (H1 : Hp), KeepT H H1 → TabF H1 P q → H f = none → LamAt H1 f q params body scope cl [.int i] → Q (.ref f) H1
section
variable {X : Cx} {P c : Addr} {params : Arguments} {body : Expr} {scope : Scope} {pos dpos : Pos} {i : Int} {j : Nat}
theorem pe_lam0 (TB : LamX.TabB X.base X.mg c P) (hcode : X.env.code = .ref c) (hfree : X.Ok → ∀ y ∈ scope.names, y.2 = .free → ∃ c, X.env.cells.lookup y.1 = some c) (hdef : defaultsOf params X.env = ([], []) := by rfl) :
    PE X (.Lambda params body scope pos) (tLam0 P (X.env.qual ++ "<lambda>") params body scope (cloFrom X.env.cells scope.names [])) := by
  refine ⟨fun pins s σ H Q I h => ?_⟩
  obtain ⟨hT, h⟩ := h
  refine PySem.W.kla_eval hdef ?_
  rw [makeFunction_eq]
  simp only [List.zip_nil_right, List.filterMap_nil, List.isEmpty_nil, if_true, pure_bind]
  exact lam_tail I TB hcode hT (hfree I.ok) (.inl ⟨rfl, rfl⟩) fun f H1 s' I1 k1 t1 n1 l1 => ⟨.ref f, H1, I1, rfl, h f H1 k1 t1 n1 l1⟩
theorem pe_lam1 (TB : LamX.TabB X.base X.mg c P) (hcode : X.env.code = .ref c) (hfree : X.Ok → ∀ y ∈ scope.names, y.2 = .free → ∃ c, X.env.cells.lookup y.1 = some c) (hd : params.defaults = [.Constant (.int i) j dpos] := by rfl) (hk : params.kw_defaults = [] := by rfl) :
    PE X (.Lambda params body scope pos) (tLam1 P (X.env.qual ++ "<lambda>") params body scope (cloFrom X.env.cells scope.names []) i) := by
  refine ⟨fun pins s σ H Q I h => ?_⟩
  obtain ⟨hT, h⟩ := h
  refine PySem.W.kdv_lam (by rw [hd]; rfl) hk ?_
  rw [hd]
  refine PySem.W.kdv_all1 (thn ((pe_int (X := X) (i := i) (j := j) (pos := dpos)).run pins s σ H (fun v H1 => v = .int i ∧ H1 = H) I ⟨rfl, rfl⟩) fun u s1 ⟨v, H1, I1, r1, e1, e2⟩ => ?_)
  subst e1
  rw [e2] at I1
  refine PySem.W.kdv_all0 ?_
  rw [makeFunction_eq]
  simp only [List.zip_nil_right, List.filterMap_nil, List.isEmpty_nil, if_true, pure_bind, List.isEmpty_cons, Bool.false_eq_true, if_false]
  refine wpAny_bind (wpAny_newTextTuple ?_)
  have hN : H s1.heap.objs.size = none := I1.hok.fresh (Nat.le_refl _)
  have I2 := I1.laid (t' := s1.toks) (a := s1.heap.objs.size) (o := .tup [.int i]) (h' := s1.heap.push (PySem.W.kdv_tup [u])) (fun b u e => Heap.get?_push_of_some _ e) (Nat.le_refl _)
    ⟨by show 1 ≤ sizeLine; decide, [u], .cons r1 .nil, ⟨_, Heap.get?_push_size _ rfl, rfl, _, rfl⟩⟩
  have s1k : ∀ b o, H b = some o → upd H s1.heap.objs.size (.tup [.int i]) b = some o := fun b o e => by rw [upd_ne (ne_of_none e hN)]; exact e
  exact lam_tail I2 TB hcode (hT.same s1k) (hfree I2.ok) (.inr ⟨by simp, _, rfl, upd_same⟩) fun f H1 s' I3 k1 t1 n1 l1 => ⟨.ref f, H1, I3, rfl, h f H1 (fun b o e n => k1 b o (s1k b o e) n) t1 (by
    cases e : H f with
    | none => rfl
    | some o => rw [s1k _ _ e] at n1; cases n1) l1⟩
end
end Rd
set_option maxHeartbeats 2000000
namespace Rd
open PySem PySem.Spec PyProof.Rows L2
/-! ## a lambda's body runs where the lambda is called -/
abbrev lEnv (q : Str) (scope : Scope) (L f c' : Addr) (cl : List (Str × Addr)) : Env := PySem.W.envX q scope L f (.ref c') cl
def lCx (P : Program) (w : World) (K : PySem.W.Frag) (mg : Str → Option Value) (base : Heap) (N : List Str) (q : Str) (scope : Scope) (cl : List (Str × Addr)) (f c' : Addr) (A : Around) (outer : List Env) (s : Shared) (H : Hp) (E : XK) : Cx where
  prog := P
  w := w
  K := K
  mg := mg
  base := base
  A := A.deeper (lEnv q scope s.heap.objs.size f c' cl)
  N := N
  s_0 := s
  H_0 := H
  env := lEnv q scope s.heap.objs.size f c' cl
  outer := outer
  stack := lEnv q scope s.heap.objs.size f c' cl :: outer
  ex := []
  fn := fun _ => false
  calm := true
  pn := []
  xe := fun e s' => wpAny (model P w) (A.deeper (lEnv q scope s.heap.objs.size f c' cl)) (leaving (lEnv q scope s.heap.objs.size f c' cl) e) (fun _ s'' => L2N.CX P w outer H s E e s'') (fun e' s'' => L2N.CX P w outer H s E e' s'') s'
/-- the lambda's names: captured ones and globals, and parameters that nothing reads -/
structure LScope (N ps : List Str) (scope : Scope) : Prop where
  kind : scope.kind = .function
  co : scope.isCoroutine = false
  gen : scope.isGenerator = false
  nocell : ∀ y ∈ scope.names, y.2 ≠ .cell
  noloc : ∀ y ∈ scope.names, y.2 = .local → y.1 ∉ N
  par : ∀ x ∈ ps, scope.names.lookup x = some .local
theorem frz_get {P : Program} {w : World} {H : Hp} {h : Heap} {a : Addr} {o : Obj} {u : HO} (ok : HOk P w H h) (e : H a = some (.frz o u)) : h.get? a = some o := (ok a _ e).1
section
variable {P : Program} {w : World} {K : PySem.W.Frag} {mg : Str → Option Value} {base : Heap} {k : Nat} {H : Hp} {f : Addr} {q : Str} {params : Arguments} {body : Expr} {scope : Scope} {cl : List (Str × Addr)} {ds : List V} {N ps : List Str} {σ : L2.St} {tb : XK → TE} {spf : Hp → VK → XK → Prop}
theorem lam_act (hL : LamAt H f q params body scope cl ds) (S : LScope N ps scope) (inj : ∀ x y c, cl.lookup x = some c → cl.lookup y = some c → x = y) (has : ∀ y ∈ scope.names, y.2 = .free → ∃ c, cl.lookup y.1 = some c)
    (cell : ∀ p ∈ cl, ∃ oc v, H p.2 = some (.frz oc (.own p.2)) ∧ oc.data = .cell v)
    (val : ∀ (i : Nat) (x : Str) (v : V), N[i]? = some x → σ[i]? = some (some v) → scope.names.lookup x = some .free → ∃ c oc u, cl.lookup x = some c ∧ H c = some (.frz oc (.own c)) ∧ oc.data = .cell (some u) ∧ RelV v u)
    (hlen : σ.length = N.length)
    (hb0 : ds = [] → ps = [] ∧ ∀ doc pm cv ctv, bindArgs (PySem.W.kdv_fn "<lambda>" q params (.expr body) scope cl .none doc pm cv ctv) ⟨[], []⟩ = pure [])
    (hb1 : ds ≠ [] → ∀ (T : Addr) doc pm cv ctv (its : List Value), its.length = ds.length → ∃ kk, bindArgs (PySem.W.kdv_fn "<lambda>" q params (.expr body) scope cl (.ref T) doc pm cv ctv) ⟨[], []⟩ = seqItems? (.ref T) >>= kk ∧ kk (some its.toArray) = pure (ps.zip its))
    (hbody : ∀ (c' : Addr) (A : Around) (outer : List Env) (s : Shared) (H' : Hp) (E : XK), Room k (lCx P w K mg base N q scope cl f c' A outer s H' E).A → PE (lCx P w K mg base N q scope cl f c' A outer s H' E) body (tb E))
    (hsp : ∀ H' Q E, Keeps H H' → spf H' Q E → tb (fun cls d H2 => (∀ c ∈ cl.map (·.2), H2 c = none) → E cls d (mixC H' H2 (cl.map (·.2)))) σ (offC H' (cl.map (·.2))) (fun v H2 => (∀ c ∈ cl.map (·.2), H2 c = none) → Q v (mixC H' H2 (cl.map (·.2))))) :
    Act P w K mg base (k + 1) H f spf := by
  intro A outer s H' Q E kp hr e0 h
  have cell' : ∀ p ∈ cl, ∃ oc v, H' p.2 = some (.frz oc (.own p.2)) ∧ oc.data = .cell v := fun p hp => by
    obtain ⟨oc, v, e1, e2⟩ := cell p hp
    exact ⟨oc, v, kp.1 _ _ _ e1, e2⟩
  have fz : FzC H' (cl.map (·.2)) := fun c hc => by
    obtain ⟨p, hp, e⟩ := List.mem_map.mp hc
    subst e
    obtain ⟨oc, v, e1, _⟩ := cell' p hp
    exact ⟨oc, e1⟩
  obtain ⟨dV, doc, pm, c', ctv, u, h1, h2, ⟨oc, vs, t, eu, hdc, hvc⟩, h4⟩ := hL.keep kp
  subst eu
  have gf := frz_get e0.hok h1
  have gc := frz_get e0.hok h2
  have hm : ∀ b o, base.get? b = some o → s.heap.get? b = some o ∧ offC H' (cl.map (·.2)) b = none := fun b o e => ⟨(e0.bs b o e).1, by
    by_cases m : b ∈ cl.map (·.2)
    · exact offC_in m
    · rw [offC_out m]; exact (e0.bs b o e).2⟩
  have e1 : Env0 P w K mg base A outer s (offC H' (cl.map (·.2))) := ⟨e0.frames, e0.mod, hm, e0.bsz, e0.funs, fun b hb => by
    by_cases m : b ∈ cl.map (·.2)
    · exact offC_in m
    · rw [offC_out m]; exact e0.frf b hb, hok_off e0.hok fz, e0.bare⟩
  have lim : s.heap.NoLimit := e0.mod.nolimit.keeps fun b o e => (e0.bs b o e).1
  obtain ⟨us, hus, hbind⟩ : ∃ us : List Value, us.length = ds.length ∧ BindsTo s (PySem.W.kdv_fn "<lambda>" q params (.expr body) scope cl dV doc pm (.ref c') ctv) ⟨[], []⟩ (ps.zip us) := by
    rcases h4 with ⟨e, e2⟩ | ⟨hd, T, e, hT⟩
    · subst e2
      obtain ⟨p0, hb⟩ := hb0 e
      refine ⟨[], by rw [e]; rfl, ?_⟩
      rw [p0]
      exact .of_eq (hb _ _ _ _)
    · subst e
      obtain ⟨hz, its, rv, ob, eo, ec, n, ed⟩ := (show ObjOk P w H' s.heap T (.tup ds) from e0.hok T _ hT)
      obtain ⟨kk, k1, k2⟩ := hb1 hd T doc pm (.ref c') ctv its rv.length.symm
      exact ⟨its, rv.length.symm, .of_defaults rfl eo ed k1 k2⟩
  have hloc : ∀ y ∈ ps.zip us, scope.names.lookup y.1 = some .local := fun ⟨n, v⟩ hy => S.par n (List.of_mem_zip hy).1
  have main : codeAny (model P w) A (.call (.ref f) ⟨[], []⟩) (CR (L2N.CX P w) outer P w (offC H' (cl.map (·.2))) s (fun v H2 => (∀ c ∈ cl.map (·.2), H2 c = none) → Q v (mixC H' H2 (cl.map (·.2)))) (fun cls d H2 => (∀ c ∈ cl.map (·.2), H2 c = none) → E cls d (mixC H' H2 (cl.map (·.2))))) s := by
    refine PySem.W.kla_callFunE hr.depth gf rfl S.co S.gen rfl ⟨c', oc, vs, t, rfl, gc, hdc, hvc⟩ (hbind _ _ _ _ ?_)
    refine wpAny_newFunctionEnv S.nocell hloc (fun h₁ hns hsb => ⟨lim.fresh _ hsb, ?_⟩) S.kind
    show codeAny _ _ (.expr body (lEnv q scope s.heap.objs.size f c' cl)) _ _
    have kp1 : ∀ b o, s.heap.get? b = some o → h₁.get? b = some o := fun b o e => hsb.extBut b o (Nat.ne_of_lt (Heap.lt_size e)) (Heap.get?_push_of_some _ e)
    have J : Inv (lCx P w K mg base N q scope cl f c' A outer s (offC H' (cl.map (·.2))) (fun cls d H2 => (∀ c ∈ cl.map (·.2), H2 c = none) → E cls d (mixC H' H2 (cl.map (·.2))))) [] σ (offC H' (cl.map (·.2))) { s with heap := h₁, toks := s.toks + (ps.zip us).length } := by
      have noA : ∀ b : Addr, b ∉ (lCx P w K mg base N q scope cl f c' A outer s (offC H' (cl.map (·.2))) (fun cls d H2 => (∀ c ∈ cl.map (·.2), H2 c = none) → E cls d (mixC H' H2 (cl.map (·.2))))).ex := fun b z => absurd (show b ∈ ([] : List Addr) from z) (by simp)
      refine ⟨⟨e1.mod, S.kind, rfl, rfl, Nat.le_refl _, inj, fun y hy => ?_, fun y c z _ => ?_, fun _ => hr.hd, Around.frames_deeper e1.frames, .inr ⟨rfl, rfl⟩, fun b z => absurd z (noA b), e1.bs, e1.bsz, fun b _ _ => noA b, fun b z => absurd z (noA b), e1.funs, e1.frf⟩,
        rfl, e1.bare, Un.kept kp1, ⟨_, hns, fun i y v h1 h2 h3 => ?_⟩, fun y c e => ?_, e1.hok.fresh (Nat.le_refl _), fun y c e => ?_, fun q hq => absurd (show q ∈ ([] : List (Addr × Obj)) ++ [] from hq) (by simp), e1.hok.kept kp1, hlen⟩
      · have hy : scope.names.lookup y = some .cell ∨ scope.names.lookup y = some .free := hy
        rcases hy with hy | hy
        · exact absurd rfl (S.nocell _ (PySem.mem_of_lookup hy))
        · exact has _ (PySem.mem_of_lookup hy) rfl
      · have z : false = true := z
        cases z
      · have h3 : Vis scope y := h3
        rcases h3 with z | z | z
        · exact absurd (List.mem_of_getElem? h1) (S.noloc _ (PySem.mem_of_lookup z) rfl)
        · exact absurd rfl (S.nocell _ (PySem.mem_of_lookup z))
        · obtain ⟨c, oc, u, e2, e3, e4, e5⟩ := val i y v h1 h2 z
          exact ⟨u, e5, .inr ⟨.inr z, c, e2, oc, kp1 _ _ (frz_get e0.hok (kp.1 _ _ _ e3)), e4⟩⟩
      · have e : cl.lookup y = some c := e
        obtain ⟨oc, v, e2, e3⟩ := cell' _ (PySem.mem_of_lookup e)
        exact ⟨v, oc, kp1 _ _ (frz_get e0.hok e2), e3⟩
      · have e : cl.lookup y = some c := e
        exact offC_in (List.mem_map.mpr ⟨_, PySem.mem_of_lookup e, rfl⟩)
    refine PySem.W.kla_codeExpr (wpAny_mono ((hbody c' A outer s _ _ (hr.deeper _)).run [] _ _ _ _ J (hsp H' Q E kp h)) (fun v s' hq => ?_) fun e s' hq => hq)
    obtain ⟨w', H2, J2, rv, q⟩ := hq
    exact ⟨w', H2, J2.os, J2.bare, J2.base, J2.hok, rv, q⟩
  have nfr : ∀ c ∈ cl.map (·.2), c ∉ frs outer := fun c hc hf => by
    have z := e0.frf c hf
    obtain ⟨oc, e⟩ := fz c hc
    rw [e] at z
    cases z
  refine codeAny_mono main fun r s' hq => ?_
  cases r with
  | error e =>
    obtain ⟨a, B, H2, cls, d, ea, fl, hok, ub, na, os, ag, hE⟩ := hq
    have hg : ∀ c ∈ cl.map (·.2), ∀ oc u, H' c = some (.frz oc u) → B.get? c = some oc := fun c hc oc u e => ub.keep c oc (frz_get e0.hok e) (offC_in hc) (nfr c hc)
    have hn : ∀ c ∈ cl.map (·.2), H2 c = none := fun c hc => by
      obtain ⟨oc, e⟩ := fz c hc
      exact ub.free c oc (frz_get e0.hok e) (offC_in hc)
    refine ⟨a, B, _, cls, d, ea, fl, hok_mix hok fz hn hg, ub_mix ub fz, ?_, os, ag, hE hn⟩
    rw [mixC_out fun m => by
      obtain ⟨oc, e⟩ := fz a m
      have z := hg a m oc _ e
      rw [fl.2.1] at z
      cases z]
    exact na
  | ok fl =>
    cases fl with
    | ret u =>
      obtain ⟨v, H2, os, bare, un, hok, rv, qv⟩ := hq
      have hg : ∀ c ∈ cl.map (·.2), ∀ oc u, H' c = some (.frz oc u) → s'.heap.get? c = some oc := fun c hc oc u e => un.keep c oc (frz_get e0.hok e) (offC_in hc) (nfr c hc) (by simp)
      have hn : ∀ c ∈ cl.map (·.2), H2 c = none := fun c hc => by
        obtain ⟨oc, e⟩ := fz c hc
        exact un.free c oc (frz_get e0.hok e) (offC_in hc) (by simp)
      exact ⟨v, _, os, bare, un_mix un fz, hok_mix hok fz hn hg, rv, qv hn⟩
    | next => exact False.elim hq
    | brk => exact False.elim hq
    | cont => exact False.elim hq
end
end Rd
set_option maxHeartbeats 2000000
namespace Rd
open PySem PySem.Spec PyProof.Rows L2
/-! ## calling what a local name holds; calling a def while one's own cells are known -/
section
variable {X : Cx} {k i : Nat} {x : Str} {p pos : Pos} {W : WX}
/-- f is a lambda, known -/
def IsLam (H : Hp) (f : Addr) : Prop := ∃ (dV : Value) (q : Str) (params : Arguments) (body : Expr) (scope : Scope) (cl : List (Str × Addr)) (doc pm : Value) (c' : Addr) (ctv : Value), H f = some (.frz (PySem.W.kdv_obj "<lambda>" q params (.expr body) scope cl dV doc pm c' ctv) (.own f))
theorem IsLam.keep {H H' : Hp} {f : Addr} (h : IsLam H f) (k : Keeps H H') : IsLam H' f := by
  obtain ⟨dV, q, params, body, scope, cl, doc, pm, c', ctv, e⟩ := h
  exact ⟨dV, q, params, body, scope, cl, doc, pm, c', ctv, k.1 _ _ _ e⟩
theorem LamAt.is {H : Hp} {f : Addr} {q : Str} {params : Arguments} {body : Expr} {scope : Scope} {cl : List (Str × Addr)} {ds : List V} (h : LamAt H f q params body scope cl ds) : IsLam H f := by
  obtain ⟨dV, doc, pm, c', ctv, u, e, _⟩ := h
  exact ⟨_, _, _, _, _, _, _, _, _, _, e⟩
/-- x(), x a local name that holds something with a promise -/
def tAsk (P : Program) (w : World) (K : PySem.W.Frag) (mg : Str → Option Value) (base : Heap) (k i : Nat) (W : WX) : TE := fun σ H Q => ∃ (f : Addr) (spf : Hp → VK → XK → Prop), σ[i]? = some (some (.ref f)) ∧ IsLam H f ∧ Act P w K mg base k H f spf ∧ spf H Q (fun cls d H' => W cls d σ H')
theorem callee_ref {pins : List (Addr × Obj)} {σ : L2.St} {H : Hp} {s : Shared} {f : Addr} {Q : VK} {spf : Hp → VK → XK → Prop} (hr : Room k X.A) (tk : L2N.Takes X W) (I : Inv X pins σ H s) (A : Act X.prog X.w X.K X.mg X.base k H f spf) (h : spf H Q (fun cls d H' => W cls d σ H')) :
    wpAny (model X.prog X.w) X.A (call (.ref f) []) (EP X pins σ Q) X.xe s := by
  refine wpAny_call (codeAny_mono (A X.A X.stack s H Q _ .refl hr I.env0 h) fun r s' hq => ?_)
  cases r with
  | error e => exact tk e s' (L2N.XE.of_call I (fun _ _ _ h => h) hq)
  | ok fl =>
    cases fl with
    | ret u => exact I.after hq
    | next => exact False.elim hq
    | brk => exact False.elim hq
    | cont => exact False.elim hq
theorem pe_ask (hr : Room k X.A) (tk : L2N.Takes X W) (hN : X.N[i]? = some x) (hv : Vis X.env.scope x)
    (hd : (x == ("__debug__" : Str)) = false := by decide) (hcd : (x == ("__classdict__" : Str)) = false := by decide) :
    PE X (.Call (.Name x p) [] [] pos) (tAsk X.prog X.w X.K X.mg X.base k i W) := by
  refine ⟨fun pins s σ H Q I h => ?_⟩
  obtain ⟨f, spf, hs, ⟨dV, q, params, body, scope, cl, doc, pm, c', ctv, hF⟩, hA, hq⟩ := h
  refine wpAny_Call_Name_kw (thn ((pe_var (pos := p) (i := i) hN hv hd hcd).run pins s σ H (fun v H1 => v = .ref f ∧ H1 = H) I ⟨.ref f, hs, rfl, rfl⟩) fun u s1 ⟨v, H1, I1, r1, e1, e2⟩ => ?_)
  subst e1
  rw [e2] at I1
  obtain rfl : u = Value.ref f := r1
  exact PySem.W.callWith_F0 ⟨_, _, _, _, frz_get I1.hok hF⟩ (callee_ref hr tk I1 hA hq)
end
/-! ### the cells of the frame that runs, known while a call runs -/
def cellsOf (env : Env) : List Addr := (env.cells.map (·.1)).filterMap fun x => env.cells.lookup x
theorem mem_cellsOf {env : Env} {c : Addr} : c ∈ cellsOf env ↔ ∃ x, env.cells.lookup x = some c := by
  constructor
  · intro h
    obtain ⟨x, _, e⟩ := List.mem_filterMap.mp h
    exact ⟨x, e⟩
  · rintro ⟨x, e⟩
    exact List.mem_filterMap.mpr ⟨x, List.mem_map.mpr ⟨(x, c), PySem.mem_of_lookup e, rfl⟩, e⟩
/-- the frame's cells are known in Hz, with the values of its slots -/
structure FzVal (env : Env) (N : List Str) (σ : L2.St) (Hz : Hp) : Prop where
  cell : ∀ x c, env.cells.lookup x = some c → ∃ oc v, Hz c = some (.frz oc (.own c)) ∧ oc.data = .cell v
  val : ∀ (i : Nat) (x : Str) (v : V) (c : Addr), N[i]? = some x → σ[i]? = some (some v) → env.scope.names.lookup x = some .cell → env.cells.lookup x = some c → ∃ oc u, Hz c = some (.frz oc (.own c)) ∧ oc.data = .cell (some u) ∧ RelV v u
theorem FzVal.keep {env : Env} {N : List Str} {σ : L2.St} {Hz H' : Hp} (z : FzVal env N σ Hz) (k : Keeps Hz H') : FzVal env N σ H' :=
  ⟨fun x c e => let ⟨oc, v, a, b⟩ := z.cell x c e; ⟨oc, v, k.1 _ _ _ a, b⟩, fun i x v c h1 h2 h3 h4 => let ⟨oc, u, a, b⟩ := z.val i x v c h1 h2 h3 h4; ⟨oc, u, k.1 _ _ _ a, b⟩⟩
def tCallZ (env : Env) (N : List Str) (sp : Sp) (t : TA) : TE := fun σ H Q => t σ H fun vs H1 => ∀ Hz, FzOf H1 Hz (cellsOf env) → FzVal env N σ Hz → sp vs Hz (fun v H' => Q v (offC H' (cellsOf env))) E0
section
variable {X : Cx} {CX : CXT} {k : Nat} {f : Addr} {fd : FuncData} {ps : List Str} {sp : Sp} {x : Str} {p pos : Pos} {e : Expr} {es : List Expr} {t : TA}
theorem pe_callZ (F : FnOk X.prog X.w X.K X.mg X.base CX k f fd ps sp) (hr : Room k X.A) (hfn : ∀ y, X.fn y = true) (hg : Gl X x) (hm : X.mg x = some (.ref f)) (hk : PySem.W.keepIn X.K (.ref f) = true) (hb : Binds X.K fd ps [])
    (hx : ∀ (outer : List Env) (H : Hp) (s : Shared) (e : Value) (s' : Shared), CX outer H s E0 e s' → False)
    (ha : PA X (e :: es) t) (hdb : (x == ("__debug__" : Str)) = false := by decide) (he : starEach (e :: es) X.env = (false, eval e X.env) :: starEach es X.env := by rfl) (hpl : (backTo pos (starEach es X.env)).any (·.1) = false := by rfl) :
    PE X (.Call (.Name x p) (e :: es) [] pos) (tCallZ X.env X.N sp t) := by
  refine ⟨fun pins s σ H Q I h => ?_⟩
  refine wpAny_Call_Name_kw (ld_glob I hg hm ?_ hdb)
  refine PySem.W.callWith_K (h₀ := X.base) I.ok.mod.kin hk (thn (ha.run pos pins s σ H _ I h) fun us s1 ⟨vs, H1, I1, r, hq⟩ => ⟨I1.kIn, ?_⟩) he hpl
  have cN : ∀ c ∈ cellsOf X.env, H1 c = none := fun c hc => by
    obtain ⟨y, e⟩ := mem_cellsOf.mp hc
    exact I1.freeC y c e
  have cG : ∀ c ∈ cellsOf X.env, ∃ o, s1.heap.get? c = some o := fun c hc => by
    obtain ⟨y, e⟩ := mem_cellsOf.mp hc
    obtain ⟨v, o, ho, _⟩ := I1.cell y c e
    exact ⟨o, ho⟩
  have cA : ∀ c ∈ cellsOf X.env, X.s_0.heap.objs.size ≤ c := fun c hc => by
    obtain ⟨y, e⟩ := mem_cellsOf.mp hc
    exact I1.ok.cab y c (hfn y) e
  have fz := onC_of (h := s1.heap) cN cG
  have hokz := hok_on I1.hok cN cG
  have env0 := I1.env0
  have outZ : ∀ b, b ∉ cellsOf X.env → onC H1 s1.heap (cellsOf X.env) b = H1 b := fz.out
  have ez : Env0 X.prog X.w X.K X.mg X.base X.A X.stack s1 (onC H1 s1.heap (cellsOf X.env)) := by
    refine ⟨env0.frames, env0.mod, fun b o e => ⟨(env0.bs b o e).1, ?_⟩, env0.bsz, env0.funs, fun b hb => ?_, hokz, env0.bare⟩
    · rw [outZ b fun m => by
        have h1 := Heap.lt_size e
        exact absurd (Nat.lt_of_lt_of_le h1 (Nat.le_trans I1.ok.bsz (cA b m))) (Nat.lt_irrefl _)]
      exact (env0.bs b o e).2
    · rw [outZ b fun m => by
        rcases List.mem_cons.mp (I1.stkSub b hb) with z | z
        · obtain ⟨y, e⟩ := mem_cellsOf.mp m
          exact I1.cne y b e z
        · obtain ⟨_, o, ho, _⟩ := I1.ok.funs.mem z
          exact absurd (Nat.lt_of_lt_of_le (Heap.lt_size ho) (cA b m)) (Nat.lt_irrefl _)]
      exact env0.frf b hb
  have fv : FzVal X.env X.N σ (onC H1 s1.heap (cellsOf X.env)) := by
    refine ⟨fun y c e => ?_, fun i y v c h1 h2 h3 h4 => ?_⟩
    · obtain ⟨v, o, ho, hd⟩ := I1.cell y c e
      exact ⟨o, v, onC_at (mem_cellsOf.mpr ⟨y, e⟩) ho, hd⟩
    · obtain ⟨m, _, hl⟩ := I1.loc
      obtain ⟨u, ru, l⟩ := hl i y v h1 h2 (.inr (.inl h3))
      rcases l with ⟨k1, _⟩ | ⟨_, c2, e2, o, ho, hd⟩
      · have k1 : X.env.scope.names.lookup y = some .local := k1
        rw [h3] at k1
        cases k1
      · rw [h4] at e2
        cases e2
        exact ⟨o, u, onC_at (mem_cellsOf.mpr ⟨y, h4⟩) ho, hd, ru⟩
  have hs := hq _ fz fv
  have hl : us.length = ps.length := by rw [← r.length]; exact F.len _ _ _ _ hs
  have b := hb s1 us I1.kIn (by rw [List.append_nil]; exact hl)
  rw [List.append_nil] at b
  refine wpAny_call (codeAny_mono (F.run X.A X.stack s1 _ ⟨us, []⟩ us vs _ E0 hr ez b r hs) fun r' s' hq' => ?_)
  cases r' with
  | error e => exact (hx _ _ _ _ _ hq').elim
  | ok fl =>
    cases fl with
    | ret u =>
      obtain ⟨v, H', os, bare, un, hok, rv, qv⟩ := hq'
      have fz' : FzC H' (cellsOf X.env) := fun c hc => by
        obtain ⟨oc, e⟩ := fz.fz c hc
        exact ⟨oc, un.frzs c _ _ e⟩
      exact I1.after ⟨v, offC H' (cellsOf X.env), os, bare, un_off un fz hokz hok, hok_off hok fz', rv, qv⟩
    | next => exact False.elim hq'
    | brk => exact False.elim hq'
    | cont => exact False.elim hq'
end
theorem noxN {P : Program} {w : World} (outer : List Env) (H : Hp) (s : Shared) (e : Value) (s' : Shared) (h : L2N.CX P w outer H s E0 e s') : False := by
  obtain ⟨_, _, _, _, _, _, _, _, _, _, _, _, z⟩ := h
  exact z.elim
end Rd
set_option maxHeartbeats 2000000
namespace PySem.W
open PySem PySem.Spec PySem.Calls PyProof.Rows
section
variable {prog : Program} {w : World} {A : Around} {E : Value → Shared → Prop} {s : Shared} {K : Frag} {x y C D f : Addr} {ox oy : Obj} {od od' : Option Obj} {b tb : Value}
/-- an own comparison of x is asked first -/
theorem cmp_own {op : CmpOp} {Q : Value → Shared → Prop} (hu : A.units < cLine) (X : K.In s.heap) (I : InstAt s.heap x ox C od) (hb : Looks (model prog w) s.heap (typeOf b) tb) (hn : notFirst K C tb = true)
    (h : wpAny (model prog w) A (callSpecialIfBound? (.ref x) (cmpInfo op).2.1 [b]) (fun r s' => ∃ v, r = some v ∧ CmpBack Q v s') E s) : wpAny (model prog w) A (richCompare op (.ref x) b) Q E s := by
  have one : wpAny (model prog w) A (tryCompare (.ref x) (cmpInfo op).2.1 b) (fun r s' => ∃ v, r = some v ∧ Q v s') E s := by
    unfold tryCompare
    refine wpAny_bind (wpAny_mono h (fun r s' hr => ?_) fun _ _ e => e)
    obtain ⟨v, rfl, hv⟩ := hr
    cases v <;> first | exact hv.elim | exact wpAny_pure ⟨_, rfl, hv⟩
  unfold richCompare
  simp only [oneThing_ref]
  refine wpAny_holding (wpAny_bind (wpAny_cRoomFor hu ?_))
  refine wpAny_bind (I.type.here (wpAny_bind (hb.here ?_)))
  have fin : wpAny (model prog w) A (tryCompare (.ref x) (cmpInfo op).2.1 b) (fun r s' => ∃ v, r = some v ∧ Q v s') E s := one
  split
  · rename_i q
    have e : subIn K tb (.ref C) = some false := by
      rcases Bool.or_eq_true_iff.mp hn with e | e
      · rw [beq_iff_eq.mp e] at q; simp at q
      · exact beq_iff_eq.mp e
    refine wpAny_bind ((looks_subIn X e).here ?_)
    simp only [Bool.false_eq_true, if_false]
    refine wpAny_bind (wpAny_mono fin (fun r s' z => ?_) fun _ _ e => e)
    obtain ⟨v, rfl, hq⟩ := z
    exact wpAny_pure hq
  · refine wpAny_bind (wpAny_pure ?_)
    simp only [Bool.false_eq_true, if_false]
    refine wpAny_bind (wpAny_mono fin (fun r s' z => ?_) fun _ _ e => e)
    obtain ⟨v, rfl, hq⟩ := z
    exact wpAny_pure hq
/-- x == y where y's class lies below x's: y is asked first -/
theorem cmp_below {Q : Value → Shared → Prop} (hu : A.units < cLine) (X : K.In s.heap) (I : InstAt s.heap x ox C od) (J : InstAt s.heap y oy D od') (hne : D ≠ C) (hsub : subIn K (.ref D) (.ref C) = some true)
    (hs : findIn K (.ref D) "__eq__" = some (some (.ref f))) (hf : isFn K (.ref f) = true) (h : wpAny (model prog w) A (call (.ref f) [.ref y, .ref x]) (CmpBack Q) E s) : wpAny (model prog w) A (richCompare .Eq (.ref x) (.ref y)) Q E s := by
  have one : wpAny (model prog w) A (tryCompare (.ref y) (cmpInfo .Eq).2.2 (.ref x)) (fun r s' => ∃ v, r = some v ∧ Q v s') E s := by
    unfold tryCompare
    refine wpAny_bind (ifBound_K X J hs hf (wpAny_mono h (fun v s' hv => ?_) fun _ _ e => e))
    cases v <;> first | exact hv.elim | exact wpAny_pure ⟨_, rfl, hv⟩
  unfold richCompare
  simp only [oneThing_ref]
  refine wpAny_holding (wpAny_bind (wpAny_cRoomFor hu ?_))
  refine wpAny_bind (I.type.here (wpAny_bind (J.type.here ?_)))
  have q : (Value.ref C != Value.ref D) = true := by
    rw [bne_iff_ne]
    intro z
    cases z
    exact hne rfl
  rw [if_pos q]
  refine wpAny_bind ((looks_subIn X hsub).here ?_)
  simp only [if_true]
  refine wpAny_bind (wpAny_mono one (fun r s' z => ?_) fun _ _ e => e)
  obtain ⟨v, rfl, hq⟩ := z
  first
    | exact wpAny_pure hq
    | exact wpAny_bind (wpAny_pure (wpAny_pure hq))
    | (wp_walk; exact hq)
open Builtin in
/-- x != b of an own == (object.__ne__ turns it round) -/
theorem cmp_ne {Q : Value → Shared → Prop} (hu : A.units < cLine) (hu1 : A.in1.units < cLine) (X : K.In s.heap) (I : InstAt s.heap x ox C od) (hm : mroIn K C (.type "object") = some true) (hb : Looks (model prog w) s.heap (typeOf b) tb) (hn : notFirst K C tb = true)
    (hne : findIn K (.ref C) "__ne__" = some (some (.builtin "object.__ne__"))) (hs : findIn K (.ref C) "__eq__" = some (some (.ref f))) (hf : isFn K (.ref f) = true)
    (h : wpAny (model prog w) A.in1 (call (.ref f) [.ref x, b]) (fun v s' => ∃ r, v = .bool r ∧ Q (.bool (!r)) s') E s) : wpAny (model prog w) A (richCompare .NotEq (.ref x) b) Q E s := by
  refine cmp_own (op := .NotEq) hu X I hb hn ?_
  show wpAny (model prog w) A (callSpecialIfBound? (.ref x) "__ne__" [b]) _ E s
  simp only [callSpecialIfBound?, bindSpecialIfBound?]
  refine wpAny_holding (wpAny_bind (wpAny_bind (wpAny_bind (I.type.here ((looks_findIn X hne).here ?_)))))
  refine wpAny_bind (wpAny_askSetting (wpAny_ite ?_))
  have go : wpAny (model prog w) A (call (.builtin "object.__ne__") [.ref x, b]) (fun v s' => CmpBack Q v s') E s := by
    refine wpAny_call (codeAny_call_builtin PySem.F.cmp_object.ne.plain PySem.F.cmpEntry_ne (check_slot (i := "object.__ne__") (owner := "object") (n := "__ne__") PySem.F.cmpKind_ne PySem.F.cmpSplit_ne (I.type.andThen (looks_mroIn X hm)) (PySem.F.cmpArgs_ne _ _) ?_))
    unfold Builtin.«object.__ne__»
    refine wpAny_bind (m := slotArgs "__ne__" 1 _) (wpAny_pure ?_)
    refine wpAny_bind (m := cRoomFor _ _) (wpAny_cRoomFor hu1 ?_)
    refine wpAny_bind (m := callSpecialIfBound? (.ref x) (Str.ofString "__eq__") _) (ifBound_K X I hs hf (wpAny_mono h (fun r s' hq => ?_) fun _ _ y => y))
    obtain ⟨r, rfl, hq⟩ := hq
    refine wpAny_bind (wpAny_truthy_bool ?_)
    exact wpAny_pure hq
  have fin : wpAny (model prog w) A (call (.builtin "object.__ne__") ([.ref x] ++ [b]) >>= fun v => pure (some v)) (fun r s' => ∃ v, r = some v ∧ CmpBack Q v s') E s :=
    wpAny_bind (wpAny_mono go (fun v s' h' => wpAny_pure ⟨v, rfl, h'⟩) fun _ _ h' => h')
  simp only [PySem.F.cmp_object.ne.bind]
  split
  · exact wpAny_bind (wpAny_pure (wpAny_pure fin))
  · exact wpAny_tryCatch (wpAny_bind (wpAny_pure (wpAny_pure fin)))
end
end PySem.W
set_option maxHeartbeats 2000000
namespace Rd
open PySem PySem.Spec PyProof.Rows L2
/-! ## own classes that share their defs: methods, ==, !=, repr -/
section
variable {X : Cx} {CX : CXT} {k : Nat} {f : Addr} {fd : FuncData} {ps ks : List Str} {sp : Sp} {S : Addr → Prop} {m : Str}
theorem call_at {A' : Around} {pins : List (Addr × Obj)} {σ : L2.St} {H : Hp} {s : Shared} {Q : VK} {us : List Value} {vs : List V} (F : FnOk X.prog X.w X.K X.mg X.base CX k f fd ps sp) (hr : Room k A') (hfr : A'.frames = X.A.frames) (hb : Binds X.K fd ps []) (hx : Passes CX X E0)
    (I : Inv X pins σ H s) (r : Vals vs us) (h : sp vs H Q E0) : wpAny (model X.prog X.w) A' (call (.ref f) us) (EP X pins σ Q) X.xe s := by
  have e := I.env0
  have e0 : Env0 X.prog X.w X.K X.mg X.base A' X.stack s H := ⟨by rw [hfr]; exact e.frames, e.mod, e.bs, e.bsz, e.funs, e.frf, e.hok, e.bare⟩
  have hl : us.length = ps.length := by rw [← r.length]; exact F.len _ _ _ _ h
  have b := hb s us I.kIn (by rw [List.append_nil]; exact hl)
  rw [List.append_nil] at b
  refine wpAny_call (codeAny_mono (F.run A' X.stack s H ⟨us, []⟩ us vs Q E0 hr e0 b r h) fun r s' hq => ?_)
  cases r with
  | error e => exact hx pins σ H s e s' I hq
  | ok fl =>
    cases fl with
    | ret u => exact I.after hq
    | next => exact False.elim hq
    | brk => exact False.elim hq
    | cont => exact False.elim hq
/-- the classes of S: plain ones, all over object -/
structure Fam (K : PySem.W.Frag) (S : Addr → Prop) : Prop where
  cls : ∀ C, S C → Cls K C
  obj : ∀ C, S C → PySem.W.mroIn K C (.type "object") = some true
/-- a def that all of S have under a name -/
def MethF (K : PySem.W.Frag) (S : Addr → Prop) (m : Str) (f : Addr) : Prop := ∀ C, S C → Meth K C m f
def tMethF (S : Addr → Prop) (m : Str) (sp : Sp) (ta : TE) (t : TA) : TE := fun σ H Q => ta σ H fun x H1 => ∃ a C dx fs, x = .ref a ∧ S C ∧ H1 a = some (.ins C dx fs) ∧ fs.lookup m = none ∧ t σ H1 fun vs H2 => sp (x :: vs) H2 Q E0
def tMethFK (S : Addr → Prop) (m : Str) (n : Nat) (sp : Sp) (gV : List V → List V → List V) (ta : TE) (tk : TA) : TE := fun σ H Q => ta σ H fun x H1 => ∃ a C dx fs, x = .ref a ∧ S C ∧ H1 a = some (.ins C dx fs) ∧ fs.lookup m = none ∧ tk σ H1 fun zs H2 => zs.length = n ∧ sp (gV [x] zs) H2 Q E0
variable {o e : Expr} {es : List Expr} {kws : List Keyword} {ta : TE} {t tk : TA} {apos pos : Pos} {g : List Value → List Value → List Value} {gV : List V → List V → List V}
theorem pe_methF {pl : Sem Bool} (he : PE X o ta) (W : Fam X.K S) (hm : MethF X.K S m f) (F : FnOk X.prog X.w X.K X.mg X.base CX k f fd ps sp) (hr : Room k X.A) (hb : Binds X.K fd ps []) (hx : Passes CX X E0) (ha : PA X (e :: es) t)
    (hst : starEach (e :: es) X.env = (false, eval e X.env) :: starEach es X.env := by rfl) (hpl : (backTo pos (starEach es X.env)).any (·.1) = false := by rfl)
    (ht : eval (.Call (.Attribute o m apos) (e :: es) [] pos) X.env = (do
      let ov ← eval o X.env
      standAt apos.atName
      let (f, first) ← holding [ov] (getMethod ov m pl)
      callWith pos f first (backTo pos (starEach (e :: es) X.env)) (backToKw pos (keywordEach [] X.env))) := by rfl) :
    PE X (.Call (.Attribute o m apos) (e :: es) [] pos) (tMethF S m sp ta t) := by
  refine ⟨fun pins s σ H Q I h => ?_⟩
  refine PySem.W.methodCall_KW (pl := pl) (thn (he.run pins s σ H _ I h) fun u s1 ⟨x, H1, I1, rx, a, C, dx, fs, ex, hC, ea, l, q⟩ => ?_) ht
  subst ex
  obtain rfl : u = Value.ref a := rx
  refine getmeth_ok I1 ea (W.cls C hC) (hm C hC) l ?_
  refine PySem.W.callWith_K (first := [.ref a]) (h₀ := X.base) I.ok.mod.kin (hm C hC).kp (thn (ha.run pos pins s1 σ H1 _ I1 q) fun us s2 ⟨vs, H2, I2, r, q2⟩ => ⟨I2.kIn, ?_⟩) hst hpl
  exact call_at (us := .ref a :: us) (vs := .ref a :: vs) F hr rfl hb hx I2 (.cons rfl r) q2
theorem pe_methF0 {pl : Sem Bool} (he : PE X o ta) (W : Fam X.K S) (hm : MethF X.K S m f) (F : FnOk X.prog X.w X.K X.mg X.base CX k f fd ps sp) (hr : Room k X.A) (hb : Binds X.K fd ps []) (hx : Passes CX X E0)
    (ht : eval (.Call (.Attribute o m apos) [] [] pos) X.env = (do
      let ov ← eval o X.env
      standAt apos.atName
      let (f, first) ← holding [ov] (getMethod ov m pl)
      callWith pos f first (backTo pos (starEach [] X.env)) (backToKw pos (keywordEach [] X.env))) := by rfl) :
    PE X (.Call (.Attribute o m apos) [] [] pos) (tMethF S m sp ta tNil) := by
  refine ⟨fun pins s σ H Q I h => ?_⟩
  refine PySem.W.methodCall_KW (pl := pl) (thn (he.run pins s σ H _ I h) fun u s1 ⟨x, H1, I1, rx, a, C, dx, fs, ex, hC, ea, l, q⟩ => ?_) ht
  subst ex
  obtain rfl : u = Value.ref a := rx
  refine getmeth_ok I1 ea (W.cls C hC) (hm C hC) l ?_
  exact PySem.W.callWith_K0 (first := [.ref a]) I1.kIn (hm C hC).kp (call_at (us := [.ref a]) (vs := [.ref a]) F hr rfl hb hx I1 (.cons rfl .nil) q)
/-- o.m(k = v, ..) -/
theorem pe_methFK {pl : Sem Bool} (he : PE X o ta) (W : Fam X.K S) (hm : MethF X.K S m f) (F : FnOk X.prog X.w X.K X.mg X.base CX k f fd ps sp) (hr : Room k X.A) (hb : KBn X.K fd ps 1 ks g gV) (hx : Passes CX X E0) (hkw : PK X kws tk)
    (hall : (backToKw pos (keywordEach kws X.env)).all (·.1.isSome) = true := by rfl) (hks : (backToKw pos (keywordEach kws X.env)).filterMap (·.1) = ks := by rfl)
    (hpl : ((backTo pos (starEach [] X.env)).any (·.1) || (backToKw pos (keywordEach kws X.env)).any (·.1.isNone)) = false := by rfl)
    (ht : eval (.Call (.Attribute o m apos) [] kws pos) X.env = (do
      let ov ← eval o X.env
      standAt apos.atName
      let (f, first) ← holding [ov] (getMethod ov m pl)
      callWith pos f first (backTo pos (starEach [] X.env)) (backToKw pos (keywordEach kws X.env))) := by rfl) :
    PE X (.Call (.Attribute o m apos) [] kws pos) (tMethFK S m ks.length sp gV ta tk) := by
  refine ⟨fun pins s σ H Q I h => ?_⟩
  refine PySem.W.methodCall_KW (pl := pl) (thn (he.run pins s σ H _ I h) fun u s1 ⟨x, H1, I1, rx, a, C, dx, fs, ex, hC, ea, l, q⟩ => ?_) ht
  subst ex
  obtain rfl : u = Value.ref a := rx
  refine getmeth_ok I1 ea (W.cls C hC) (hm C hC) l ?_
  refine PySem.W.callWith_KW0 (first := [.ref a]) (h₀ := X.base) I.ok.mod.kin (hm C hC).kp hall (thn (hkw.run pos pins s1 σ H1 _ I1 q) fun ws s2 ⟨zs, H2, I2, rz, l2, q2⟩ => ⟨I2.kIn, ?_⟩) hpl
  rw [hks]
  have r2 := hb.rel (vs := [V.ref a]) (us := [Value.ref a]) (.cons rfl .nil) rz
  have hl : (g [Value.ref a] ws).length = ps.length := by rw [← r2.length]; exact F.len _ _ _ _ q2
  refine wpAny_call (codeAny_mono (F.run X.A X.stack s2 H2 ⟨[Value.ref a], ks.zip ws⟩ (g [Value.ref a] ws) (gV [V.ref a] zs) Q E0 hr I2.env0 (hb.to _ [Value.ref a] ws I2.kIn rfl (rz.length.symm.trans l2)) r2 q2) fun r s' hq => ?_)
  cases r with
  | error e => exact hx pins σ H2 s2 e s' I2 hq
  | ok fl =>
    cases fl with
    | ret u => exact I2.after hq
    | next => exact False.elim hq
    | brk => exact False.elim hq
    | cont => exact False.elim hq
/-! ### == and != -/
theorem look_ty {pins : List (Addr × Obj)} {σ : L2.St} {H : Hp} {s : Shared} {x : V} {u t : Value} (I : Inv X pins σ H s) (rx : RelV x u) (ty : TyX X.K H x t) : PySem.W.Looks (model X.prog X.w) s.heap (typeOf u) t := by
  obtain ⟨P, Z, p, _⟩ := kit_of I rx ty
  exact Z.ty _ _ I.kIn p
/-- S's classes as they are compared: the same own ==, != by object's -/
structure EqF (K : PySem.W.Frag) (S : Addr → Prop) (f : Addr) : Prop where
  eq : ∀ C, S C → PySem.W.findIn K (.ref C) "__eq__" = some (some (.ref f))
  ne : ∀ C, S C → PySem.W.findIn K (.ref C) "__ne__" = some (some (.builtin "object.__ne__"))
  fn : PySem.W.isFn K (.ref f) = true
/-- x == y, x of S: x is asked, or y, if its class lies below -/
def rEqF (K : PySem.W.Frag) (S : Addr → Prop) (sp : Sp) : R2 := fun x y H Q => ∃ a C dx fs, x = .ref a ∧ S C ∧ H a = some (.ins C dx fs) ∧
  ((∃ t, TyX K H y t ∧ PySem.W.notFirst K C t = true ∧ sp [x, y] H (fun v H' => ∃ b, v = .bl b ∧ Q v H') E0) ∨
    ∃ b D dy gs, y = .ref b ∧ S D ∧ H b = some (.ins D dy gs) ∧ D ≠ C ∧ PySem.W.subIn K (.ref D) (.ref C) = some true ∧ sp [y, x] H (fun v H' => ∃ b, v = .bl b ∧ Q v H') E0)
theorem inst_of {pins : List (Addr × Obj)} {σ : L2.St} {H : Hp} {s : Shared} {a C dx : Addr} {fs : List (Str × V)} (I : Inv X pins σ H s) (e : H a = some (.ins C dx fs)) : ∃ ox od, PySem.W.InstAt s.heap a ox C od := by
  obtain ⟨mA, J, _⟩ := ins_get I.hok e
  obtain ⟨od, J, _⟩ := J.look
  exact ⟨_, _, J⟩
theorem cmp_back {pins : List (Addr × Obj)} {σ : L2.St} {Q : VK} {v : Value} {s : Shared} (h : EP X pins σ (fun v H' => ∃ b, v = .bl b ∧ Q v H') v s) : PySem.W.CmpBack (EP X pins σ Q) v s := by
  obtain ⟨x, H', I', r, b, e, q⟩ := h
  subst e
  obtain rfl : v = Value.bool b := r
  exact ⟨.bl b, H', I', rfl, q⟩
theorem op_eqF (G : EqF X.K S f) (F : FnOk X.prog X.w X.K X.mg X.base CX k f fd ps sp) (hr : Room k X.A) (hb : Binds X.K fd ps []) (hx : Passes CX X E0) : OpR X (compareOp .Eq) (rEqF X.K S sp) := by
  intro pins s σ H x y v u Q I rx ry hq
  show wpAny (model X.prog X.w) X.A (richCompare .Eq v u) (EP X pins σ Q) X.xe s
  obtain ⟨a, C, dx, fs, ex, hC, ea, hq⟩ := hq
  subst ex
  obtain rfl : v = Value.ref a := rx
  obtain ⟨ox, od, J⟩ := inst_of I ea
  rcases hq with ⟨t, ty, nf, h⟩ | ⟨b, D, dy, gs, ey, hD, eb, ne, sub, h⟩
  · obtain ⟨m, hF⟩ := I.fr
    exact PySem.W.cmp_K (op := .Eq) hr.units0 hF I.ok.mod.kin J (look_ty I ry ty) nf (G.eq C hC) G.fn (wpAny_mono (call_at (us := [.ref a, u]) (vs := [.ref a, y]) F hr rfl hb hx I (.cons rfl (.cons ry .nil)) h) (fun _ _ z => cmp_back z) fun _ _ z => z)
  · subst ey
    obtain rfl : u = Value.ref b := ry
    obtain ⟨oy, od', J'⟩ := inst_of I eb
    exact PySem.W.cmp_below hr.units0 I.kIn J J' ne sub (G.eq D hD) G.fn (wpAny_mono (call_at (us := [.ref b, .ref a]) (vs := [.ref b, .ref a]) F hr rfl hb hx I (.cons rfl (.cons rfl .nil)) h) (fun _ _ z => cmp_back z) fun _ _ z => z)
/-- x != y, x of S and first -/
def rNeF (K : PySem.W.Frag) (S : Addr → Prop) (sp : Sp) : R2 := fun x y H Q => ∃ a C dx fs t, x = .ref a ∧ S C ∧ H a = some (.ins C dx fs) ∧ TyX K H y t ∧ PySem.W.notFirst K C t = true ∧ sp [x, y] H (fun v H' => ∃ b, v = .bl b ∧ Q (.bl (!b)) H') E0
theorem op_neF (W : Fam X.K S) (G : EqF X.K S f) (F : FnOk X.prog X.w X.K X.mg X.base CX k f fd ps sp) (hr : Room (k + 1) X.A) (hb : Binds X.K fd ps []) (hx : Passes CX X E0) : OpR X (compareOp .NotEq) (rNeF X.K S sp) := by
  intro pins s σ H x y v u Q I rx ry hq
  show wpAny (model X.prog X.w) X.A (richCompare .NotEq v u) (EP X pins σ Q) X.xe s
  obtain ⟨a, C, dx, fs, t, ex, hC, ea, ty, nf, h⟩ := hq
  subst ex
  obtain rfl : v = Value.ref a := rx
  obtain ⟨ox, od, J⟩ := inst_of I ea
  refine PySem.W.cmp_ne hr.units0 hr.in1.units0 I.kIn J (W.obj C hC) (look_ty I ry ty) nf (G.ne C hC) (G.eq C hC) G.fn (wpAny_mono (call_at (us := [.ref a, u]) (vs := [.ref a, y]) F hr.in1 rfl hb hx I (.cons rfl (.cons ry .nil)) h) (fun r s' z => ?_) fun _ _ z => z)
  obtain ⟨x, H', I', rr, b, e, q⟩ := z
  subst e
  obtain rfl : r = Value.bool b := rr
  exact ⟨b, rfl, .bl (!b), H', I', rfl, q⟩
/-- repr(x), x of S -/
def rRepF (S : Addr → Prop) (sp : Sp) : List V → Hp → VK → Prop := fun xs H Q => ∃ a C dx fs, xs = [.ref a] ∧ S C ∧ H a = some (.ins C dx fs) ∧ sp [.ref a] H (fun v H' => ∃ z, v = .str z ∧ Q v H') E0
theorem call_repF (hs : ∀ C, S C → PySem.W.findIn X.K (.ref C) "__repr__" = some (some (.ref f))) (hf : PySem.W.isFn X.K (.ref f) = true) (F : FnOk X.prog X.w X.K X.mg X.base CX k f fd ps sp) (hr : Room (k + 1) X.A) (hb : Binds X.K fd ps []) (hx : Passes CX X E0) :
    CallR X (.builtin "repr") (rRepF S sp) := by
  intro pins s σ H xs us Q I r h
  obtain ⟨a, C, dx, fs, rfl, hC, ea, h⟩ := h
  cases r with
  | cons r1 r2 =>
    cases r2
    obtain rfl : _ = Value.ref a := r1
    obtain ⟨ox, od, J⟩ := inst_of I ea
    obtain ⟨m, hF⟩ := I.fr
    refine PySem.W.repr_K hr.in1.units0 hF I.ok.mod.kin J (hs C hC) hf (wpAny_mono (call_at (us := [.ref a]) (vs := [.ref a]) F hr.in1 rfl hb hx I (.cons rfl .nil) h) (fun r s' z => ?_) fun _ _ z => z)
    obtain ⟨x, H', I', rr, y, e, q⟩ := z
    subst e
    obtain ⟨t, rfl⟩ := rr
    exact ⟨.str y, H', I', ⟨t, rfl⟩, q⟩
end
end Rd
set_option maxHeartbeats 2000000
namespace Rd
open PySem PySem.Spec PyProof.Rows L2
open Classical
/-! ## sorted(list of tuples of texts), fewer than 64 -/
/-- the order of tuples of texts -/
def ltT : List Str → List Str → Bool
  | [], [] => false
  | [], _ :: _ => true
  | _ :: _, [] => false
  | x :: xs, y :: ys => if x = y then ltT xs ys else decide (x.cps.toList < y.cps.toList)
/-- v is a tuple of these texts -/
def TupT (h : Heap) (v : Value) (zs : List Str) : Prop := ∃ (a : Addr) (xs : List Value), v = .ref a ∧ IsTup h a xs.toArray ∧ Vals (zs.map V.str) xs
theorem vals_str : ∀ {zs ws : List Str} {xs : List Value}, Vals (zs.map V.str) xs → Vals (ws.map V.str) xs → zs = ws
  | [], [], _, _, _ => rfl
  | [], _ :: _, _, a, b => by cases a; cases b
  | _ :: _, [], _, a, b => by cases b; cases a
  | z :: zs, w :: ws, _, .cons a1 a2, .cons b1 b2 => by
    obtain ⟨t, e⟩ := a1
    obtain ⟨t', e'⟩ := b1
    rw [e] at e'
    cases e'
    rw [vals_str a2 b2]
theorem TupT.eq {h : Heap} {v : Value} {zs ws : List Str} (a : TupT h v zs) (b : TupT h v ws) : zs = ws := by
  obtain ⟨p, xs, rfl, ⟨o, e, c, n, d⟩, r⟩ := a
  obtain ⟨p', ys, ep, ⟨o', e', c', n', d'⟩, r'⟩ := b
  cases ep
  rw [e] at e'
  cases e'
  rw [d] at d'
  have z := (Data.seq.inj d').1
  have z2 : xs = ys := by simpa using congrArg Array.toList z
  subst z2
  exact vals_str r r'
theorem TupT.keep {h h' : Heap} {v : Value} {zs : List Str} (a : TupT h v zs) (k : ∀ b o, h.get? b = some o → o.cls = .type "tuple" → h'.get? b = some o) : TupT h' v zs := by
  obtain ⟨p, xs, e, ⟨o, e1, c, n, d⟩, r⟩ := a
  exact ⟨p, xs, e, ⟨o, k _ _ e1 c, c, n, d⟩, r⟩
section
variable {prog : Program} {w : World} {A : Around} {E : Value → Shared → Prop} {s : Shared}
theorem oneLt_txt (c : Bool) {p q : Str} {t u : Tok} {Q : Bool → Shared → Prop} (h : Q (decide (p.cps.toList < q.cps.toList)) s) : wpAny (model prog w) A (oneLt' c (.str p t) (.str q u)) Q E s := by
  cases c with
  | true => exact oneLt_str h
  | false => exact PySem.W.kat_one _ _ (lt_str (Q := PySem.W.BoolBack Q) h)
theorem lex_txts {b : Bool} {Q : Bool → Shared → Prop} : ∀ {xs ys : List Value} {zs ws : List Str} (i : Nat), Vals (zs.map V.str) xs → Vals (ws.map V.str) ys → Q (ltT zs ws) s → PySem.W.KatLex prog w A b (decide (xs.length < ys.length)) Q (xs.zip ys) i s
  | _, _, [], [], i, r, r', h => by
    cases r
    cases r'
    exact PySem.W.kat_nil h
  | _, _, [], _ :: _, i, r, r', h => by
    cases r
    cases r' with
    | cons r1 r2 =>
      refine PySem.W.kat_nil ?_
      simpa [ltT] using h
  | _, _, _ :: _, [], i, r, r', h => by
    cases r'
    cases r with
    | cons r1 r2 => exact PySem.W.kat_nil h
  | _, _, z :: zs, w' :: ws, i, .cons r1 r2, .cons r3 r4, h => by
    obtain ⟨t, e⟩ := r1
    obtain ⟨t', e'⟩ := r3
    subst e e'
    rename_i xs ys
    have el : decide ((Value.str z t :: xs).length < (Value.str w' t' :: ys).length) = decide (xs.length < ys.length) := by
      simp only [List.length_cons, Nat.add_lt_add_iff_right]
    rw [el]
    show PySem.W.KatLex prog w A b _ Q ((Value.str z t, Value.str w' t') :: xs.zip ys) i s
    refine PySem.W.kat_cons (wpAny_eqBool_str ?_)
    by_cases ez : z = w'
    · subst ez
      rw [decide_eq_true rfl]
      refine PySem.W.kat_yes (lex_txts (i + 1) r2 r4 ?_)
      have : ltT (z :: zs) (z :: ws) = ltT zs ws := if_pos rfl
      rw [this] at h
      exact h
    · rw [decide_eq_false ez]
      refine PySem.W.kat_no (oneLt_txt _ ?_)
      have : ltT (z :: zs) (w' :: ws) = decide (z.cps.toList < w'.cps.toList) := if_neg ez
      rw [this] at h
      exact h
theorem firstsT {h : Heap} : ∀ vs : List Value, (∀ v ∈ vs, ∃ z zs, TupT h v (z :: zs)) → ∃ fs, PySem.W.KatTups h vs fs ∧ fs.length = vs.length ∧ ∀ f ∈ fs, ∃ n t, f = Value.str n t
  | [], _ => ⟨[], PySem.W.KatTups.nil, rfl, fun f hf => by simp at hf⟩
  | v :: vs, x => by
    obtain ⟨fs, k, hl, hi⟩ := firstsT vs fun u hu => x u (List.mem_cons_of_mem _ hu)
    obtain ⟨z, zs, a, xs, rfl, ⟨o, ho, hc, n, hd⟩, r⟩ := x v List.mem_cons_self
    cases r with
    | cons r1 r2 =>
      obtain ⟨t, rfl⟩ := r1
      refine ⟨_ :: fs, PySem.W.KatTups.cons (f := .str z t) ho hc hd (by simp) k, by simp [hl], fun f hf => ?_⟩
      rcases List.mem_cons.mp hf with rfl | hf
      · exact ⟨z, t, rfl⟩
      · exact hi f hf
theorem kind_txts {vs : List Value} (h2 : 2 ≤ vs.length) (x : ∀ v ∈ vs, ∃ z zs, TupT s.heap v (z :: zs)) (r : Value → Int) (R : List Str → Int) (hr : ∀ v ∈ vs, ∀ zs, TupT s.heap v zs → r v = R zs)
    (hR : ∀ v ∈ vs, ∀ u ∈ vs, ∀ zs ws, TupT s.heap v zs → TupT s.heap u ws → decide (R zs < R ws) = ltT zs ws) (Q : SortKind → Shared → Prop) (h : ∀ κ, TS.Cmp prog w A s κ (pairsOf vs) r → Q κ s) : wpAny (model prog w) A (keyKind' vs.toArray) Q E s := by
  obtain ⟨fs, k, hl, hi⟩ := firstsT vs x
  refine PySem.W.kat_kind (T := Value.type "str") k (by omega) (fun f hf => ?_) rfl (h _ fun p q hp hq Q' E' hQ => ?_)
  · obtain ⟨n, t, rfl⟩ := hi f hf
    exact PySem.W.Looks.of_pure rfl
  · rw [pairsOf_toList] at hp hq
    have mp := (mem_zip_self hp).2
    have mq := (mem_zip_self hq).2
    obtain ⟨z1, zs1, tp⟩ := x _ mp
    obtain ⟨z2, zs2, tq⟩ := x _ mq
    have e := hR _ mp _ mq _ _ tp tq
    rw [hr _ mp _ tp, hr _ mq _ tq, e] at hQ
    obtain ⟨a, xs, e1, ⟨o, ho, hc, n, hdt⟩, rx⟩ := tp
    obtain ⟨a', ys, e2, ⟨o', ho', hc', n', hdt'⟩, ry⟩ := tq
    rw [e1, e2]
    refine PySem.W.kat_lt ho hdt ho' hdt' ?_
    have z := lex_txts (prog := prog) (w := w) (A := A) (b := (Value.type "str" != Value.type "tuple")) 0 rx ry hQ
    simpa using z
/-- sorted of such a list, R its rank -/
theorem sorted_txts {l : Addr} {vs : List Value} {R : List Str → Int} {Q : Value → Shared → Prop} (hl : s.heap.IsList l vs.toArray) (h64 : vs.length < 64) (x : ∀ v ∈ vs, ∃ z zs, TupT s.heap v (z :: zs))
    (hR : ∀ v ∈ vs, ∀ u ∈ vs, ∀ zs ws, TupT s.heap v zs → TupT s.heap u ws → decide (R zs < R ws) = ltT zs ws)
    (h : ∀ out : Array Value, out.toList.Perm vs → out.toList.Pairwise (fun u v => ∀ zs ws, TupT s.heap u zs → TupT s.heap v ws → R zs ≤ R ws) → Q (.ref (s.heap.objs.size + 1)) { s with heap := sortedAll s.heap vs out }) :
    wpAny (model prog w) A (call (.builtin "sorted") [.ref l]) Q E s := by
  -- the rank of a value
  let r : Value → Int := fun v => if hv : ∃ zs, TupT s.heap v zs then R hv.choose else 0
  have rv : ∀ v zs, TupT s.heap v zs → r v = R zs := fun v zs t => by
    have hv : ∃ zs, TupT s.heap v zs := ⟨zs, t⟩
    show (if hv : ∃ zs, TupT s.heap v zs then R hv.choose else 0) = R zs
    rw [dif_pos hv, hv.choose_spec.eq t]
  refine Calls.call_function_entry kind_sorted plain_sorted entry_sorted (args_sorted1 _) ?_
  unfold Builtin.«sorted»
  refine wpAny_bind (m := checkCount "sorted" 1 1 _) (wpAny_pure (wpAny_bind (collect_list hl ?_ (by rw [sizeLine_eq]; omega))))
  refine wpAny_bind (wpAny_newList ?_ (by rw [sizeLine_eq]; omega))
  generalize eG : (s.heap.push (seqObj "list" #[] 0)).update s.heap.objs.size (Obj.mapSeq (· ++ vs.toArray)) = G
  have zG : G.objs.size = s.heap.objs.size + 1 := by rw [← eG, Heap.size_update, size_push']
  have kG : ∀ b o, s.heap.get? b = some o → (G.push (seqObj "list" vs.toArray 0)).get? b = some o := fun b o q => by
    have lb := Heap.lt_size q
    refine Heap.get?_push_of_some _ ?_
    rw [← eG, Heap.get?_update_ne _ _ _ _ (Nat.ne_of_lt lb)]
    exact Heap.get?_push_of_some _ q
  have oG : (G.push (seqObj "list" vs.toArray 0)).get? (s.heap.objs.size + 1) = some (seqObj "list" vs.toArray 0) := by rw [← zG]; exact Heap.get?_push_size _ rfl
  show wpAny _ _ _ _ _ { s with heap := G.push (seqObj "list" vs.toArray 0) }
  rw [zG]
  have kM : ∀ b o, (G.push (seqObj "list" vs.toArray 0)).get? b = some o → o.cls = .type "tuple" → (TS.midHeap (G.push (seqObj "list" vs.toArray 0)) (s.heap.objs.size + 1) vs).get? b = some o := fun b o e hc => by
    refine TS.midHeap_old (fun z => ?_) e
    subst z
    have z := Option.some.inj (e.symm.trans oG)
    rw [z] at hc
    exact absurd (Value.type.inj hc) (by decide)
  have up : ∀ v zs, TupT s.heap v zs → TupT (TS.midHeap (G.push (seqObj "list" vs.toArray 0)) (s.heap.objs.size + 1) vs) v zs := fun v zs t => t.keep fun b o e hc => kM b o (kG b o e) hc
  refine wpAny_bind (wpAny_holding (wpAny_call_entry slot_list_sort ⟨_, oG, rfl⟩ entry_list_sort (SK.plain_sort (r := r) oG h64 (fun h2 Q' hQ => ?_) fun ps out a1 a2 a3 => ⟨_, rfl, ?_⟩) (args_list_sort _)))
  · refine kind_txts (s := { s with heap := TS.midHeap (G.push (seqObj "list" vs.toArray 0)) (s.heap.objs.size + 1) vs }) h2 (fun v hv => ?_) r R (fun v hv zs t => ?_) (fun v hv u hu zs ws t1 t2 => ?_) Q' hQ
    · obtain ⟨z, zs, t⟩ := x v hv
      exact ⟨z, zs, up v _ t⟩
    · obtain ⟨z0, zs0, t0⟩ := x v hv
      rw [t.eq (up v _ t0)]
      exact rv v _ t0
    · obtain ⟨z0, zs0, t0⟩ := x v hv
      obtain ⟨z3, zs3, t3⟩ := x u hu
      rw [t1.eq (up v _ t0), t2.eq (up u _ t3)]
      exact hR v hv u hu _ _ t0 t3
  · obtain ⟨p, o⟩ := TS.out_rank a1 a2 a3
    have fin := h out p (o.imp fun {u v} le zs ws t1 t2 => by rw [rv u zs t1, rv v ws t2] at le; exact le)
    unfold sortedAll at fin
    rw [eG] at fin
    exact wpAny_pure ⟨_, rfl, fin⟩
end
section
variable {X : Cx}
/-- x is a tuple of these texts -/
def TupS (K : PySem.W.Frag) (H : Hp) (x : V) (zs : List Str) : Prop := ∃ t, x = .ref t ∧ SqT K H t (zs.map V.str)
theorem tupS_raw {pins : List (Addr × Obj)} {σ : L2.St} {H : Hp} {s : Shared} (I : Inv X pins σ H s) {t : Addr} {zs : List Str} (h : SqT X.K H t (zs.map V.str)) : TupT s.heap (.ref t) zs := by
  obtain ⟨its, rv, hT, _⟩ := I.tuple h
  exact ⟨t, its, rfl, hT, rv⟩
def rSortTT (K : PySem.W.Frag) : List V → Hp → VK → Prop := fun vs H Q => ∃ (a : Addr) (xs : List V) (R : List Str → Int) (key : V → List Str), vs = [V.ref a] ∧ SqL K H a xs ∧ xs.length < 64 ∧ (∀ x ∈ xs, TupS K H x (key x) ∧ key x ≠ []) ∧
  (∀ x ∈ xs, ∀ y ∈ xs, decide (R (key x) < R (key y)) = ltT (key x) (key y)) ∧
  ∀ (ys : List V) (p : Addr), ys.Perm xs → ys.Pairwise (fun x y => R (key x) ≤ R (key y)) → H p = none → Q (.ref p) (upd H p (.lst ys))
theorem cr_sortTT : CallR X (.builtin "sorted") (rSortTT X.K) := by
  intro pins s σ H vs us Q I r h
  obtain ⟨a, xs, R, key, rfl, hs, h64, hx, hR, q⟩ := h
  obtain ⟨its, rv, hl, hz⟩ := I.list hs
  rw [Vals.ref1 r]
  obtain ⟨e1, e2⟩ := bkV_refs rv fun x m => by
    obtain ⟨⟨t, e, _⟩, _⟩ := hx x m
    exact ⟨t, e⟩
  have back : ∀ v ∈ its, ∃ t, v = Value.ref t ∧ V.ref t ∈ xs := fun v hv => by
    obtain ⟨t, rfl⟩ := e2 v hv
    exact ⟨t, rfl, by rw [e1]; exact List.mem_map.mpr ⟨_, hv, rfl⟩⟩
  have raw : ∀ {t : Addr}, V.ref t ∈ xs → TupT s.heap (.ref t) (key (.ref t)) := fun {t} m => by
    obtain ⟨⟨t', e, k⟩, _⟩ := hx _ m
    cases e
    exact tupS_raw I k
  refine sorted_txts (R := R) hl.isList (by rw [← rv.length]; exact h64) (fun v hv => ?_) (fun v hv u hu zs ws k1 k2 => ?_) fun out h1 h2 => ?_
  · obtain ⟨t, rfl, m⟩ := back v hv
    have k := raw m
    cases e : key (.ref t) with
    | nil => exact absurd e (hx _ m).2
    | cons z zs => rw [e] at k; exact ⟨z, zs, k⟩
  · obtain ⟨t, rfl, m⟩ := back v hv
    obtain ⟨t', rfl, m'⟩ := back u hu
    rw [k1.eq (raw m), k2.eq (raw m')]
    exact hR _ m _ m'
  · obtain ⟨ep, he'⟩ := sortedAll_at s.heap its out
    have h3 : ∀ u ∈ out.toList, ∃ a, u = Value.ref a := fun u hu => e2 u (h1.mem_iff.mp hu)
    have hp : (out.toList.map bkV).Perm xs := by rw [e1]; exact h1.map bkV
    refine ⟨.ref _, _, I.laid (t' := s.toks) (o := .lst (out.toList.map bkV)) (fun _ _ => sortedAll_old) (Nat.le_succ _) ⟨by rw [hp.length_eq]; exact hz, out.toList, ep, bkV_vals h3, he'⟩, rfl, q _ _ hp ?_ (I.hok.fresh (Nat.le_succ _))⟩
    rw [List.pairwise_map]
    refine List.Pairwise.imp_of_mem (fun {u v} mu mv huv => ?_) h2
    obtain ⟨t, rfl, m⟩ := back u (h1.mem_iff.mp mu)
    obtain ⟨t', rfl, m'⟩ := back v (h1.mem_iff.mp mv)
    exact huv _ _ (raw m) (raw m')
end
end Rd
set_option maxHeartbeats 2000000
namespace Rd
open PySem PySem.Spec PyProof.Rows L2
open C8 (pss_cut tCut)
/-! ## a def of the text, where it stands and how it binds -/
structure Def (K : PySem.W.Frag) (mg : Str → Option Value) (x : Str) (st : Stmt) (ps : List Str) where
  f : Addr
  fd : FuncData
  F : Fun K x x st f fd
  g : mg x = some (.ref f)
  b : Binds K fd ps []
/-! ## the bag of drawn numbers -/
def Bag (H : Hp) (b : Addr) : Prop := ∃ (c : Addr) (ns : List Int) (i r m n : Int),
  H b = some (.lst [.ref c, .int i, .int r, .int m, .int n]) ∧ c ≠ b ∧ H c = some (.lst (ns.map V.int)) ∧ 0 ≤ i ∧ 0 ≤ r ∧ 0 ≤ m ∧ m < 2147483587
def Cell (H : Hp) (b c : Addr) : Prop := ∃ r, H b = some (.lst (.ref c :: r))
/-- from one heap to a later one: the bag may have moved on, all else stands -/
structure Go (b : Addr) (H H' : Hp) : Prop where
  bag : Bag H' b
  keep : ∀ a o, a ≠ b → H a = some o → H' a = some o
  cell : ∀ c, Cell H b c → Cell H' b c
theorem Bag.some {H : Hp} {b : Addr} (h : Bag H b) : ∃ xs, H b = some (.lst xs) := let ⟨_, _, _, _, _, _, e, _⟩ := h; ⟨_, e⟩
theorem Go.refl {H : Hp} {b : Addr} (h : Bag H b) : Go b H H := ⟨h, fun _ _ _ e => e, fun _ h => h⟩
theorem Go.trans {H H1 H2 : Hp} {b : Addr} (g : Go b H H1) (k : Go b H1 H2) : Go b H H2 := ⟨k.1, fun a o n e => k.2 a o n (g.2 a o n e), fun c h => k.3 c (g.3 c h)⟩
theorem Bag.new {H : Hp} {b p : Addr} {o : HO} (h : Bag H b) (np : H p = none) : Bag (upd H p o) b := by
  obtain ⟨c, ns, i, r, m, n, e, hc, ec, k⟩ := h
  exact ⟨c, ns, i, r, m, n, by rw [upd_ne (ne_of_none e np)]; exact e, hc, by rw [upd_ne (ne_of_none ec np)]; exact ec, k⟩
theorem Go.new {H H' : Hp} {b p : Addr} {o : HO} (g : Go b H H') (np : H' p = none) : Go b H (upd H' p o) :=
  ⟨g.1.new np, fun a u n e => by rw [upd_ne (ne_of_none (g.2 a u n e) np)]; exact g.2 a u n e, fun c h => by
    obtain ⟨r, e⟩ := g.3 c h
    exact ⟨r, by rw [upd_ne (ne_of_none e np)]; exact e⟩⟩
theorem Bag.same {H H' : Hp} {b : Addr} (h : Bag H b) (s : Same H H') : Bag H' b := by
  obtain ⟨c, ns, i, r, m, n, e, hc, ec, k⟩ := h
  exact ⟨c, ns, i, r, m, n, s _ _ e, hc, s _ _ ec, k⟩
theorem Go.same {H H1 H' : Hp} {b : Addr} (g : Go b H H1) (s : Same H1 H') : Go b H H' := ⟨g.1.same s, fun a o n e => s _ _ (g.2 a o n e), fun c h => let ⟨r, e⟩ := g.3 c h; ⟨r, s _ _ e⟩⟩
/-- an object that is neither the bag nor its list of cells may change -/
theorem Bag.put {H : Hp} {b p c : Addr} {o : HO} (h : Bag H b) (hc : Cell H b c) (n : p ≠ b) (n2 : p ≠ c) : Bag (upd H p o) b := by
  obtain ⟨c', ns, i, r, m, k, e, hc', ec, q⟩ := h
  obtain ⟨r', e'⟩ := hc
  rw [e] at e'
  cases e'
  exact ⟨c, ns, i, r, m, k, by rw [upd_ne (Ne.symm n)]; exact e, hc', by rw [upd_ne (Ne.symm n2)]; exact ec, q⟩
theorem Cell.put {H : Hp} {b p c : Addr} {o : HO} (h : Cell H b c) (n : p ≠ b) : Cell (upd H p o) b c := by
  obtain ⟨r, e⟩ := h
  exact ⟨r, by rw [upd_ne (Ne.symm n)]; exact e⟩
theorem Bag.cell {H : Hp} {b : Addr} (h : Bag H b) : ∃ c, Cell H b c ∧ ∃ o, H c = Option.some o := by
  obtain ⟨c, ns, i, r, m, k, e, hc', ec, q⟩ := h
  exact ⟨c, ⟨_, e⟩, _, ec⟩
/-- what the bag is not -/
theorem Go.back {H H' : Hp} {b p : Addr} (g : Go b H H') (hb : Bag H b) (np : H' p = none) : H p = none := by
  cases e : H p with
  | none => rfl
  | some o =>
    by_cases h : p = b
    · obtain ⟨xs, ex⟩ := g.1.some
      rw [h, ex] at np
      cases np
    · rw [g.2 p o h e] at np
      cases np
theorem Bag.ne {H : Hp} {b p : Addr} (h : Bag H b) (np : H p = none) : p ≠ b := fun e => by
  obtain ⟨xs, ex⟩ := h.some
  rw [e, ex] at np
  cases np
abbrev s_is_name : Stmt := topS 9
abbrev N_is_name : List Str := ["value", "letter"]
theorem sc_is_name : FnScope ["value", "letter"] ["value"] (defScope s_is_name) := ⟨rfl, rfl, rfl, by decide +kernel, rfl, by decide +kernel, by decide +kernel⟩
abbrev s_is_integer : Stmt := topS 11
abbrev N_is_integer : List Str := ["value"]
theorem sc_is_integer : FnScope ["value"] ["value"] (defScope s_is_integer) := ⟨rfl, rfl, rfl, by decide +kernel, rfl, by decide +kernel, by decide +kernel⟩
abbrev s_is_number : Stmt := topS 10
abbrev N_is_number : List Str := ["value", "least", "most"]
theorem sc_is_number : FnScope ["value", "least", "most"] ["value", "least", "most"] (defScope s_is_number) := ⟨rfl, rfl, rfl, by decide +kernel, rfl, by decide +kernel, by decide +kernel⟩
abbrev s_law_bag : Stmt := topS 20
abbrev N_law_bag : List Str := ["_law_script", "_law_mixed", "_law_cell"]
theorem sc_law_bag : FnScope ["_law_script", "_law_mixed", "_law_cell"] ["_law_script"] (defScope s_law_bag) := ⟨rfl, rfl, rfl, by decide +kernel, rfl, by decide +kernel, by decide +kernel⟩
abbrev s_law_draw : Stmt := topS 21
abbrev N_law_draw : List Str := ["_law_bag_here", "_law_many", "_law_cell", "_law_digit", "_law_seed"]
theorem sc_law_draw : FnScope ["_law_bag_here", "_law_many", "_law_cell", "_law_digit", "_law_seed"] ["_law_bag_here", "_law_many"] (defScope s_law_draw) := ⟨rfl, rfl, rfl, by decide +kernel, rfl, by decide +kernel, by decide +kernel⟩
abbrev s_law_of : Stmt := topS 22
abbrev N_law_of : List Str := ["_law_bag_here", "_law_some"]
theorem sc_law_of : FnScope ["_law_bag_here", "_law_some"] ["_law_bag_here", "_law_some"] (defScope s_law_of) := ⟨rfl, rfl, rfl, by decide +kernel, rfl, by decide +kernel, by decide +kernel⟩
abbrev s_law_same : Stmt := topS 23
abbrev N_law_same : List Str := ["_law_found", "_law_due", "_law_low", "_law_high"]
theorem sc_law_same : FnScope ["_law_found", "_law_due", "_law_low", "_law_high"] ["_law_found", "_law_due"] (defScope s_law_same) := ⟨rfl, rfl, rfl, by decide +kernel, rfl, by decide +kernel, by decide +kernel⟩
abbrev s_law_fields : Stmt := topS 24
abbrev N_law_fields : List Str := ["_law_e"]
theorem sc_law_fields : FnScope ["_law_e"] ["_law_e"] (defScope s_law_fields) := ⟨rfl, rfl, rfl, by decide +kernel, rfl, by decide +kernel, by decide +kernel⟩
abbrev s_law_try : Stmt := topS 25
abbrev N_law_try : List Str := ["_law_ask", "_law_e"]
theorem sc_law_try : FnScope ["_law_ask", "_law_e"] ["_law_ask"] (defScope s_law_try) := ⟨rfl, rfl, rfl, by decide +kernel, rfl, by decide +kernel, by decide +kernel⟩
abbrev s_law_tries : Stmt := topS 26
abbrev N_law_tries : List Str := ["_law_asks", "_law_ask"]
theorem sc_law_tries : FnScope ["_law_asks", "_law_ask"] ["_law_asks"] (defScope s_law_tries) := ⟨rfl, rfl, rfl, by decide +kernel, rfl, by decide +kernel, by decide +kernel⟩
abbrev s_law_words : Stmt := topS 27
abbrev N_law_words : List Str := ["_law_bag_here", "_law_many", "_law_letters", "_law_stem", "_law_k", "_law_at_z", "_law_first", "_law_gap"]
theorem sc_law_words : FnScope ["_law_bag_here", "_law_many", "_law_letters", "_law_stem", "_law_k", "_law_at_z", "_law_first", "_law_gap"] ["_law_bag_here", "_law_many"] (defScope s_law_words) := ⟨rfl, rfl, rfl, by decide +kernel, rfl, by decide +kernel, by decide +kernel⟩
abbrev s_law_odd : Stmt := topS 28
abbrev N_law_odd : List Str := ["_law_bag_here"]
theorem sc_law_odd : FnScope ["_law_bag_here"] ["_law_bag_here"] (defScope s_law_odd) := ⟨rfl, rfl, rfl, by decide +kernel, rfl, by decide +kernel, by decide +kernel⟩
abbrev s_law_sides : Stmt := topS 29
abbrev N_law_sides : List Str := ["_law_kind", "_law_table"]
theorem sc_law_sides : FnScope ["_law_kind", "_law_table"] ["_law_kind"] (defScope s_law_sides) := ⟨rfl, rfl, rfl, by decide +kernel, rfl, by decide +kernel, by decide +kernel⟩
abbrev s_law_ways : Stmt := topS 30
abbrev N_law_ways : List Str := ["_law_kind", "_law_gate", "_law_table"]
theorem sc_law_ways : FnScope ["_law_kind", "_law_gate", "_law_table"] ["_law_kind", "_law_gate"] (defScope s_law_ways) := ⟨rfl, rfl, rfl, by decide +kernel, rfl, by decide +kernel, by decide +kernel⟩
abbrev s_law_section : Stmt := topS 31
abbrev N_law_section : List Str := ["_law_kind", "_law_word", "_law_size"]
theorem sc_law_section : FnScope ["_law_kind", "_law_word", "_law_size"] ["_law_kind", "_law_word", "_law_size"] (defScope s_law_section) := ⟨rfl, rfl, rfl, by decide +kernel, rfl, by decide +kernel, by decide +kernel⟩
abbrev s_law_refused_so : Stmt := topS 32
abbrev N_law_refused_so : List Str := ["_law_bag_here", "_law_word", "_law_asks", "_law_bad", "_law_odd_here"]
theorem sc_law_refused_so : FnScope ["_law_bag_here", "_law_word", "_law_asks", "_law_bad", "_law_odd_here"] ["_law_bag_here", "_law_word"] (defScope s_law_refused_so) := ⟨rfl, rfl, rfl, by decide +kernel, rfl, by decide +kernel, by decide +kernel⟩
abbrev s_law_base_so : Stmt := topS 33
abbrev N_law_base_so : List Str := ["_law_word", "_law_size", "_law_base", "_law_told", "_law_same_here"]
theorem sc_law_base_so : FnScope ["_law_word", "_law_size", "_law_base", "_law_told", "_law_same_here"] ["_law_word", "_law_size"] (defScope s_law_base_so) := ⟨rfl, rfl, rfl, by decide +kernel, rfl, by decide +kernel, by decide +kernel⟩
abbrev s_law : Stmt := topS 34
abbrev N_law : List Str := ["_law_script", "_law_bag_here", "_law_turn", "_law_words_here", "_law_kind", "_law_size", "_law_gates", "_law_made", "_law_shown", "_law_again", "_law_told", "_law_due", "_law_foreign", "_law_odd_here", "_law_far", "_law_some", "_law_same_here", "_law_gate", "_law_other_z", "_law_row"]
theorem sc_law : FnScope ["_law_script", "_law_bag_here", "_law_turn", "_law_words_here", "_law_kind", "_law_size", "_law_gates", "_law_made", "_law_shown", "_law_again", "_law_told", "_law_due", "_law_foreign", "_law_odd_here", "_law_far", "_law_some", "_law_same_here", "_law_gate", "_law_other_z", "_law_row"] ["_law_script"] (defScope s_law) := ⟨rfl, rfl, rfl, by decide +kernel, rfl, by decide +kernel, by decide +kernel⟩
abbrev s_m_init : Stmt := inS 15 2
abbrev N_m_init : List Str := ["self", "name", "length"]
theorem sc_m_init : FnScope ["self", "name", "length"] ["self", "name", "length"] (defScope s_m_init) := ⟨rfl, rfl, rfl, by decide +kernel, rfl, by decide +kernel, by decide +kernel⟩
abbrev s_m_sides : Stmt := inS 15 3
abbrev N_m_sides : List Str := ["self"]
theorem sc_m_sides : FnScope ["self"] ["self"] (defScope s_m_sides) := ⟨rfl, rfl, rfl, by decide +kernel, rfl, by decide +kernel, by decide +kernel⟩
abbrev s_m_ends : Stmt := inS 15 4
abbrev N_m_ends : List Str := ["self", "side"]
theorem sc_m_ends : FnScope ["self", "side"] ["self"] (defScope s_m_ends) := ⟨rfl, rfl, rfl, by decide +kernel, rfl, by decide +kernel, by decide +kernel⟩
abbrev s_m_ways : Stmt := inS 15 5
abbrev N_m_ways : List Str := ["self", "side", "found", "one", "other", "position"]
theorem sc_m_ways : FnScope ["self", "side", "found", "one", "other", "position"] ["self", "side"] (defScope s_m_ways) := ⟨rfl, rfl, rfl, by decide +kernel, rfl, by decide +kernel, by decide +kernel⟩
abbrev s_m_text : Stmt := inS 15 6
abbrev N_m_text : List Str := ["self"]
theorem sc_m_text : FnScope ["self"] ["self"] (defScope s_m_text) := ⟨rfl, rfl, rfl, by decide +kernel, rfl, by decide +kernel, by decide +kernel⟩
abbrev s_m_eq : Stmt := inS 15 7
abbrev N_m_eq : List Str := ["self", "other"]
theorem sc_m_eq : FnScope ["self", "other"] ["self", "other"] (defScope s_m_eq) := ⟨rfl, rfl, rfl, by decide +kernel, rfl, by decide +kernel, by decide +kernel⟩
abbrev s_m_repr : Stmt := inS 15 8
abbrev N_m_repr : List Str := ["self"]
theorem sc_m_repr : FnScope ["self"] ["self"] (defScope s_m_repr) := ⟨rfl, rfl, rfl, by decide +kernel, rfl, by decide +kernel, by decide +kernel⟩
theorem sc_i_InvalidName : FnScope ["self", "value"] ["self", "value"] (defScope (inS 2 0)) := ⟨rfl, rfl, rfl, by decide +kernel, rfl, by decide +kernel, by decide +kernel⟩
theorem sc_i_InvalidNumber : FnScope ["self", "value"] ["self", "value"] (defScope (inS 3 0)) := ⟨rfl, rfl, rfl, by decide +kernel, rfl, by decide +kernel, by decide +kernel⟩
/-- an own exception class with an own __init__ -/
structure DX (K : PySem.W.Frag) (mg : Str → Option Value) (x qual : Str) (st : Stmt) (ps nm : List Str) (B newId initId : String) (bmB : List Value) where
  C : Addr
  f : Addr
  fd : FuncData
  g : mg x = some (.ref C)
  T : XC K C B newId initId bmB
  iC : PySem.W.findIn K (.ref C) "__init__" = some (some (.ref f))
  tI : PySem.W.typeIn K (.ref f) = some (.type "function")
  F : Fun K "__init__" qual st f fd
  b : Binds K fd ps []
  xf : XF K C
  no : ∀ n, nm.contains n = true → PySem.W.findIn K (.ref C) n = some none
  ty : PySem.W.typeIn K (.ref C) = some (.type "type")
/-- one of the four classes of sections -/
structure ClsD (K : PySem.W.Frag) (C init : Addr) (kind : Str) : Prop where
  cls : Cls K C
  made : Mk K C init
  kd : ∃ u, Con K C "KIND" (.str kind) u
  ms : ∃ u, Con K C "MOST" (.int 50) u
  nN : NoAttr K C "name"
  nL : NoAttr K C "length"
  ha : PySem.W.findIn K (.ref C) "__class__" = some (some (.builtin "object.__class__"))
  mo : PySem.W.mroIn K C (.type "object") = some true
  cv : ∃ mc, ClX.CRead K C mc ∧ (∃ u, ClX.CVal K C mc "KIND" (.str kind) u) ∧ ∃ u, ClX.CVal K C mc "MOST" (.int 50) u
  nt : ∀ t, ["NoneType", "str", "int", "bool", "tuple", "list"].contains t = true → PySem.W.notFirst K C (.type t) = true
structure MD0 (K : PySem.W.Frag) (m qual : Str) (st : Stmt) (ps : List Str) where
  f : Addr
  fd : FuncData
  F : Fun K m qual st f fd
  b : Binds K fd ps []
structure MD (K : PySem.W.Frag) (S : Addr → Prop) (m qual : Str) (st : Stmt) (ps : List Str) extends MD0 K m qual st ps where
  M : MethF K S m f
structure Txt (K : PySem.W.Frag) (mg : Str → Option Value) where
  z_abs : mg "abs" = none
  z_all : mg "all" = none
  z_any : mg "any" = none
  z_bool : mg "bool" = none
  z_int : mg "int" = none
  z_isinstance : mg "isinstance" = none
  z_len : mg "len" = none
  z_list : mg "list" = none
  z_range : mg "range" = none
  z_repr : mg "repr" = none
  z_sorted : mg "sorted" = none
  z_str : mg "str" = none
  z_tuple : mg "tuple" = none
  z_zip : mg "zip" = none
  d_is_name : Def K mg "is_name" s_is_name ["value"]
  d_is_integer : Def K mg "is_integer" s_is_integer ["value"]
  d_is_number : Def K mg "is_number" s_is_number ["value", "least", "most"]
  d__law_bag : Def K mg "_law_bag" s_law_bag ["_law_script"]
  d__law_draw : Def K mg "_law_draw" s_law_draw ["_law_bag_here", "_law_many"]
  d__law_of : Def K mg "_law_of" s_law_of ["_law_bag_here", "_law_some"]
  d__law_same : Def K mg "_law_same" s_law_same ["_law_found", "_law_due"]
  d__law_fields : Def K mg "_law_fields" s_law_fields ["_law_e"]
  d__law_try : Def K mg "_law_try" s_law_try ["_law_ask"]
  d__law_tries : Def K mg "_law_tries" s_law_tries ["_law_asks"]
  d__law_words : Def K mg "_law_words" s_law_words ["_law_bag_here", "_law_many"]
  d__law_odd : Def K mg "_law_odd" s_law_odd ["_law_bag_here"]
  d__law_sides : Def K mg "_law_sides" s_law_sides ["_law_kind"]
  d__law_ways : Def K mg "_law_ways" s_law_ways ["_law_kind", "_law_gate"]
  d__law_section : Def K mg "_law_section" s_law_section ["_law_kind", "_law_word", "_law_size"]
  d__law_refused_so : Def K mg "_law_refused_so" s_law_refused_so ["_law_bag_here", "_law_word"]
  d__law_base_so : Def K mg "_law_base_so" s_law_base_so ["_law_word", "_law_size"]
  d_law : Def K mg "law" s_law ["_law_script"]
  tL : Tok
  c_LETTERS : mg "LETTERS" = some (.str "abcdefghijklmnopqrstuvwxyz" tL)
  tM : Tok
  c_MOST_LETTERS : mg "MOST_LETTERS" = some (.int 6 tM)
  aSides : Addr
  c_SIDES_OF : mg "SIDES_OF" = some (.ref aSides)
  aWays : Addr
  c_WAYS_OF : mg "WAYS_OF" = some (.ref aWays)
  x_InvalidName : DX K mg "InvalidName" "InvalidName.__init__" (inS 2 0) ["self", "value"] ["value", "code"] "ValueError" "ValueError.__new__" "ValueError.__init__" [.type "ValueError", .type "Exception", .type "BaseException", .type "object"]
  x_InvalidNumber : DX K mg "InvalidNumber" "InvalidNumber.__init__" (inS 3 0) ["self", "value"] ["value", "code"] "ValueError" "ValueError.__new__" "ValueError.__init__" [.type "ValueError", .type "Exception", .type "BaseException", .type "object"]
  aDayError : Addr
  c_DayError : mg "DayError" = some (.ref aDayError)
  aMissing : Addr
  c_Missing : mg "Missing" = some (.ref aMissing)
  aNothingLeft : Addr
  c_NothingLeft : mg "NothingLeft" = some (.ref aNothingLeft)
  aSection : Addr
  c_Section : mg "Section" = some (.ref aSection)
  aPlain : Addr
  c_Plain : mg "Plain" = some (.ref aPlain)
  aPoint : Addr
  c_Point : mg "Point" = some (.ref aPoint)
  aCrossing : Addr
  c_Crossing : mg "Crossing" = some (.ref aCrossing)
  m_init : MD0 K "__init__" "Section.__init__" s_m_init ["self", "name", "length"]
  kSection : ClsD K aSection m_init.f "none"
  kPlain : ClsD K aPlain m_init.f "plain"
  kPoint : ClsD K aPoint m_init.f "point"
  kCrossing : ClsD K aCrossing m_init.f "crossing"
  m_sides : MD K (fun C => C = aSection ∨ C = aPlain ∨ C = aPoint ∨ C = aCrossing) "sides" "Section.sides" s_m_sides ["self"]
  m_ends : MD K (fun C => C = aSection ∨ C = aPlain ∨ C = aPoint ∨ C = aCrossing) "ends" "Section.ends" s_m_ends ["self"]
  m_ways : MD K (fun C => C = aSection ∨ C = aPlain ∨ C = aPoint ∨ C = aCrossing) "ways" "Section.ways" s_m_ways ["self", "side"]
  m_text : MD K (fun C => C = aSection ∨ C = aPlain ∨ C = aPoint ∨ C = aCrossing) "text" "Section.text" s_m_text ["self"]
  m_eq : MD K (fun C => C = aSection ∨ C = aPlain ∨ C = aPoint ∨ C = aCrossing) "__eq__" "Section.__eq__" s_m_eq ["self", "other"]
  m_repr : MD K (fun C => C = aSection ∨ C = aPlain ∨ C = aPoint ∨ C = aCrossing) "__repr__" "Section.__repr__" s_m_repr ["self"]
  fam : Fam K (fun C => C = aSection ∨ C = aPlain ∨ C = aPoint ∨ C = aCrossing)
  eqf : EqF K (fun C => C = aSection ∨ C = aPlain ∨ C = aPoint ∨ C = aCrossing) m_eq.f
  reps : ∀ C, (fun C => C = aSection ∨ C = aPlain ∨ C = aPoint ∨ C = aCrossing) C → PySem.W.findIn K (.ref C) "__repr__" = some (some (.ref m_repr.f))
  repf : PySem.W.isFn K (.ref m_repr.f) = true
  hn : PySem.W.specialIn K (.builtin "object.__class__") "__get__" = some (some (.builtin "getset_descriptor.__get__"))
  htk : PySem.W.takesIn K (.builtin "object.__class__") = some true
  neP : aPlain ≠ aSection
  neT : aPoint ≠ aSection
  neX : aCrossing ≠ aSection
  nePT : aPlain ≠ aPoint
  nePX : aPlain ≠ aCrossing
  neTX : aPoint ≠ aCrossing
  below : ∀ D, (fun C => C = aSection ∨ C = aPlain ∨ C = aPoint ∨ C = aCrossing) D → D ≠ aSection → PySem.W.subIn K (.ref D) (.ref aSection) = some true
  apart : ∀ C D, (fun C => C = aSection ∨ C = aPlain ∨ C = aPoint ∨ C = aCrossing) C → (fun C => C = aSection ∨ C = aPlain ∨ C = aPoint ∨ C = aCrossing) D → C ≠ aSection → PySem.W.notFirst K C (.ref D) = true
  self : PySem.W.notFirst K aSection (.ref aSection) = true
  isS : ∀ C, (fun C => C = aSection ∨ C = aPlain ∨ C = aPoint ∨ C = aCrossing) C → PySem.W.kitOne K (.ref C) (.ref aSection) = some true
  nis : ∀ t, ["NoneType", "str", "int", "bool", "tuple", "list"].contains t = true → PySem.W.kitOne K (.type t) (.ref aSection) = some false
  exN : ∃ b, PySem.W.exmAny K (.ref x_InvalidName.C) [.ref aDayError, .ref aMissing, .ref aNothingLeft] = some b ∧ b = true
  exI : ∃ b, PySem.W.exmAny K (.ref x_InvalidNumber.C) [.ref aDayError, .ref aMissing, .ref aNothingLeft] = some b ∧ b = true
/-- the four classes -/
def Txt.S {K : PySem.W.Frag} {mg : Str → Option Value} (T : Txt K mg) : Addr → Prop := fun C => C = T.aSection ∨ C = T.aPlain ∨ C = T.aPoint ∨ C = T.aCrossing
def sidesOf : Str → List V := fun k => if k = "plain" then [.str "a", .str "b"] else if k = "point" then [.str "left", .str "right", .str "stem"] else if k = "crossing" then [.str "a", .str "b", .str "c", .str "d"] else []
def waysOf : Str → List (Str × Str × Str) := fun k => if k = "plain" then [("a", "b", "")] else if k = "point" then [("left", "stem", "left"), ("right", "stem", "right")] else if k = "crossing" then [("a", "b", ""), ("c", "d", "")] else []
/-- the module's two tables -/
structure TxW (w : World) {K : PySem.W.Frag} {mg : Str → Option Value} (T : Txt K mg) : Prop where
  sd : ∀ k : Str, (["none", "plain", "point", "crossing"] : List Str).contains k = true → ∃ p, KDct K w T.aSides k (.ref p) ∧ ∀ H, SqT K H p (sidesOf k)
  wd : ∀ k : Str, (["none", "plain", "point", "crossing"] : List Str).contains k = true → ∃ p ts, KDct K w T.aWays k (.ref p) ∧ (∀ H, SqT K H p (ts.map V.ref)) ∧ Paired (fun t z => ∀ H, SqT K H t [.str z.1, .str z.2.1, .str z.2.2]) ts (waysOf k)
def bl (c : Addr) (i r m n : Int) : HO := .lst [.ref c, .int i, .int r, .int m, .int n]
section
variable {P : Program} {w : World} {K : PySem.W.Frag} {mg : Str → Option Value} {base : Heap}
def spDraw : Sp := fun vs H Q _ => ∃ (b : Addr) (k : Int), vs = [.ref b, .int k] ∧ Bag H b ∧ 0 < k ∧ k < 1000000 ∧
  ∀ d H', Go b H H' → 0 ≤ d → d < k → Q (.int d) H'
theorem at0 {α : Type} {x : α} {r : List α} : atI (x :: r) 0 = some x := atI_nat (j := 0) rfl
theorem ok_law_draw (T : Txt K mg) : FnOk P w K mg base CX0 1 T.d__law_draw.f T.d__law_draw.fd ["_law_bag_here", "_law_many"] spDraw := by
  refine T.d__law_draw.F.ok sc_law_draw (fun vs H Q E h => ?_) (fun cdv A outer s H vs Q E hr h => ?_)
  · obtain ⟨b, k, rfl, _⟩ := h
    rfl
  · obtain ⟨b, k, rfl, hB, k0, k1, q⟩ := h
    refine ⟨_, (pss_cut (ps_asg (pe_op op_add (pe_ix ix_list (pv 0) pe_int (fun _ _ => rfl)) pe_int) (pg_sub (pv 0) pe_int set_list))
      (pss_cut (ps_if (PW.pt (pw_and (pt_cmpR op_eq (pe_ix ix_list (pv 0) pe_int (fun _ _ => rfl)) pe_int (nomark _)) (pw_and1 (pt_cmpR op_lt (pe_ix ix_list (pv 0) pe_int (fun _ _ => rfl)) (pe_callB call_len_seq (by rfl) T.z_len (by decide +kernel) (pa_cons (pe_ix ix_list (pv 0) pe_int (fun _ _ => rfl)) pa_nil)) (nomark _))))) (pss_cons (ps_set (i := 2) sc_law_draw.nd rfl (Or.inl rfl) (pe_callB call_abs (by rfl) T.z_abs (by decide +kernel) (pa_cons (pe_ix ix_list (pe_ix ix_list (pv 0) pe_int (fun _ _ => rfl)) (pe_ix ix_list (pv 0) pe_int (fun _ _ => rfl)) (fun _ _ => rfl)) pa_nil)))
      (pss_cons (ps_asg (pe_op op_add (pe_ix ix_list (pv 0) pe_int (fun _ _ => rfl)) pe_int) (pg_sub (pv 0) pe_int set_list))
      (pss_one (ps_if (pt_cmpR op_ge (pv 2) (pe_op op_pow pe_int pe_int) (nomark _)) (pss_one (ps_asg (pv 2) (pg_sub (pv 0) pe_int set_list))) (pss_one (ps_asg (pe_op op_mod (pe_callTy call_int1 (by rfl) T.z_int (by decide +kernel) (pa_cons (pe_op op_add (pe_op op_add (pe_op op_mul (pe_ix ix_list (pv 0) pe_int (fun _ _ => rfl)) pe_int) (pe_op op_mul (pe_op op_mod (pe_callTy call_int1 (by rfl) T.z_int (by decide +kernel) (pa_cons (pv 2) pa_nil)) pe_int) pe_int)) pe_int) pa_nil)) pe_int) (pg_sub (pv 0) pe_int set_list))))))) pss_nil)
      (pss_cut (ps_if (pt_cmpR op_gt (pe_ix ix_list (pv 0) pe_int (fun _ _ => rfl)) pe_int (nomark _)) (pss_cons (ps_set (i := 3) sc_law_draw.nd rfl (Or.inl rfl) (pe_op op_mod (pe_callTy call_int1 (by rfl) T.z_int (by decide +kernel) (pa_cons (pe_ix ix_list (pv 0) pe_int (fun _ _ => rfl)) pa_nil)) (pv 1)))
      (pss_cons (ps_asg (pe_op op_fdiv (pe_ix ix_list (pv 0) pe_int (fun _ _ => rfl)) (pv 1)) (pg_sub (pv 0) pe_int set_list))
      (pss_one (ps_ret (pv 3))))) pss_nil)
      (pss_cons (ps_set (i := 4) sc_law_draw.nd rfl (Or.inl rfl) (pe_op op_mod (pe_callTy call_int1 (by rfl) T.z_int (by decide +kernel) (pa_cons (pe_op op_add (pe_op op_mul (pe_ix ix_list (pv 0) pe_int (fun _ _ => rfl)) (pe_ix ix_list (pv 0) pe_int (fun _ _ => rfl))) (pe_op op_mul (pe_ix ix_list (pv 0) pe_int (fun _ _ => rfl)) pe_int)) pa_nil)) pe_int))
      (pss_cons (ps_asg (pe_op op_mod (pe_callTy call_int1 (by rfl) T.z_int (by decide +kernel) (pa_cons (pe_op op_add (pe_op op_add (pe_op op_mul (pv 4) pe_int) (pe_op op_mul (pe_ix ix_list (pv 0) pe_int (fun _ _ => rfl)) pe_int)) pe_int) pa_nil)) pe_int) (pg_sub (pv 0) pe_int set_list))
      (pss_one (ps_ret (pe_op op_mod (pe_callTy call_int1 (by rfl) T.z_int (by decide +kernel) (pa_cons (pe_op op_add (pe_op op_fdiv (pe_ix ix_list (pv 0) pe_int (fun _ _ => rfl)) pe_int) (pe_op op_mul (pe_op op_mod (pe_callTy call_int1 (by rfl) T.z_int (by decide +kernel) (pa_cons (pe_ix ix_list (pv 0) pe_int (fun _ _ => rfl)) pa_nil)) pe_int) pe_int)) pa_nil)) (pv 1))))))))), ?_⟩
    obtain ⟨c, ns, i, r, m, n, hb, hc, ec, i0, r0, m0, m1⟩ := hB
    have hcb : ∀ o, (upd H b o) c = some (.lst (ns.map V.int)) := fun o => by rw [upd_ne hc]; exact ec
    refine ⟨fun σ H' => σ = [some (.ref b), some (.int k), none, none, none] ∧ H' = upd H b (bl c i r m (n + 1)), ?_, ?_⟩
    · refine ⟨.ref b, rfl, b, _, 4, .int n, rfl, rfl, SqL.of hb, atI_nat (j := 4) rfl, n, 1, rfl, rfl, .ref b, rfl, b, _, 4, 4, rfl, rfl, hb, rfl, rfl, rfl⟩
    rintro σ H' ⟨rfl, rfl⟩
    refine ⟨fun σ H' => ∃ v i r m n, σ = [some (.ref b), some (.int k), v, none, none] ∧ H' = upd H b (bl c i r m n) ∧ 0 ≤ i ∧ 0 ≤ r ∧ 0 ≤ m ∧ m < 2147483587, ?_, ?_⟩
    · refine ⟨.ref b, rfl, b, _, 2, .int r, rfl, rfl, SqL.of upd_same, atI_nat (j := 2) rfl, rfl, _, rfl, ite2 (fun e => ?_) (fun e => ?_)⟩
      · refine ⟨.ref b, rfl, b, _, 1, .int i, rfl, rfl, SqL.of upd_same, atI_nat (j := 1) rfl, .ref b, rfl, b, _, 0, .ref c, rfl, rfl, SqL.of upd_same, atI_nat (j := 0) rfl, c, _, rfl, .inl (SqL.of (hcb _)), i, _, rfl, rfl, _, rfl, ite2 (fun e2 => ?_) (fun e2 => ?_)⟩
        · have hi : i < ns.length := by
            have := of_decide_eq_true e2
            rw [List.length_map] at this
            exact this
          obtain ⟨x, hx⟩ : ∃ x, (ns.map V.int)[i.toNat]? = some (.int x) := by
            have hj : i.toNat < ns.length := by omega
            exact ⟨ns[i.toNat], by rw [List.getElem?_map, List.getElem?_eq_getElem hj]; rfl⟩
          have ha : atI (ns.map V.int) i = some (.int x) := by
            have := atI_nat hx
            rwa [Int.toNat_of_nonneg i0] at this
          refine ⟨.ref b, rfl, b, _, 0, .ref c, rfl, rfl, SqL.of upd_same, atI_nat (j := 0) rfl, .ref b, rfl, b, _, 1, .int i, rfl, rfl, SqL.of upd_same, atI_nat (j := 1) rfl, c, _, i, .int x, rfl, rfl, SqL.of (hcb _), ha, x, rfl, ?_⟩
          generalize ey : (if x < 0 then -x else x) = y
          have y0 : 0 ≤ y := by rw [← ey]; split <;> omega
          refine ⟨.ref b, rfl, b, _, 1, .int i, rfl, rfl, SqL.of upd_same, atI_nat (j := 1) rfl, i, 1, rfl, rfl, .ref b, rfl, b, _, 1, 1, rfl, rfl, upd_same, rfl, ?_⟩
          rw [upd_upd]
          refine ⟨.int y, rfl, 10, 18, rfl, rfl, ⟨by decide, by decide, by decide⟩, y, _, rfl, rfl, _, rfl, ite2 (fun e3 => ?_) (fun e3 => ?_)⟩
          · refine ⟨.int y, rfl, .ref b, rfl, b, _, 2, 2, rfl, rfl, upd_same, rfl, ?_⟩
            rw [upd_upd]
            exact ⟨_, i + 1, y, m, n + 1, rfl, rfl, by omega, y0, m0, m1⟩
          · refine ⟨.ref b, rfl, b, _, 3, .int m, rfl, rfl, SqL.of upd_same, atI_nat (j := 3) rfl, m, _, rfl, rfl, .inr ⟨by decide, by decide⟩, .int y, rfl, .inl ⟨y, rfl, y, _, rfl, rfl, (by show (0 : Int) < 1000033; decide), _, _, rfl, rfl, .inr ⟨by decide, by decide⟩, _, _, rfl, rfl, _, _, rfl, rfl, .inl ⟨_, rfl, ?_⟩⟩⟩
            refine ⟨_, _, rfl, rfl, (by show (0 : Int) < 2147483587; decide), .ref b, rfl, b, _, 3, 3, rfl, rfl, upd_same, rfl, ?_⟩
            rw [upd_upd]
            exact ⟨_, i + 1, r, _, n + 1, rfl, rfl, by omega, r0, Int.emod_nonneg _ (by decide), Int.emod_lt_of_pos _ (by decide)⟩
        · exact ⟨none, i, r, m, n + 1, rfl, rfl, i0, r0, m0, m1⟩
      · exact iteF ⟨none, i, r, m, n + 1, rfl, rfl, i0, r0, m0, m1⟩
    rintro σ H' ⟨v, i, r, m, n, rfl, rfl, i0, r0, m0, m1⟩
    have fin : ∀ i r m n : Int, 0 ≤ i → 0 ≤ r → 0 ≤ m → m < 2147483587 → Go b H (upd H b (bl c i r m n)) := fun i r m n i0 r0 m0 m1 =>
      ⟨⟨c, ns, i, r, m, n, upd_same, hc, hcb _, i0, r0, m0, m1⟩, fun a o na e => by rw [upd_ne na]; exact e, fun c2 h2 => by
        obtain ⟨r2, e2⟩ := h2
        rw [hb] at e2
        cases e2
        exact ⟨_, upd_same⟩⟩
    refine ⟨fun σ H' => σ = [some (.ref b), some (.int k), v, none, none] ∧ H' = upd H b (bl c i r m n), ?_, ?_⟩
    · refine ⟨.ref b, rfl, b, _, 2, .int r, rfl, rfl, SqL.of upd_same, atI_nat (j := 2) rfl, r, _, rfl, rfl, _, rfl, ite2 (fun e => ?_) (fun e => ?_)⟩
      · refine ⟨.ref b, rfl, b, _, 2, .int r, rfl, rfl, SqL.of upd_same, atI_nat (j := 2) rfl, .inl ⟨r, rfl, .int k, rfl, r, k, rfl, rfl, k0, ?_⟩⟩
        refine ⟨.ref b, rfl, b, _, 2, .int r, rfl, rfl, SqL.of upd_same, atI_nat (j := 2) rfl, .int k, rfl, r, k, rfl, rfl, ⟨k0, by omega⟩, .ref b, rfl, b, _, 2, 2, rfl, rfl, upd_same, rfl, ?_⟩
        rw [upd_upd]
        refine ⟨_, rfl, ?_⟩
        exact q _ _ (fin i (r / k) m n i0 (Int.ediv_nonneg r0 (by omega)) m0 m1) (Int.emod_nonneg _ (by omega)) (Int.emod_lt_of_pos _ k0)
      · exact ⟨rfl, rfl⟩
    rintro σ H' ⟨rfl, rfl⟩
    refine ⟨.ref b, rfl, b, _, 3, .int m, rfl, rfl, SqL.of upd_same, atI_nat (j := 3) rfl, .ref b, rfl, b, _, 3, .int m, rfl, rfl, SqL.of upd_same, atI_nat (j := 3) rfl, m, m, rfl, rfl, .inl ⟨by omega, by omega⟩, .ref b, rfl, b, _, 4, .int n, rfl, rfl, SqL.of upd_same, atI_nat (j := 4) rfl, n, _, rfl, rfl, .inr ⟨by decide, by decide⟩, _, _, rfl, rfl, .inl ⟨_, rfl, _, _, rfl, rfl, (by show (0 : Int) < 2147483629; decide), ?_⟩⟩
    dsimp only
    generalize ez : (m * m + n * 10331) % 2147483629 = z
    have z0 : 0 ≤ z := by rw [← ez]; exact Int.emod_nonneg _ (by decide)
    have z1 : z < 2147483629 := by rw [← ez]; exact Int.emod_lt_of_pos _ (by decide)
    refine ⟨.int z, rfl, z, _, rfl, rfl, .inr ⟨by decide, by decide⟩, .ref b, rfl, b, _, 3, .int m, rfl, rfl, SqL.of upd_same, atI_nat (j := 3) rfl, m, _, rfl, rfl, .inr ⟨by decide, by decide⟩, _, _, rfl, rfl, _, _, rfl, rfl, .inl ⟨_, rfl, _, _, rfl, rfl, (by show (0 : Int) < 2147483587; decide), .ref b, rfl, b, _, 3, 3, rfl, rfl, upd_same, rfl, ?_⟩⟩
    rw [upd_upd]
    dsimp only
    generalize ey : (z * 19319 + m * 43037 + 70019) % 2147483587 = y
    have y0 : 0 ≤ y := by rw [← ey]; exact Int.emod_nonneg _ (by decide)
    have y1 : y < 2147483587 := by rw [← ey]; exact Int.emod_lt_of_pos _ (by decide)
    refine ⟨.ref b, rfl, b, _, 3, .int y, rfl, rfl, SqL.of upd_same, atI_nat (j := 3) rfl, y, _, rfl, rfl, ⟨by decide, by decide⟩, .ref b, rfl, b, _, 3, .int y, rfl, rfl, SqL.of upd_same, atI_nat (j := 3) rfl, .inl ⟨y, rfl, y, _, rfl, rfl, (by show (0 : Int) < 7919; decide), _, _, rfl, rfl, .inr ⟨by decide, by decide⟩, _, _, rfl, rfl, .inl ⟨_, rfl, .int k, rfl, _, k, rfl, rfl, k0, ?_⟩⟩⟩
    exact q _ _ (fin i r y n i0 r0 y0 y1) (Int.emod_nonneg _ (by omega)) (Int.emod_lt_of_pos _ k0)
end
end Rd
set_option maxHeartbeats 2000000
namespace Rd
open PySem PySem.Spec PyProof.Rows L2
open C8 (pss_cut tCut)
section
variable {P : Program} {w : World} {K : PySem.W.Frag} {mg : Str → Option Value} {base : Heap}
theorem same_new {H : Hp} {p : Addr} {o : HO} (h : H p = none) : Same H (upd H p o) := fun b x e => by
  rw [upd_ne (ne_of_none e h)]
  exact e
theorem ints_at {ns : List Int} {i : Nat} {y : V} (h : (ns.map V.int)[i]? = some y) : ∃ z, y = V.int z := by
  rw [List.getElem?_map] at h
  cases e : ns[i]? with
  | none => rw [e] at h; cases h
  | some z => rw [e] at h; exact ⟨z, (Option.some.inj h).symm⟩
theorem cut63 (ns : List Int) (h : ns.length ≤ 63) : cutV (ns.map V.int) none (some 63) = ns.map V.int := by
  unfold cutV
  have e1 : HT.sIx (ns.map V.int).length 0 none = 0 := HT.sIx_none _ _
  have e2 : HT.sIx (ns.map V.int).length (ns.map V.int).length (some 63) = min 63 (ns.map V.int).length := HT.sIx_nat _ _ 63
  rw [e1, e2, List.drop_zero, List.length_map]
  exact List.take_of_length_le (by rw [List.length_map]; omega)
def spBag (K : PySem.W.Frag) : Sp := fun vs H Q _ => ∃ (a : Addr) (ns : List Int), vs = [.ref a] ∧ SqL K H a (ns.map V.int) ∧ ns.length ≤ 63 ∧
  ∀ b H', H b = none → Same H H' → Bag H' b → Q (.ref b) H'
theorem ok_law_bag (T : Txt K mg) : FnOk P w K mg base CX0 1 T.d__law_bag.f T.d__law_bag.fd ["_law_script"] (spBag K) := by
  refine T.d__law_bag.F.ok sc_law_bag (fun vs H Q E h => ?_) (fun cdv A outer s H vs Q E hr h => ?_)
  · obtain ⟨b, k, rfl, _⟩ := h
    rfl
  · obtain ⟨a, ns, rfl, hS, hl, q⟩ := h
    refine ⟨_, (pss_cons (ps_set (i := 1) sc_law_bag.nd rfl (Or.inl rfl) pe_int)
      (pss_cons (ps_for PassesOwn.never rfl (pi_list (pe_slice sl_list (pv 0) po_none (po_some pe_int))) (pg_name (i := 2) sc_law_bag.nd rfl (Or.inl rfl)) (pss_one (ps_set (i := 1) sc_law_bag.nd rfl (Or.inl rfl) (pe_op op_mod (pe_callTy call_int1 (by rfl) T.z_int (by decide +kernel) (pa_cons (pe_op op_add (pe_op op_add (pe_op op_mul (pv 1) pe_int) (pe_op op_mul (pe_op op_mod (pe_callTy call_int1 (by rfl) T.z_int (by decide +kernel) (pa_cons (pv 2) pa_nil)) pe_int) pe_int)) pe_int) pa_nil)) pe_int))))
      (pss_one (ps_ret (pe_lst (pa_cons (pe_callTy call_list_of (by rfl) T.z_list (by decide +kernel) (pa_cons (pe_slice sl_list (pv 0) po_none (po_some pe_int)) pa_nil)) (pa_cons pe_int (pa_cons pe_int (pa_cons (pv 1) (pa_cons pe_int pa_nil)))))))))), ?_⟩
    refine ⟨.ref a, rfl, 63, rfl, a, _, rfl, hS, fun p np => ?_⟩
    rw [cut63 ns hl]
    refine ⟨p, rfl, ⟨_, SqL.of upd_same⟩, for_list (K := K) (a := p) (xs := ns.map V.int) (fun i σ H2 => ∃ (m : Int) (v : Option V), σ = [some (.ref a), some (.int m), v] ∧ 0 ≤ m ∧ m < 2147483587 ∧ H2 = upd H p (.lst (ns.map V.int)))
      ⟨12027, none, rfl, by decide, by decide, rfl⟩ (fun i σ H2 _ ⟨_, _, _, _, _, e⟩ => by rw [e]; exact SqL.of upd_same) ?_ ?_⟩
    · rintro i y σ H2 hi ⟨m, v, rfl, m0, m1, rfl⟩
      obtain ⟨z, rfl⟩ := ints_at hi
      refine ⟨.int m, rfl, m, _, rfl, rfl, .inr ⟨by decide, by decide⟩, .int z, rfl, .inl ⟨z, rfl, z, _, rfl, rfl, (by show (0 : Int) < 1000033; decide), _, _, rfl, rfl, .inr ⟨by decide, by decide⟩, _, _, rfl, rfl, _, _, rfl, rfl, .inl ⟨_, rfl, _, _, rfl, rfl, (by show (0 : Int) < 2147483563; decide), ?_⟩⟩⟩
      exact ⟨_, _, rfl, Int.emod_nonneg _ (by decide), Int.lt_of_lt_of_le (Int.emod_lt_of_pos _ (by decide)) (by decide), rfl⟩
    · rintro σ H2 ⟨m, v, rfl, m0, m1, rfl⟩
      refine ⟨.ref a, rfl, 63, rfl, a, _, rfl, (same_new np).seq hS, fun p2 np2 => ?_⟩
      rw [cut63 ns hl]
      refine ⟨p2, _, rfl, .inl (SqL.of upd_same), fun c nc => ⟨.int m, rfl, by show 5 ≤ sizeLine; decide, fun b nb => ?_⟩⟩
      have s1 := same_new (o := .lst (ns.map V.int)) np
      have s2 := s1.trans (same_new (o := .lst (ns.map V.int)) np2)
      have s3 := s2.trans (same_new (o := .lst (ns.map V.int)) nc)
      have ncb : c ≠ b := ne_of_none upd_same nb
      refine q b _ (s3.free nb) (s3.trans (same_new nb)) ⟨c, ns, 0, 0, m, 0, upd_same, ncb, by rw [upd_ne ncb]; exact upd_same, by decide, by decide, m0, m1⟩
/-! ### one of some -/
def spOfL : Sp := fun vs H Q _ => ∃ (b l : Addr) (xs : List V), vs = [.ref b, .ref l] ∧ Bag H b ∧ l ≠ b ∧ H l = some (.lst xs) ∧ 0 < xs.length ∧ xs.length < 1000 ∧
  ∀ v H', Go b H H' → v ∈ xs → Q v H'
theorem sc_of' : FnScope N_law_of ["_law_bag_here", "_law_some"] (defScope s_law_of) := sc_law_of
theorem atI_mem {xs : List V} {d : Int} (h0 : 0 ≤ d) (h1 : d < xs.length) : ∃ v, atI xs d = some v ∧ v ∈ xs := by
  have hj : d.toNat < xs.length := by omega
  refine ⟨xs[d.toNat], ?_, List.getElem_mem hj⟩
  have := atI_nat (xs := xs) (j := d.toNat) (v := xs[d.toNat]) (List.getElem?_eq_getElem hj)
  rwa [Int.toNat_of_nonneg h0] at this
theorem ok_law_ofL (T : Txt K mg) : FnOk P w K mg base CX0 2 T.d__law_of.f T.d__law_of.fd ["_law_bag_here", "_law_some"] spOfL := by
  refine T.d__law_of.F.ok sc_law_of (fun vs H Q E h => ?_) (fun cdv A outer s H vs Q E hr h => ?_)
  · obtain ⟨b, l, xs, rfl, _⟩ := h
    rfl
  · obtain ⟨b, l, xs, rfl, hB, nl, hl, h0, h1, q⟩ := h
    refine ⟨_, (pss_one (ps_ret (pe_ix ix_list (pv 1) (pe_call (ok_law_draw T) (hr.mono (by decide)) (by rfl) T.d__law_draw.g T.d__law_draw.F.kp T.d__law_draw.b .nil pass0 (pa_cons (pv 0) (pa_cons (pe_callB call_len_seq (by rfl) T.z_len (by decide +kernel) (pa_cons (pv 1) pa_nil)) pa_nil))) (fun _ _ => rfl)))), ?_⟩
    refine ⟨.ref l, rfl, .ref b, rfl, .ref l, rfl, l, xs, rfl, .inl (SqL.of hl), b, _, rfl, hB, by omega, by omega, fun d H' g d0 d1 => ?_⟩
    obtain ⟨v, hv, mv⟩ := atI_mem d0 d1
    exact ⟨l, xs, d, v, rfl, rfl, SqL.of (g.2 _ _ nl hl), hv, q v H' g mv⟩
/-- one sign of a text -/
def spOfS : Sp := fun vs H Q _ => ∃ (b : Addr) (z : Str), vs = [.ref b, .str z] ∧ Bag H b ∧ 0 < z.length ∧ z.length < 1000 ∧
  ∀ c H', Go b H H' → c ∈ z.cps.toList → Q (.str ⟨#[c]⟩) H'
theorem ok_law_ofS (T : Txt K mg) : FnOk P w K mg base CX0 2 T.d__law_of.f T.d__law_of.fd ["_law_bag_here", "_law_some"] spOfS := by
  refine T.d__law_of.F.ok sc_law_of (fun vs H Q E h => ?_) (fun cdv A outer s H vs Q E hr h => ?_)
  · obtain ⟨b, z, rfl, _⟩ := h
    rfl
  · obtain ⟨b, z, rfl, hB, h0, h1, q⟩ := h
    refine ⟨_, (pss_one (ps_ret (pe_ix ix_str (pv 1) (pe_call (ok_law_draw T) (hr.mono (by decide)) (by rfl) T.d__law_draw.g T.d__law_draw.F.kp T.d__law_draw.b .nil pass0 (pa_cons (pv 0) (pa_cons (pe_callB call_len_str (by rfl) T.z_len (by decide +kernel) (pa_cons (pv 1) pa_nil)) pa_nil))) (fun _ _ => rfl)))), ?_⟩
    refine ⟨.str z, rfl, .ref b, rfl, .str z, rfl, z, rfl, Nat.le_of_lt (small1000 (by omega)), b, _, rfl, hB, by omega, by omega, fun d H' g d0 d1 => ?_⟩
    have e : z.cps.toList.length = z.length := by simp [Str.length]
    have hj : d.toNat < z.cps.toList.length := by omega
    have ha := atI_nat (xs := z.cps.toList) (j := d.toNat) (List.getElem?_eq_getElem hj)
    rw [Int.toNat_of_nonneg d0] at ha
    exact ⟨z, d, _, rfl, rfl, Nat.le_of_lt (small1000 (by omega)), ha, q _ H' g (List.getElem_mem hj)⟩
end
end Rd
set_option maxHeartbeats 4000000
namespace Rd
open PySem PySem.Spec PyProof.Rows L2
open C8 (pss_cut tCut)
open RZ (ItzT pi_zipA)
/-! ### two values that are the same data -/
def isSc : V → Bool
  | .non => true
  | .bl _ => true
  | .int _ => true
  | .str _ => true
  | _ => false
def Eqv (K : PySem.W.Frag) (H : Hp) : Nat → V → V → Prop
  | 0, x, y => x = y ∧ isSc x = true
  | n + 1, x, y => (x = y ∧ isSc x = true) ∨ ∃ (a b : Addr) (xs ys : List V), x = .ref a ∧ y = .ref b ∧ ((SqL K H a xs ∧ SqL K H b ys) ∨ (SqT K H a xs ∧ SqT K H b ys)) ∧ xs.length = ys.length ∧ xs.length ≤ 1000 ∧
      ∀ (i : Nat) (x y : V), xs[i]? = some x → ys[i]? = some y → Eqv K H n x y
theorem Eqv.sc {K : PySem.W.Frag} {H : Hp} {x : V} (h : isSc x = true) : ∀ n, Eqv K H n x x
  | 0 => ⟨rfl, h⟩
  | _ + 1 => .inl ⟨rfl, h⟩
theorem same_seqT {K : PySem.W.Frag} {H H' : Hp} {a : Addr} {xs : List V} (e : Same H H') (h : SqT K H a xs) : SqT K H' a xs := by
  rcases h with (h | ⟨o, h⟩) | h
  · exact .inl (.inl (e _ _ h))
  · exact .inl (.inr ⟨o, e _ _ h⟩)
  · exact .inr h
theorem Eqv.same {K : PySem.W.Frag} {H H' : Hp} (s : Same H H') : ∀ {n : Nat} {x y : V}, Eqv K H n x y → Eqv K H' n x y
  | 0, _, _, h => h
  | n + 1, _, _, h => by
    rcases h with h | ⟨a, b, xs, ys, e1, e2, hq, l, l2, r⟩
    · exact .inl h
    · refine .inr ⟨a, b, xs, ys, e1, e2, ?_, l, l2, fun i x y h1 h2 => (r i x y h1 h2).same s⟩
      rcases hq with ⟨h1, h2⟩ | ⟨h1, h2⟩
      · exact .inl ⟨s.seq h1, s.seq h2⟩
      · exact .inr ⟨same_seqT s h1, same_seqT s h2⟩
theorem ty_seqL {K : PySem.W.Frag} {H : Hp} {a : Addr} {xs : List V} (h : SqL K H a xs) : TyX K H (.ref a) (.type "list") := by
  rcases h with (h | ⟨o, h⟩) | ⟨o, its, n, h, c, _⟩
  · exact .base (.lst h)
  · exact .base (.frz h)
  · exact .kList h c
theorem ty_seqT {K : PySem.W.Frag} {H : Hp} {a : Addr} {xs : List V} (h : SqT K H a xs) : TyX K H (.ref a) (.type "tuple") := by
  rcases h with (h | ⟨o, h⟩) | ⟨o, its, n, h, c, _⟩
  · exact .base (.tup h)
  · exact .fTuple h
  · exact .kTuple h c
/-- the built-in type of a value that is no object of an own class -/
def tyn : V → String
  | .non => "NoneType"
  | .bl _ => "bool"
  | .int _ => "int"
  | .str _ => "str"
  | _ => "list"
theorem ty_sc {K : PySem.W.Frag} {H : Hp} {x : V} (h : isSc x = true) : TyX K H x (.type (tyn x)) := by
  cases x with
  | non => exact .base .non
  | bl b => exact .base (.bl b)
  | int i => exact .base (.int i)
  | str s => exact .base (.str s)
  | _ => cases h
theorem kit2 {K : PySem.W.Frag} {t c1 c2 : String} {b1 b2 : Bool} (h1 : kitB t c1 = some b1) (h2 : kitB t c2 = some b2) : PySem.W.kitAny K (.type t) [.type c1, .type c2] = some (b1 || b2) := by
  refine kitAny_cons (kit_ty h1) (fun e => kitAny_cons (kit_ty h2) (fun e2 => ?_) fun e2 => ?_) fun e => ?_
  · rw [e, e2]; exact kitAny_nil
  · rw [e, e2]; rfl
  · rw [e]; rfl
section
variable {K : PySem.W.Frag} {a b : Addr} {xs ys : List V}
theorem walk_zipT {n : Nat} (hn : n = min xs.length ys.length) : Walk (ItzT K a b) n (fun H => SqT K H a xs ∧ SqT K H b ys) (YPair (fun i => xs[i]?) (fun i => ys[i]?)) where
  goes := fun i H hi q => by
    have h1 : i < xs.length := by omega
    have h2 : i < ys.length := by omega
    exact ⟨xs, ys, xs[i], ys[i], q.1, q.2, List.getElem?_eq_getElem h1, List.getElem?_eq_getElem h2⟩
  stops := fun H q => ⟨xs, ys, q.1, q.2, by omega⟩
  yields := fun i H v H' hi q y => by
    obtain ⟨T, x, z, h1, h2, h3, h4, h5⟩ := y
    exact ⟨T, x, z, h1, h2, h3, h4 xs q.1, h5 ys q.2⟩
end
section
variable {P : Program} {w : World} {K : PySem.W.Frag} {mg : Str → Option Value} {base : Heap}
def spSame (K : PySem.W.Frag) (n : Nat) : Sp := fun vs H Q _ => ∃ x y, vs = [x, y] ∧ Eqv K H n x y ∧ ∀ H', Same H H' → Q (.bl true) H'
theorem all_true (k : Nat) : (List.replicate k true).all id = true := by
  induction k with
  | zero => rfl
  | succ n ih => rw [List.replicate_succ, List.all_cons, ih]; rfl
theorem ok_law_same (T : Txt K mg) : ∀ n, FnOk P w K mg base CX0 (n + 1) T.d__law_same.f T.d__law_same.fd ["_law_found", "_law_due"] (spSame K n) := by
  -- the way of a value that is no list and no tuple
  have sc : ∀ (n : Nat) (x : V), isSc x = true → ∀ (cdv : Value) (A : Around) (outer : List Env) (s : Shared) (H : Hp) (Q : VK) (E : XK), Room n (A.deeper (envOfC "_law_same" (defScope s_law_same) s.heap.objs.size T.d__law_same.f cdv)) →
      (∀ H', Same H H' → Q (.bl true) H') →
      ∃ t, PSs (cxOf CX0 P w K mg base N_law_same "_law_same" (defScope s_law_same) T.d__law_same.f cdv A outer s H E).nox (defBody s_law_same) t ∧ t { nx := fun _ H' => Q .non H', rt := Q } (start N_law_same [x, x]) H := by
    intro n x hx cdv A outer s H Q E hr q
    refine ⟨_, (pss_cons (ps_if (PW.pt (pw_or (pt_cmpR op_isN (pv 1) pe_non (nomark _)) (pw_or1 (pt_cmpR op_isN (pv 0) pe_non (nomark _))))) (pss_one (ps_ret (pe_and (pe_cmpR op_isN (pv 1) pe_non (nomark _)) (pe_one (pe_cmpR op_isN (pv 0) pe_non (nomark _)))))) pss_nil)
      (pss_cons (ps_if (pt_val (pe_callB call_isiT (by rfl) T.z_isinstance (by decide +kernel) (pa_cons (pv 1) (pa_cons (pe_tup (pa_cons (pe_bltn (v := .ty "list") (by rfl) T.z_list (by decide +kernel) rfl) (pa_cons (pe_bltn (v := .ty "tuple") (by rfl) T.z_tuple (by decide +kernel) rfl) pa_nil))) pa_nil)))) (pss_cons ps_never (pss_one ps_never)) pss_nil)
      (pss_cons (ps_if (PW.pt (pw_or (pt_cmpR op_ne (pe_callB call_isi (by rfl) T.z_isinstance (by decide +kernel) (pa_cons (pv 0) (pa_cons (pe_bltn (v := .ty "bool") (by rfl) T.z_bool (by decide +kernel) rfl) pa_nil))) (pe_callB call_isi (by rfl) T.z_isinstance (by decide +kernel) (pa_cons (pv 1) (pa_cons (pe_bltn (v := .ty "bool") (by rfl) T.z_bool (by decide +kernel) rfl) pa_nil))) (nomark _)) (pw_or1 (pt_cmpR op_ne (pe_callB call_isi (by rfl) T.z_isinstance (by decide +kernel) (pa_cons (pv 0) (pa_cons (pe_bltn (v := .ty "int") (by rfl) T.z_int (by decide +kernel) rfl) pa_nil))) (pe_callB call_isi (by rfl) T.z_isinstance (by decide +kernel) (pa_cons (pv 1) (pa_cons (pe_bltn (v := .ty "int") (by rfl) T.z_int (by decide +kernel) rfl) pa_nil))) (nomark _))))) (pss_one (ps_ret pe_bl)) pss_nil)
      (pss_one (ps_ret (pe_and (pe_cmpR op_eq (pe_callB call_isi (by rfl) T.z_isinstance (by decide +kernel) (pa_cons (pv 0) (pa_cons (pe_bltn (v := .ty "str") (by rfl) T.z_str (by decide +kernel) rfl) pa_nil))) (pe_callB call_isi (by rfl) T.z_isinstance (by decide +kernel) (pa_cons (pv 1) (pa_cons (pe_bltn (v := .ty "str") (by rfl) T.z_str (by decide +kernel) rfl) pa_nil))) (nomark _)) (pe_one (pe_cmpR op_eq (pv 0) (pv 1) (nomark _))))))))), ?_⟩
    by_cases hn : x = .non
    · subst hn
      exact ⟨.non, rfl, rfl, true, rfl, iteT (iteT ⟨.non, rfl, rfl, true, rfl, iteT ⟨.non, rfl, rfl, q H (Same.refl H)⟩⟩)⟩
    · have hd : decide (x = V.non) = false := decide_eq_false hn
      refine ⟨x, rfl, rfl, false, by rw [hd], iteF ⟨x, rfl, rfl, false, by rw [hd], iteF ?_⟩⟩
      have kl : kitB (tyn x) "list" = some false ∧ kitB (tyn x) "tuple" = some false := by
        cases x with
        | non => exact absurd rfl hn
        | bl b => exact ⟨by show kitB "bool" _ = _; decide +kernel, by show kitB "bool" _ = _; decide +kernel⟩
        | int b => exact ⟨by show kitB "int" _ = _; decide +kernel, by show kitB "int" _ = _; decide +kernel⟩
        | str b => exact ⟨by show kitB "str" _ = _; decide +kernel, by show kitB "str" _ = _; decide +kernel⟩
        | _ => cases hx
      obtain ⟨bb, kb⟩ : ∃ bb, kitB (tyn x) "bool" = some bb := by
        cases x with
        | non => exact absurd rfl hn
        | bl b => exact ⟨true, by show kitB "bool" _ = _; decide +kernel⟩
        | int b => exact ⟨false, by show kitB "int" _ = _; decide +kernel⟩
        | str b => exact ⟨false, by show kitB "str" _ = _; decide +kernel⟩
        | _ => cases hx
      obtain ⟨bi, ki⟩ : ∃ bi, kitB (tyn x) "int" = some bi := by
        cases x with
        | non => exact absurd rfl hn
        | bl b => exact ⟨true, by show kitB "bool" _ = _; decide +kernel⟩
        | int b => exact ⟨true, by show kitB "int" _ = _; decide +kernel⟩
        | str b => exact ⟨false, by show kitB "str" _ = _; decide +kernel⟩
        | _ => cases hx
      obtain ⟨bs, ks⟩ : ∃ bs, kitB (tyn x) "str" = some bs := by
        cases x with
        | non => exact absurd rfl hn
        | bl b => exact ⟨false, by show kitB "bool" _ = _; decide +kernel⟩
        | int b => exact ⟨false, by show kitB "int" _ = _; decide +kernel⟩
        | str b => exact ⟨true, by show kitB "str" _ = _; decide +kernel⟩
        | _ => cases hx
      refine ⟨x, rfl, by show 2 ≤ sizeLine; decide, fun p np => ?_⟩
      refine ⟨x, p, [.ty "list", .ty "tuple"], _, _, false, rfl, upd_same, .cons (.ty _) (.cons (.ty _) .nil), ty_sc hx, kit2 kl.1 kl.2, false, rfl, iteF ?_⟩
      refine ⟨x, rfl, x, _, _, _, bb, rfl, .ty _, ty_sc hx, kit_ty kb, x, rfl, x, _, _, _, bb, rfl, .ty _, ty_sc hx, kit_ty kb, rfl, false, by rw [decide_eq_true rfl]; rfl, iteF ?_⟩
      refine ⟨x, rfl, x, _, _, _, bi, rfl, .ty _, ty_sc hx, kit_ty ki, x, rfl, x, _, _, _, bi, rfl, .ty _, ty_sc hx, kit_ty ki, rfl, false, by rw [decide_eq_true rfl]; rfl, iteF ?_⟩
      refine ⟨x, rfl, x, _, _, _, bs, rfl, .ty _, ty_sc hx, kit_ty ks, x, rfl, x, _, _, _, bs, rfl, .ty _, ty_sc hx, kit_ty ks, rfl, true, by rw [decide_eq_true rfl], iteT ?_⟩
      refine ⟨x, rfl, x, rfl, ?_, ?_⟩
      · cases x with
        | non => rfl
        | bl b => rfl
        | int b => rfl
        | str b => rfl
        | _ => cases hx
      · rw [decide_eq_true rfl]
        exact q _ (same_new np)
  intro n
  induction n with
  | zero =>
    refine T.d__law_same.F.ok sc_law_same (fun vs H Q E h => ?_) (fun cdv A outer s H vs Q E hr h => ?_)
    · obtain ⟨x, y, rfl, _⟩ := h
      rfl
    · obtain ⟨x, y, rfl, ⟨rfl, hx⟩, q⟩ := h
      exact sc 0 x hx cdv A outer s H Q E hr q
  | succ n ih =>
    refine T.d__law_same.F.ok sc_law_same (fun vs H Q E h => ?_) (fun cdv A outer s H vs Q E hr h => ?_)
    · obtain ⟨x, y, rfl, _⟩ := h
      rfl
    · obtain ⟨x, y, rfl, h, q⟩ := h
      rcases h with ⟨rfl, hx⟩ | ⟨a, b, xs, ys, rfl, rfl, hq, hl, hm, hr2⟩
      · exact sc (n + 1) x hx cdv A outer s H Q E hr q
      · refine ⟨_, (pss_cons (ps_if (PW.pt (pw_or (pt_cmpR op_isN (pv 1) pe_non (nomark _)) (pw_or1 (pt_cmpR op_isN (pv 0) pe_non (nomark _))))) (pss_one (ps_ret (pe_and (pe_cmpR op_isN (pv 1) pe_non (nomark _)) (pe_one (pe_cmpR op_isN (pv 0) pe_non (nomark _)))))) pss_nil)
      (pss_cons (ps_if (pt_val (pe_callB call_isiT (by rfl) T.z_isinstance (by decide +kernel) (pa_cons (pv 1) (pa_cons (pe_tup (pa_cons (pe_bltn (v := .ty "list") (by rfl) T.z_list (by decide +kernel) rfl) (pa_cons (pe_bltn (v := .ty "tuple") (by rfl) T.z_tuple (by decide +kernel) rfl) pa_nil))) pa_nil)))) (pss_cons (ps_if (PW.pt (pw_or (pt_cmpR op_ne (pe_callB call_isi (by rfl) T.z_isinstance (by decide +kernel) (pa_cons (pv 0) (pa_cons (pe_bltn (v := .ty "list") (by rfl) T.z_list (by decide +kernel) rfl) pa_nil))) (pe_callB call_isi (by rfl) T.z_isinstance (by decide +kernel) (pa_cons (pv 1) (pa_cons (pe_bltn (v := .ty "list") (by rfl) T.z_list (by decide +kernel) rfl) pa_nil))) (nomark _)) (pw_or1 (pt_cmpR op_ne (pe_callB call_isi (by rfl) T.z_isinstance (by decide +kernel) (pa_cons (pv 0) (pa_cons (pe_bltn (v := .ty "tuple") (by rfl) T.z_tuple (by decide +kernel) rfl) pa_nil))) (pe_callB call_isi (by rfl) T.z_isinstance (by decide +kernel) (pa_cons (pv 1) (pa_cons (pe_bltn (v := .ty "tuple") (by rfl) T.z_tuple (by decide +kernel) rfl) pa_nil))) (nomark _))))) (pss_one (ps_ret pe_bl)) pss_nil)
      (pss_one (ps_ret (pe_and (pe_cmpR op_eq (pe_callB call_len_seq (by rfl) T.z_len (by decide +kernel) (pa_cons (pv 0) pa_nil)) (pe_callB call_len_seq (by rfl) T.z_len (by decide +kernel) (pa_cons (pv 1) pa_nil)) (nomark _)) (pe_one (pe_callB (cr_all rfl) (by rfl) T.z_all (by decide +kernel) (pa_cons (pe_lc (own := [("_law_low", 2), ("_law_high", 3)]) (g := gTup K 2 (gCons (gName 2) (gCons (gName 3) gNil))) (tt := tYes) (by rfl) sc_law_same.nd (pi_zipA (by rfl) T.z_zip (pa_cons (pv 0) (pa_cons (pv 1) pa_nil))) (blkOk_by (own := [("_law_low", 2), ("_law_high", 3)]) (N := N_law_same) (sc := defScope s_law_same) (by decide +kernel)) (fun _ _ _ _ _ => (pg_tup rfl (pgs_cons (pg_name (i := 2) sc_law_same.nd rfl (Or.inl rfl)) (pgs_cons (pg_name (i := 3) sc_law_same.nd rfl (Or.inl rfl)) pgs_nil)))) (fun _ _ _ _ _ => pts_nil) (fun _ _ _ _ _ => (pe_call ih (hr.mono (Nat.le_refl _)) (by rfl) T.d__law_same.g T.d__law_same.F.kp T.d__law_same.b .nil pass0 (pa_cons (pv 2) (pa_cons (pv 3) pa_nil))))) pa_nil))))))) pss_nil)
      (pss_cons ps_never (pss_one ps_never)))), ?_⟩
        refine ⟨.ref b, rfl, rfl, false, rfl, iteF ⟨.ref a, rfl, rfl, false, rfl, iteF ?_⟩⟩
        obtain ⟨t, bl', bt, kl, kt, kor, tya, tyb⟩ : ∃ (t : String) (bl' bt : Bool), kitB t "list" = some bl' ∧ kitB t "tuple" = some bt ∧ (bl' || bt) = true ∧ (∀ H', Same H H' → TyX K H' (.ref a) (.type t)) ∧ (∀ H', Same H H' → TyX K H' (.ref b) (.type t)) := by
          rcases hq with ⟨h1, h2⟩ | ⟨h1, h2⟩
          · exact ⟨"list", true, false, by decide +kernel, by decide +kernel, rfl, fun _ s => ty_seqL (s.seq h1), fun _ s => ty_seqL (s.seq h2)⟩
          · exact ⟨"tuple", false, true, by decide +kernel, by decide +kernel, rfl, fun _ s => ty_seqT (same_seqT s h1), fun _ s => ty_seqT (same_seqT s h2)⟩
        refine ⟨.ref b, rfl, by show 2 ≤ sizeLine; decide, fun p np => ?_⟩
        have s1 := same_new (o := .tup [.ty "list", .ty "tuple"]) np
        refine ⟨.ref b, p, [.ty "list", .ty "tuple"], _, _, true, rfl, upd_same, .cons (.ty _) (.cons (.ty _) .nil), tyb _ s1, by rw [← kor]; exact kit2 kl kt, true, rfl, iteT ?_⟩
        refine ⟨.ref a, rfl, .ref a, _, _, _, bl', rfl, .ty _, tya _ s1, kit_ty kl, .ref b, rfl, .ref b, _, _, _, bl', rfl, .ty _, tyb _ s1, kit_ty kl, rfl, false, by rw [decide_eq_true rfl]; rfl, iteF ?_⟩
        refine ⟨.ref a, rfl, .ref a, _, _, _, bt, rfl, .ty _, tya _ s1, kit_ty kt, .ref b, rfl, .ref b, _, _, _, bt, rfl, .ty _, tyb _ s1, kit_ty kt, rfl, false, by rw [decide_eq_true rfl]; rfl, iteF ?_⟩
        have hq1 : (SqL K (upd H p (.tup [.ty "list", .ty "tuple"])) a xs ∧ SqL K (upd H p (.tup [.ty "list", .ty "tuple"])) b ys) ∨ (SqT K (upd H p (.tup [.ty "list", .ty "tuple"])) a xs ∧ SqT K (upd H p (.tup [.ty "list", .ty "tuple"])) b ys) := by
          rcases hq with ⟨h1, h2⟩ | ⟨h1, h2⟩
          · exact .inl ⟨s1.seq h1, s1.seq h2⟩
          · exact .inr ⟨same_seqT s1 h1, same_seqT s1 h2⟩
        generalize upd H p (.tup [.ty "list", .ty "tuple"]) = H1 at s1 hq1
        have hxa : SqL K H1 a xs ∨ SqT K H1 a xs := by rcases hq1 with ⟨h, _⟩ | ⟨h, _⟩; exact .inl h; exact .inr h
        have hyb : SqL K H1 b ys ∨ SqT K H1 b ys := by rcases hq1 with ⟨_, h⟩ | ⟨_, h⟩; exact .inl h; exact .inr h
        refine ⟨.ref a, rfl, a, xs, rfl, hxa, .ref b, rfl, b, ys, rfl, hyb, rfl, true, by rw [hl, decide_eq_true rfl], iteT ?_⟩
        refine ⟨.ref a, rfl, .ref b, rfl, a, b, xs, ys, rfl, ?_⟩
        have fin : ∀ D (H2 : Hp), (Same H1 H2 ∧ H2 D = some (.lst ((List.replicate xs.length true).map V.bl))) → ∃ (a : Addr) (bs : List Bool), [V.ref D] = [V.ref a] ∧ SqL K H2 a (bs.map V.bl) ∧ Q (.bl (bs.all id)) H2 := fun D H2 h => ⟨D, _, rfl, SqL.of h.2, by rw [all_true]; exact q _ (s1.trans h.1)⟩
        have hmin : xs.length = min xs.length ys.length := by omega
        rcases hq1 with ⟨h1, h2⟩ | ⟨h1, h2⟩
        · refine .inl ⟨h1, h2, fun D nD => lc_it (walk_zip (xs := xs) (ys := ys) hmin) (fun i H2 => Same H1 H2 ∧ H2 D = some (.lst ((List.replicate i true).map V.bl))) ⟨same_new nD, upd_same⟩ (fun i H2 _ h => ⟨h.1.seq h1, h.1.seq h2⟩) ?_ (fun H2 h => fin D H2 h)⟩
          rintro i x H2 H3 hi ⟨sm, eD⟩ ⟨T', u, v, rfl, nT, rfl, hu, hv⟩
          have sT := same_new (o := .tup [u, v]) nT
          refine ⟨T', [u, v], rfl, SqT.of upd_same, rfl, u, [v], rfl, v, [], rfl, rfl, rfl, ?_⟩
          refine ⟨u, rfl, v, rfl, u, v, rfl, (hr2 i u v hu hv).same (s1.trans (sm.trans sT)), fun H' s => ?_⟩
          refine ⟨_, s _ _ (sT _ _ eD), ?_, ?_, ?_⟩
          · rw [List.length_map, List.length_replicate]
            exact small1000 (by omega)
          · exact fun z o e => by rw [upd_ne (ne_of_none e nD)]; exact s _ _ (sT _ _ (sm _ _ e))
          · rw [upd_same, List.replicate_succ', List.map_append]
            rfl
        · refine .inr ⟨h1, h2, fun D nD => lc_it (walk_zipT (xs := xs) (ys := ys) hmin) (fun i H2 => Same H1 H2 ∧ H2 D = some (.lst ((List.replicate i true).map V.bl))) ⟨same_new nD, upd_same⟩ (fun i H2 _ h => ⟨same_seqT h.1 h1, same_seqT h.1 h2⟩) ?_ (fun H2 h => fin D H2 h)⟩
          rintro i x H2 H3 hi ⟨sm, eD⟩ ⟨T', u, v, rfl, nT, rfl, hu, hv⟩
          have sT := same_new (o := .tup [u, v]) nT
          refine ⟨T', [u, v], rfl, SqT.of upd_same, rfl, u, [v], rfl, v, [], rfl, rfl, rfl, ?_⟩
          refine ⟨u, rfl, v, rfl, u, v, rfl, (hr2 i u v hu hv).same (s1.trans (sm.trans sT)), fun H' s => ?_⟩
          refine ⟨_, s _ _ (sT _ _ eD), ?_, ?_, ?_⟩
          · rw [List.length_map, List.length_replicate]
            exact small1000 (by omega)
          · exact fun z o e => by rw [upd_ne (ne_of_none e nD)]; exact s _ _ (sT _ _ (sm _ _ e))
          · rw [upd_same, List.replicate_succ', List.map_append]
            rfl
end
end Rd
set_option maxHeartbeats 4000000
namespace Rd
open PySem PySem.Spec PyProof.Rows L2
open C8 (pss_cut tCut)
open RZ (ItzT pi_zipA)
/-! ## the program: names, numbers, ends, entries -/
inductive Kd (K : PySem.W.Frag) (H : Hp) : V → String → Prop
  | sc {x : V} (h : isSc x = true) : Kd K H x (tyn x)
  | lst {a : Addr} {xs : List V} (h : SqL K H a xs) : Kd K H (.ref a) "list"
  | tup {a : Addr} {xs : List V} (h : SqT K H a xs) : Kd K H (.ref a) "tuple"
theorem Kd.ty {K : PySem.W.Frag} {H : Hp} {v : V} {t : String} (h : Kd K H v t) : TyX K H v (.type t) := by
  cases h with
  | sc h => exact ty_sc h
  | lst h => exact ty_seqL h
  | tup h => exact ty_seqT h
theorem Kd.same {K : PySem.W.Frag} {H H' : Hp} {v : V} {t : String} (s : Same H H') (h : Kd K H v t) : Kd K H' v t := by
  cases h with
  | sc h => exact .sc h
  | lst h => exact .lst (s.seq h)
  | tup h => exact .tup (same_seqT s h)
def isS : V → Bool
  | .str _ => true
  | _ => false
def isB : V → Bool
  | .bl _ => true
  | _ => false
def isI : V → Bool
  | .bl _ => true
  | .int _ => true
  | _ => false
section
variable {K : PySem.W.Frag} {H : Hp} {v : V} {t : String}
theorem kd_cases {p : V → String → Prop} (h : Kd K H v t) (h1 : p .non "NoneType") (h2 : ∀ b, p (.bl b) "bool") (h3 : ∀ i, p (.int i) "int") (h4 : ∀ z, p (.str z) "str") (h5 : ∀ a, p (.ref a) "list") (h6 : ∀ a, p (.ref a) "tuple") : p v t := by
  cases h with
  | sc h =>
    cases v with
    | non => exact h1
    | bl b => exact h2 b
    | int i => exact h3 i
    | str z => exact h4 z
    | _ => cases h
  | lst h => exact h5 _
  | tup h => exact h6 _
theorem kd_str (h : Kd K H v t) : kitB t "str" = some (isS v) :=
  kd_cases (p := fun v t => kitB t "str" = some (isS v)) h (by show kitB "NoneType" "str" = some false; decide +kernel) (fun _ => by show kitB "bool" "str" = some false; decide +kernel) (fun _ => by show kitB "int" "str" = some false; decide +kernel) (fun _ => by show kitB "str" "str" = some true; decide +kernel) (fun _ => by show kitB "list" "str" = some false; decide +kernel) (fun _ => by show kitB "tuple" "str" = some false; decide +kernel)
theorem kd_int (h : Kd K H v t) : kitB t "int" = some (isI v) :=
  kd_cases (p := fun v t => kitB t "int" = some (isI v)) h (by show kitB "NoneType" "int" = some false; decide +kernel) (fun _ => by show kitB "bool" "int" = some true; decide +kernel) (fun _ => by show kitB "int" "int" = some true; decide +kernel) (fun _ => by show kitB "str" "int" = some false; decide +kernel) (fun _ => by show kitB "list" "int" = some false; decide +kernel) (fun _ => by show kitB "tuple" "int" = some false; decide +kernel)
theorem kd_bool (h : Kd K H v t) : kitB t "bool" = some (isB v) :=
  kd_cases (p := fun v t => kitB t "bool" = some (isB v)) h (by show kitB "NoneType" "bool" = some false; decide +kernel) (fun _ => by show kitB "bool" "bool" = some true; decide +kernel) (fun _ => by show kitB "int" "bool" = some false; decide +kernel) (fun _ => by show kitB "str" "bool" = some false; decide +kernel) (fun _ => by show kitB "list" "bool" = some false; decide +kernel) (fun _ => by show kitB "tuple" "bool" = some false; decide +kernel)
theorem kd_tuple (h : Kd K H v t) : kitB t "tuple" = some (decide (t = "tuple")) :=
  kd_cases (p := fun v t => kitB t "tuple" = some (decide (t = "tuple"))) h (by decide +kernel) (fun _ => by decide +kernel) (fun _ => by decide +kernel) (fun _ => by decide +kernel) (fun _ => by decide +kernel) (fun _ => by decide +kernel)
end
def low (c : Nat) : Bool := decide (97 ≤ c) && decide (c ≤ 122)
def isNm : V → Bool
  | .str z => (decide (1 ≤ z.length) && decide (z.length ≤ 6)) && z.cps.toList.all low
  | _ => false
theorem isNm_str (z : Str) : isNm (.str z) = ((decide (1 ≤ z.length) && decide (z.length ≤ 6)) && z.cps.toList.all low) := rfl
def isNum : V → Int → Int → Bool
  | .int i, lo, hi => decide (lo ≤ i) && decide (i ≤ hi)
  | _, _, _ => false
theorem letters_low (c : Nat) : decide (c ∈ ("abcdefghijklmnopqrstuvwxyz" : Str).cps.toList) = low c := by
  have e : ("abcdefghijklmnopqrstuvwxyz" : Str).cps.toList = List.range' 97 26 := by decide +kernel
  rw [e]
  unfold low
  rw [← Bool.decide_and]
  exact decide_eq_decide.mpr (by rw [List.mem_range'_1]; omega)
section
variable {P : Program} {w : World} {K : PySem.W.Frag} {mg : Str → Option Value} {base : Heap}
def spName (K : PySem.W.Frag) : Sp := fun vs H Q _ => ∃ v t, vs = [v] ∧ Kd K H v t ∧ (∀ z, v = .str z → z.length ≤ 1000) ∧ ∀ H', Same H H' → Q (.bl (isNm v)) H'
theorem ok_is_name (T : Txt K mg) : FnOk P w K mg base CX0 1 T.d_is_name.f T.d_is_name.fd ["value"] (spName K) := by
  refine T.d_is_name.F.ok sc_is_name (fun vs H Q E h => ?_) (fun cdv A outer s H vs Q E hr h => ?_)
  · obtain ⟨v, t, rfl, _⟩ := h
    rfl
  · obtain ⟨v, t, rfl, hk, hz, q⟩ := h
    refine ⟨_, (pss_cons (ps_if (PW.pt (pw_or (pt_not (pt_val (pe_callB call_isi (by rfl) T.z_isinstance (by decide +kernel) (pa_cons (pv 0) (pa_cons (pe_bltn (v := .ty "str") (by rfl) T.z_str (by decide +kernel) rfl) pa_nil))))) (pw_or1 (pt_not (pt_chain op_le op_le pe_int (pe_callB call_len_str (by rfl) T.z_len (by decide +kernel) (pa_cons (pv 0) pa_nil)) (pe_glob (v := .int 6) rfl T.c_MOST_LETTERS ⟨_, rfl⟩)))))) (pss_one (ps_ret pe_bl)) pss_nil)
      (pss_one (ps_ret (pe_callB (cr_all rfl) (by rfl) T.z_all (by decide +kernel) (pa_cons (pe_lc (own := [("letter", 1)]) (g := gName 1) (tt := tYes) (by rfl) sc_is_name.nd (pi_str (pv 0)) (blkOk_by (own := [("letter", 1)]) (N := N_is_name) (sc := defScope s_is_name) (by decide +kernel)) (fun _ _ _ _ _ => (pg_name (i := 1) sc_is_name.nd rfl (Or.inl rfl))) (fun _ _ _ _ _ => pts_nil) (fun _ _ _ _ _ => (pe_cmpR op_in_sign (pv 1) (pe_glob (v := .str "abcdefghijklmnopqrstuvwxyz") rfl T.c_LETTERS ⟨_, rfl⟩) (by rfl)))) pa_nil))))), ?_⟩
    refine ⟨v, rfl, v, _, _, _, isS v, rfl, .ty _, hk.ty, kit_ty (kd_str hk), _, rfl, ?_⟩
    cases v with
    | str z =>
      have h6 : z.length ≤ sizeLine := Nat.le_of_lt (small1000 (hz z rfl))
      refine iteF ?_
      refine ⟨.str z, rfl, z, rfl, h6, 1, _, rfl, rfl, _, rfl, ?_⟩
      refine ite2 (fun e1 => ?_) (fun e1 => ?_)
      · have l1 : 1 ≤ z.length := by have := of_decide_eq_true e1; omega
        refine ⟨_, 6, rfl, rfl, _, rfl, ?_⟩
        show if (!decide ((z.length : Int) ≤ 6)) = true then _ else _
        by_cases h2 : z.length ≤ 6
        · refine iteNS (by omega) ?_
          refine ⟨.str z, rfl, z, rfl, fun D nD => lc_it walk_str (fun i H2 => Same H H2 ∧ H2 D = some (.lst ((((z.cps.toList.take i).map low)).map V.bl))) ⟨same_new nD, upd_same⟩ (fun _ _ _ _ => trivial) ?_ ?_⟩
          · rintro i x H2 H3 hi ⟨sm, eD⟩ ⟨rfl, c, hc, rfl⟩
            refine ⟨rfl, ?_⟩
            refine ⟨.str ⟨#[c]⟩, rfl, c, _, rfl, rfl, ?_⟩
            rw [letters_low]
            have hc' : z.cps.toList[i]? = some c := by rw [Array.getElem?_toList]; exact hc
            refine ⟨_, eD, ?_, fun b o e => by rw [upd_ne (ne_of_none e nD)]; exact sm _ _ e, ?_⟩
            · rw [List.length_map, List.length_map, List.length_take]
              have : z.cps.toList.length = z.length := by simp [Str.length]
              exact small1000 (by omega)
            · rw [upd_same, List.take_add_one, hc', List.map_append, List.map_append]
              rfl
          · rintro H2 ⟨sm, eD⟩
            refine ⟨D, _, rfl, SqL.of eD, ?_⟩
            have e : ((z.cps.toList.take z.cps.size).map low).all id = z.cps.toList.all low := by
              rw [List.take_of_length_le (by simp), List.all_map]
              rfl
            rw [e]
            have := q H2 sm
            rw [isNm_str] at this
            rw [decide_eq_true l1, decide_eq_true h2] at this
            exact this
        · rw [decide_eq_false (by omega)]
          refine iteT ?_
          have := q H (Same.refl H)
          rw [isNm_str] at this
          rw [decide_eq_false h2, Bool.and_false] at this
          exact this
      · refine ⟨_, rfl, iteT ?_⟩
        have := q H (Same.refl H)
        have l1 : ¬ 1 ≤ z.length := fun z => e1 (decide_eq_true (by omega))
        rw [isNm_str] at this
        rw [decide_eq_false l1] at this
        exact this
    | _ => exact iteT (q H (Same.refl H))
def spNumber (K : PySem.W.Frag) : Sp := fun vs H Q _ => ∃ v t lo hi, vs = [v, .int lo, .int hi] ∧ Kd K H v t ∧ Q (.bl (isNum v lo hi)) H
def spInteger (K : PySem.W.Frag) : Sp := fun vs H Q _ => ∃ v t, vs = [v] ∧ Kd K H v t ∧ Q (.bl (isI v && !isB v)) H
theorem ok_is_integer (T : Txt K mg) : FnOk P w K mg base CX0 1 T.d_is_integer.f T.d_is_integer.fd ["value"] (spInteger K) := by
  refine T.d_is_integer.F.ok sc_is_integer (fun vs H Q E h => ?_) (fun cdv A outer s H vs Q E hr h => ?_)
  · obtain ⟨v, t, rfl, _⟩ := h
    rfl
  · obtain ⟨v, t, rfl, hk, q⟩ := h
    refine ⟨_, (pss_one (ps_ret (pe_and (pe_callB call_isi (by rfl) T.z_isinstance (by decide +kernel) (pa_cons (pv 0) (pa_cons (pe_bltn (v := .ty "int") (by rfl) T.z_int (by decide +kernel) rfl) pa_nil))) (pe_one (pe_not (pe_callB call_isi (by rfl) T.z_isinstance (by decide +kernel) (pa_cons (pv 0) (pa_cons (pe_bltn (v := .ty "bool") (by rfl) T.z_bool (by decide +kernel) rfl) pa_nil)))))))), ?_⟩
    refine ⟨v, rfl, v, _, _, _, isI v, rfl, .ty _, hk.ty, kit_ty (kd_int hk), _, rfl, ?_⟩
    by_cases hi' : isI v = true
    · rw [hi'] at q ⊢
      exact iteT ⟨v, rfl, v, _, _, _, isB v, rfl, .ty _, hk.ty, kit_ty (kd_bool hk), _, rfl, q⟩
    · rw [Bool.eq_false_iff.mpr hi'] at q ⊢
      exact iteF q
theorem ok_is_number (T : Txt K mg) : FnOk P w K mg base CX0 2 T.d_is_number.f T.d_is_number.fd ["value", "least", "most"] (spNumber K) := by
  refine T.d_is_number.F.ok sc_is_number (fun vs H Q E h => ?_) (fun cdv A outer s H vs Q E hr h => ?_)
  · obtain ⟨v, t, lo, hi, rfl, _⟩ := h
    rfl
  · obtain ⟨v, t, lo, hi, rfl, hk, q⟩ := h
    refine ⟨_, (pss_one (ps_ret (pe_and (pe_call (ok_is_integer T) (hr.mono (by decide)) (by rfl) T.d_is_integer.g T.d_is_integer.F.kp T.d_is_integer.b .nil pass0 (pa_cons (pv 0) pa_nil)) (pe_one (pe_chain op_le op_le (pv 1) (pv 0) (pv 2)))))), ?_⟩
    refine ⟨v, rfl, v, t, rfl, hk, _, rfl, ?_⟩
    cases v with
    | bl b => exact iteF q
    | int i =>
      refine iteT ⟨.int lo, rfl, .int i, rfl, lo, i, rfl, rfl, _, rfl, ?_⟩
      have q' : Q (.bl (decide (lo ≤ i) && decide (i ≤ hi))) H := q
      refine ite2 (fun e => ?_) (fun e => ?_)
      · rw [e] at q'
        exact ⟨.int hi, rfl, i, hi, rfl, rfl, q'⟩
      · rw [Bool.eq_false_iff.mpr e] at q'
        exact q'
    | _ => exact iteF q
end
end Rd
set_option maxHeartbeats 4000000
namespace Rd
open PySem PySem.Spec PyProof.Rows L2
open C8 (pss_cut tCut)
open RZ (ItzT pi_zipA)
/-! ## shapes of values: a constant, a value of some kind, a list, a tuple -/
inductive Sh where
  | c (x : V)
  | is (p : V → Prop)
  | l (xs : List Sh)
  | t (xs : List Sh)
  | o (xs : List Sh)
  | n (C : Addr) (fs : List (Str × V))
mutual
def Is (b : Addr) (H : Hp) : Sh → V → Prop
  | .c x, v => v = x
  | .is p, v => p v
  | .l xs, v => ∃ p vs, v = .ref p ∧ p ≠ b ∧ H p = some (.lst vs) ∧ IsAll b H xs vs
  | .t xs, v => ∃ p vs, v = .ref p ∧ p ≠ b ∧ H p = some (.tup vs) ∧ IsAll b H xs vs
  | .o xs, v => IsOne b H xs v
  | .n C fs, v => ∃ a d, v = .ref a ∧ a ≠ b ∧ H a = some (.ins C d fs)
def IsAll (b : Addr) (H : Hp) : List Sh → List V → Prop
  | [], vs => vs = []
  | s :: r, vs => ∃ v ws, vs = v :: ws ∧ Is b H s v ∧ IsAll b H r ws
def IsOne (b : Addr) (H : Hp) : List Sh → V → Prop
  | [], _ => False
  | s :: r, v => Is b H s v ∨ IsOne b H r v
end
mutual
theorem Is.go {b : Addr} {H H' : Hp} (g : Go b H H') : ∀ {s : Sh} {v : V}, Is b H s v → Is b H' s v
  | .c x, v, h => h
  | .is p, v, h => h
  | .l xs, v, h => by
    obtain ⟨p, vs, e, n, o, r⟩ := h
    exact ⟨p, vs, e, n, g.2 _ _ n o, IsAll.go g r⟩
  | .t xs, v, h => by
    obtain ⟨p, vs, e, n, o, r⟩ := h
    exact ⟨p, vs, e, n, g.2 _ _ n o, IsAll.go g r⟩
  | .o xs, v, h => IsOne.go g (show IsOne b H xs v from h)
  | .n C fs, v, h => by
    obtain ⟨a, d, e, n1, o1⟩ := h
    exact ⟨a, d, e, n1, g.2 _ _ n1 o1⟩
theorem IsAll.go {b : Addr} {H H' : Hp} (g : Go b H H') : ∀ {ss : List Sh} {vs : List V}, IsAll b H ss vs → IsAll b H' ss vs
  | [], _, h => h
  | _ :: _, _, h => by
    obtain ⟨v, ws, e, r, q⟩ := h
    exact ⟨v, ws, e, Is.go g r, IsAll.go g q⟩
theorem IsOne.go {b : Addr} {H H' : Hp} (g : Go b H H') : ∀ {ss : List Sh} {v : V}, IsOne b H ss v → IsOne b H' ss v
  | [], _, h => h
  | _ :: _, _, h => by
    rcases h with h | h
    · exact .inl (Is.go g h)
    · exact .inr (IsOne.go g h)
end
theorem IsOne.mem {b : Addr} {H : Hp} : ∀ {ss : List Sh} {v : V}, IsOne b H ss v → ∃ s, s ∈ ss ∧ Is b H s v
  | [], _, h => by cases h
  | s :: _, _, h => by
    rcases h with h | h
    · exact ⟨s, List.mem_cons_self, h⟩
    · obtain ⟨s', m, k⟩ := h.mem
      exact ⟨s', List.mem_cons_of_mem _ m, k⟩
theorem IsOne.of {b : Addr} {H : Hp} : ∀ {ss : List Sh} {v : V} {s : Sh}, s ∈ ss → Is b H s v → IsOne b H ss v
  | s' :: _, _, _, m, h => by
    rcases List.mem_cons.mp m with rfl | m
    · exact .inl h
    · exact .inr (IsOne.of m h)
/-- one of some constants, of all of which p holds -/
theorem one_c {b : Addr} {H : Hp} {v : V} (p : V → Bool) : ∀ {ys : List V}, ys.all p = true → IsOne b H (ys.map Sh.c) v → p v = true
  | [], _, h => by cases h
  | y :: ys, a, h => by
    rw [List.all_cons, Bool.and_eq_true] at a
    rcases h with h | h
    · rw [show v = y from h]; exact a.1
    · exact one_c p a.2 h
theorem IsAll.length {b : Addr} {H : Hp} : ∀ {ss : List Sh} {vs : List V}, IsAll b H ss vs → vs.length = ss.length
  | [], _, h => by rw [show _ = [] from h]; rfl
  | _ :: _, _, h => by
    obtain ⟨v, ws, rfl, _, q⟩ := h
    rw [List.length_cons, List.length_cons, q.length]
theorem IsAll.append {b : Addr} {H : Hp} : ∀ {ss rr : List Sh} {vs ws : List V}, IsAll b H ss vs → IsAll b H rr ws → IsAll b H (ss ++ rr) (vs ++ ws)
  | [], _, _, _, h, k => by rw [show _ = [] from h]; exact k
  | _ :: _, _, _, _, h, k => by
    obtain ⟨v, us, rfl, r, q⟩ := h
    exact ⟨v, us ++ _, rfl, r, q.append k⟩
theorem IsAll.mem {b : Addr} {H : Hp} : ∀ {ss : List Sh} {vs : List V} {v : V}, IsAll b H ss vs → v ∈ vs → ∃ s, s ∈ ss ∧ Is b H s v
  | [], _, _, h, m => by rw [show _ = [] from h] at m; cases m
  | s :: _, _, _, h, m => by
    obtain ⟨u, us, rfl, r, q⟩ := h
    rcases List.mem_cons.mp m with rfl | m
    · exact ⟨s, List.mem_cons_self, r⟩
    · obtain ⟨s', h1, h2⟩ := q.mem m
      exact ⟨s', List.mem_cons_of_mem _ h1, h2⟩
theorem IsAll.at {b : Addr} {H : Hp} : ∀ {ss : List Sh} {vs : List V} {i : Nat} {v : V}, IsAll b H ss vs → vs[i]? = some v → ∃ s, ss[i]? = some s ∧ Is b H s v
  | [], _, _, _, h, m => by rw [show _ = [] from h] at m; cases m
  | s :: _, _, 0, _, h, m => by
    obtain ⟨u, us, rfl, r, q⟩ := h
    cases m
    exact ⟨s, rfl, r⟩
  | s :: _, _, i + 1, _, h, m => by
    obtain ⟨u, us, rfl, r, q⟩ := h
    exact q.at (i := i) m
/-- a shape that leaves no choice, at most n deep -/
def det : Nat → Sh → Bool
  | _, .c x => isSc x
  | _, .is _ => false
  | _, .o _ => false
  | _, .n _ _ => false
  | 0, _ => false
  | n + 1, .l xs => decide (xs.length ≤ 1000) && xs.all (det n)
  | n + 1, .t xs => decide (xs.length ≤ 1000) && xs.all (det n)
theorem eqv_det {K : PySem.W.Frag} {b : Addr} {H : Hp} : ∀ {n : Nat} {s : Sh} {v w : V}, det n s = true → Is b H s v → Is b H s w → Eqv K H n v w
  | n, .c x, v, w, d, h, k => by
    rw [show v = x from h, show w = x from k]
    exact .sc (by cases n <;> exact d) n
  | n, .is p, v, w, d, h, k => by cases n <;> cases d
  | n, .o p, v, w, d, h, k => by cases n <;> cases d
  | n, .n _ _, v, w, d, h, k => by cases n <;> cases d
  | 0, .l xs, v, w, d, h, k => by cases d
  | 0, .t xs, v, w, d, h, k => by cases d
  | n + 1, .l xs, v, w, d, h, k => by
    obtain ⟨p, vs, rfl, _, o1, r1⟩ := h
    obtain ⟨q, ws, rfl, _, o2, r2⟩ := k
    obtain ⟨d1, d2⟩ := Bool.and_eq_true_iff.mp (show (decide (xs.length ≤ 1000) && xs.all (det n)) = true from d)
    have l1 := r1.length
    have l2 := r2.length
    refine .inr ⟨p, q, vs, ws, rfl, rfl, .inl ⟨SqL.of o1, SqL.of o2⟩, by omega, by have := of_decide_eq_true d1; omega, fun i x y h1 h2 => ?_⟩
    obtain ⟨s, e1, i1⟩ := r1.at h1
    obtain ⟨s', e2, i2⟩ := r2.at h2
    cases e1.symm.trans e2
    exact eqv_det (List.all_eq_true.mp d2 s (List.mem_of_getElem? e1)) i1 i2
  | n + 1, .t xs, v, w, d, h, k => by
    obtain ⟨p, vs, rfl, _, o1, r1⟩ := h
    obtain ⟨q, ws, rfl, _, o2, r2⟩ := k
    obtain ⟨d1, d2⟩ := Bool.and_eq_true_iff.mp (show (decide (xs.length ≤ 1000) && xs.all (det n)) = true from d)
    have l1 := r1.length
    have l2 := r2.length
    refine .inr ⟨p, q, vs, ws, rfl, rfl, .inr ⟨SqT.of o1, SqT.of o2⟩, by omega, by have := of_decide_eq_true d1; omega, fun i x y h1 h2 => ?_⟩
    obtain ⟨s, e1, i1⟩ := r1.at h1
    obtain ⟨s', e2, i2⟩ := r2.at h2
    cases e1.symm.trans e2
    exact eqv_det (List.all_eq_true.mp d2 s (List.mem_of_getElem? e1)) i1 i2
/-! ### what an expression comes to, while the bag moves on -/
def Ev1 (b : Addr) (te : TE) (σ : L2.St) (H0 : Hp) (s : Sh) : Prop := ∀ H, Go b H0 H → ∀ Q : VK, (∀ v H', Go b H H' → Is b H' s v → Q v H') → te σ H Q
def EvN (b : Addr) (ta : TA) (σ : L2.St) (H0 : Hp) (ss : List Sh) : Prop := ∀ H, Go b H0 H → ∀ Q : List V → Hp → Prop, (∀ vs H', Go b H H' → IsAll b H' ss vs → Q vs H') → ta σ H Q
section
variable {b : Addr} {σ : L2.St} {H0 : Hp} {te ta tb : TE} {tr : TA} {s s1 s2 : Sh} {ss : List Sh} {K : PySem.W.Frag}
theorem e_var {i : Nat} {v : V} (h : σ[i]? = some (some v)) (k : Is b H0 s v) : Ev1 b (tVar i) σ H0 s := fun H g Q q => ⟨v, h, q v H (.refl g.1) (k.go g)⟩
theorem e_c {v : V} : Ev1 b (tC v) σ H0 (.c v) := fun H g Q q => q v H (.refl g.1) rfl
theorem n_nil : EvN b tNil σ H0 [] := fun H g Q q => q [] H (.refl g.1) rfl
theorem n_cons (h : Ev1 b te σ H0 s) (k : EvN b tr σ H0 ss) : EvN b (tCons te tr) σ H0 (s :: ss) := fun H g Q q =>
  h H g _ fun v H1 g1 i1 => k H1 (g.trans g1) _ fun vs H2 g2 i2 => q (v :: vs) H2 (g1.trans g2) ⟨v, vs, rfl, i1.go g2, i2⟩
theorem e_lst (h : EvN b tr σ H0 ss) (l : ss.length ≤ 1000) : Ev1 b (tLst tr) σ H0 (.l ss) := fun H g Q q =>
  h H g _ fun vs H1 g1 i1 => ⟨by rw [i1.length]; exact Nat.le_of_lt (small1000 l), fun p np => q _ _ (g1.new np) ⟨p, vs, rfl, g1.1.ne np, upd_same, i1.go ((Go.refl g1.1).new np)⟩⟩
theorem e_tup (h : EvN b tr σ H0 ss) (l : ss.length ≤ 1000) : Ev1 b (tTup tr) σ H0 (.t ss) := fun H g Q q =>
  h H g _ fun vs H1 g1 i1 => ⟨by rw [i1.length]; exact Nat.le_of_lt (small1000 l), fun p np => q _ _ (g1.new np) ⟨p, vs, rfl, g1.1.ne np, upd_same, i1.go ((Go.refl g1.1).new np)⟩⟩
/-- xs + ys -/
theorem e_cat {xs ys : List Sh} (h : Ev1 b ta σ H0 (.l xs)) (k : Ev1 b tb σ H0 (.l ys)) (l : xs.length + ys.length ≤ 1000) : Ev1 b (tOp rCat ta tb) σ H0 (.l (xs ++ ys)) := fun H g Q q =>
  h H g _ fun v H1 g1 i1 => k H1 (g.trans g1) _ fun w H2 g2 i2 => by
    obtain ⟨p1, vs, rfl, n1, o1, r1⟩ := i1.go g2
    obtain ⟨p2, ws, rfl, n2, o2, r2⟩ := i2
    refine ⟨p1, p2, vs, ws, rfl, rfl, o1, o2, by rw [r1.length, r2.length]; exact Nat.le_of_lt (small1000 l), fun p np => ?_⟩
    exact q _ _ ((g1.trans g2).new np) ⟨p, vs ++ ws, rfl, (g1.trans g2).1.ne np, upd_same, (r1.append r2).go ((Go.refl g2.1).new np)⟩
theorem e_add {i j : Int} (h : Ev1 b ta σ H0 (.c (.int i))) (k : Ev1 b tb σ H0 (.c (.int j))) : Ev1 b (tOp (rI0 fun i j => .int (i + j)) ta tb) σ H0 (.c (.int (i + j))) := fun H g Q q =>
  h H g _ fun v H1 g1 i1 => k H1 (g.trans g1) _ fun w H2 g2 i2 => ⟨i, j, i1, i2, q _ H2 (g1.trans g2) rfl⟩
theorem e_sub {i j : Int} (h : Ev1 b ta σ H0 (.c (.int i))) (k : Ev1 b tb σ H0 (.c (.int j))) : Ev1 b (tOp (rI0 fun i j => .int (i - j)) ta tb) σ H0 (.c (.int (i - j))) := fun H g Q q =>
  h H g _ fun v H1 g1 i1 => k H1 (g.trans g1) _ fun w H2 g2 i2 => ⟨i, j, i1, i2, q _ H2 (g1.trans g2) rfl⟩
theorem e_le {i j : Int} (h : Ev1 b ta σ H0 (.c (.int i))) (k : Ev1 b tb σ H0 (.c (.int j))) : Ev1 b (tOp (rI0 fun i j => .bl (decide (i ≤ j))) ta tb) σ H0 (.c (.bl (decide (i ≤ j)))) := fun H g Q q =>
  h H g _ fun v H1 g1 i1 => k H1 (g.trans g1) _ fun w H2 g2 i2 => ⟨i, j, i1, i2, q _ H2 (g1.trans g2) rfl⟩
theorem e_pow {i j : Int} (h : Ev1 b ta σ H0 (.c (.int i))) (k : Ev1 b tb σ H0 (.c (.int j))) (hc : CPow i j) : Ev1 b (tOp (rI CPow fun i j => .int (i ^ j.toNat)) ta tb) σ H0 (.c (.int (i ^ j.toNat))) := fun H g Q q =>
  h H g _ fun v H1 g1 i1 => k H1 (g.trans g1) _ fun w H2 g2 i2 => ⟨i, j, i1, i2, hc, q _ H2 (g1.trans g2) rfl⟩
theorem e_neg {i : Int} (h : Ev1 b ta σ H0 (.c (.int i))) : Ev1 b (tUn (rU fun i => .int (-i)) ta) σ H0 (.c (.int (-i))) := fun H g Q q =>
  h H g _ fun v H1 g1 i1 => ⟨i, i1, q _ H1 g1 rfl⟩
/-- a and b of bools -/
theorem e_and {x y : Bool} (h : Ev1 b ta σ H0 (.c (.bl x))) (k : x = true → Ev1 b tb σ H0 (.c (.bl y))) : Ev1 b (tAndV ta tb) σ H0 (.c (.bl (x && y))) := fun H g Q q =>
  h H g _ fun v H1 g1 i1 => ⟨x, i1, by
    cases x with
    | true => exact k rfl H1 (g.trans g1) _ fun w H2 g2 i2 => q w H2 (g1.trans g2) i2
    | false => exact q _ H1 g1 rfl⟩
/-- text + text -/
theorem e_cats {x y : Str} (h : Ev1 b ta σ H0 (.c (.str x))) (k : Ev1 b tb σ H0 (.c (.str y))) (l : x.length + y.length ≤ 1000) : Ev1 b (tOp (fun x y H Q => ∃ i j, x = .str i ∧ y = .str j ∧ i.length + j.length ≤ sizeLine ∧ Q (.str (i ++ j)) H) ta tb) σ H0 (.c (.str (x ++ y))) := fun H g Q q =>
  h H g _ fun v H1 g1 i1 => k H1 (g.trans g1) _ fun w H2 g2 i2 => ⟨x, y, i1, i2, Nat.le_of_lt (small1000 l), q _ H2 (g1.trans g2) rfl⟩
theorem e_lens {x : Str} (h : Ev1 b te σ H0 (.c (.str x))) (l : x.length ≤ 1000) : Ev1 b (tCB (fun xs H Q => ∃ z, xs = [.str z] ∧ z.length ≤ sizeLine ∧ Q (.int z.length) H) (tCons te tNil)) σ H0 (.c (.int x.length)) := fun H g Q q =>
  h H g _ fun v H1 g1 i1 => ⟨x, by rw [show v = _ from i1], Nat.le_of_lt (small1000 l), q _ H1 g1 rfl⟩
/-- 1 <= n <= 6 -/
theorem e_chain {i j k : Int} {tc : TE} (h1 : Ev1 b ta σ H0 (.c (.int i))) (h2 : Ev1 b tb σ H0 (.c (.int j))) (h3 : Ev1 b tc σ H0 (.c (.int k))) :
    Ev1 b (tChain (rI0 fun i j => .bl (decide (i ≤ j))) (rI0 fun i j => .bl (decide (i ≤ j))) ta tb tc) σ H0 (.c (.bl (decide (i ≤ j) && decide (j ≤ k)))) := fun H g Q q =>
  h1 H g _ fun v H1 g1 i1 => h2 H1 (g.trans g1) _ fun w H2 g2 i2 => by
    refine ⟨i, j, i1, i2, _, rfl, ?_⟩
    by_cases e : i ≤ j
    · rw [decide_eq_true e]
      refine iteT (h3 H2 (g.trans (g1.trans g2)) _ fun u H3 g3 i3 => ⟨j, k, i2, i3, ?_⟩)
      exact q _ H3 ((g1.trans g2).trans g3) (by rw [decide_eq_true e]; rfl)
    · rw [decide_eq_false e]
      exact iteF (q _ H2 (g1.trans g2) (by rw [decide_eq_false e]; rfl))
/-- a call by a promise -/
theorem e_call {sp : Sp} {E : XK} (h : EvN b tr σ H0 ss) (k : ∀ vs H, Go b H0 H → IsAll b H ss vs → ∀ Q : VK, (∀ v H', Go b H H' → Is b H' s v → Q v H') → sp (vs ++ []) H Q E) : Ev1 b (tCall sp [] E tr) σ H0 s := fun H g Q q =>
  h H g _ fun vs H1 g1 i1 => k vs H1 (g.trans g1) i1 Q fun v H2 g2 i2 => q v H2 (g1.trans g2) i2
theorem Go.of_same {H H' : Hp} (h : Bag H b) (s : Same H H') : Go b H H' := (Go.refl h).same s
end
theorem is1 {b : Addr} {H : Hp} {s : Sh} {vs : List V} (h : IsAll b H [s] vs) : ∃ v, vs = [v] ∧ Is b H s v := by
  obtain ⟨v, ws, rfl, r, rfl⟩ := h
  exact ⟨v, rfl, r⟩
theorem is2 {b : Addr} {H : Hp} {s t : Sh} {vs : List V} (h : IsAll b H [s, t] vs) : ∃ v w, vs = [v, w] ∧ Is b H s v ∧ Is b H t w := by
  obtain ⟨v, ws, rfl, r, h⟩ := h
  obtain ⟨w, rfl, r2⟩ := is1 h
  exact ⟨v, w, rfl, r, r2⟩
theorem is3 {b : Addr} {H : Hp} {s t u : Sh} {vs : List V} (h : IsAll b H [s, t, u] vs) : ∃ v w x, vs = [v, w, x] ∧ Is b H s v ∧ Is b H t w ∧ Is b H u x := by
  obtain ⟨v, ws, rfl, r, h⟩ := h
  obtain ⟨w, x, rfl, r2, r3⟩ := is2 h
  exact ⟨v, w, x, rfl, r, r2, r3⟩
end Rd
set_option maxHeartbeats 4000000
namespace Rd
open PySem PySem.Spec PyProof.Rows L2
open C8 (pss_cut tCut)
/-! ## the __init__ of the exceptions -/
/-- from one heap to a later one that has the exception a with the dict d beside -/
structure AtX (H' H : Hp) (a C d : Addr) (fs : List (Str × V)) : Prop where
  da : d ≠ a
  nd : H d = none
  ea : H' a = some (exo a C (some d))
  ed : H' d = some (exd d fs)
  keep : ∀ p, p ≠ a → p ≠ d → H' p = H p
section
variable {K : PySem.W.Frag} {B newId initId : String} {bmB : List Value} {C a d : Addr} {f : Str} {y : V} {fs : List (Str × V)} {σ : L2.St} {H H1 : Hp} {D : Ends} {te : TE}
theorem gst_first (h0 : σ[0]? = some (some (.ref a))) (T : XC K C B newId initId bmB) (n : PySem.W.findIn K (.ref C) f = some none) (e : H a = some (exo a C none)) (ht : ∀ Q : VK, Q y H → te σ H Q) (q : ∀ d H', AtX H' H a C d [(f, y)] → D.nx σ H') : tGst K f (tVar 0) te D σ H :=
  ht _ ⟨.ref a, h0, a, C, B, newId, initId, bmB, rfl, T, n, .inl ⟨e, fun dx nd da => q dx _ ⟨da, nd, upd_same, by rw [upd_ne da, upd_same], fun p pa pd => by rw [upd_ne pa, upd_ne pd]⟩⟩⟩
theorem gst_next (h0 : σ[0]? = some (some (.ref a))) (T : XC K C B newId initId bmB) (n : PySem.W.findIn K (.ref C) f = some none) (A : AtX H1 H a C d fs) (hl : fs.length ≤ 900) (ht : ∀ Q : VK, Q y H1 → te σ H1 Q) (q : ∀ H', AtX H' H a C d ((f, y) :: fs) → D.nx σ H') : tGst K f (tVar 0) te D σ H1 :=
  ht _ ⟨.ref a, h0, a, C, B, newId, initId, bmB, rfl, T, n, .inr ⟨d, fs, A.ea, A.ed, hl, q _ ⟨A.da, A.nd, by rw [upd_ne (Ne.symm A.da)]; exact A.ea, upd_same, fun p pa pd => by rw [upd_ne pd]; exact A.keep p pa pd⟩⟩⟩
end
def spInit (C : Addr) (nm : List Str) (code : Str) : Sp := fun vs H Q _ => ∃ (a : Addr) (ws : List V), vs = .ref a :: ws ∧ ws.length = nm.length ∧ H a = some (exo a C none) ∧
  ∀ d H', AtX H' H a C d (("code", .str code) :: (nm.zip ws).reverse) → Q .non H'
theorem spInit_len {C : Addr} {nm ps : List Str} {code : Str} {vs : List V} {H : Hp} {Q : VK} {E : XK} (e : ps.length = nm.length + 1) (h : spInit C nm code vs H Q E) : vs.length = ps.length := by
  obtain ⟨a, ws, rfl, l, _⟩ := h
  rw [List.length_cons, l, e]
theorem vals_rev {zs : List V} {ws : List Value} (h : Vals zs ws) : Vals zs.reverse ws.reverse := by
  induction h with
  | nil => exact .nil
  | cons h t ih => rw [List.reverse_cons, List.reverse_cons]; exact ih.append (.cons h .nil)
section
variable {P : Program} {w : World} {K : PySem.W.Frag} {mg : Str → Option Value} {base : Heap}
theorem DX.kw {x qual : Str} {st : Stmt} {ps nm : List Str} {B newId initId : String} {bmB : List Value} (D : DX K mg x qual st ps nm B newId initId bmB) (ks : List Str)
    (h : ∀ (kV doc pm : Value) (an : Option Addr) (cdv ct : Value) (us ws : List Value), us.length = 1 → ws.length = ks.length → bindArgs (PySem.W.fnOf "__init__" qual (defArgs st) (defBody st) (defScope st) .none kV doc pm an cdv ct) ⟨us, ks.zip ws⟩ = pure (ps.zip (us ++ ws.reverse))) :
    KBn K D.fd ps 1 ks (fun us ws => us ++ ws.reverse) (fun vs zs => vs ++ zs.reverse) where
  to := fun s us ws _ l1 l2 => by
    obtain ⟨oc, od, kV, doc, pm, an, cdv, ct, osl, e, lk, hcd⟩ := D.F.ex
    rw [e]
    exact .of_eq (h kV doc pm an cdv ct us ws l1 l2)
  rel := fun r rz => r.append (vals_rev rz)
theorem ok_init_InvalidName (T : Txt K mg) : FnOk P w K mg base CX0 1 T.x_InvalidName.f T.x_InvalidName.fd ["self", "value"] (spInit T.x_InvalidName.C ["value"] "InvalidName") := by
  refine T.x_InvalidName.F.ok sc_i_InvalidName (fun vs H Q E h => spInit_len rfl h) (fun cdv A outer s H vs Q E hr h => ?_)
  obtain ⟨a, ws, rfl, l, e, q⟩ := h
  match ws, l with
  | [y0], _ =>
    refine ⟨_, (pss_cons (ps_gst (pv 0) (pv 1)) (pss_one (ps_gst (pv 0) pe_str))), ?_⟩
    refine gst_first (a := a) rfl T.x_InvalidName.T (T.x_InvalidName.no "value" (by decide +kernel)) e (fun Q q => ⟨y0, rfl, q⟩) fun d H1 A1 => ?_
    dsimp only
    refine gst_next (a := a) rfl T.x_InvalidName.T (T.x_InvalidName.no "code" (by decide +kernel)) A1 (Nat.le_of_ble_eq_true rfl) (fun Q q => q) fun H2 A2 => ?_
    exact q d _ A2
theorem kb_InvalidName (T : Txt K mg) : KBn K T.x_InvalidName.fd ["self", "value"] 1 ["value"] (fun us ws => us ++ ws.reverse) (fun vs zs => vs ++ zs.reverse) :=
  T.x_InvalidName.kw ["value"] fun _ _ _ _ _ _ us ws l1 l2 => match us, ws, l1, l2 with | [_], [_], _, _ => rfl
theorem ok_init_InvalidNumber (T : Txt K mg) : FnOk P w K mg base CX0 1 T.x_InvalidNumber.f T.x_InvalidNumber.fd ["self", "value"] (spInit T.x_InvalidNumber.C ["value"] "InvalidNumber") := by
  refine T.x_InvalidNumber.F.ok sc_i_InvalidNumber (fun vs H Q E h => spInit_len rfl h) (fun cdv A outer s H vs Q E hr h => ?_)
  obtain ⟨a, ws, rfl, l, e, q⟩ := h
  match ws, l with
  | [y0], _ =>
    refine ⟨_, (pss_cons (ps_gst (pv 0) (pv 1)) (pss_one (ps_gst (pv 0) pe_str))), ?_⟩
    refine gst_first (a := a) rfl T.x_InvalidNumber.T (T.x_InvalidNumber.no "value" (by decide +kernel)) e (fun Q q => ⟨y0, rfl, q⟩) fun d H1 A1 => ?_
    dsimp only
    refine gst_next (a := a) rfl T.x_InvalidNumber.T (T.x_InvalidNumber.no "code" (by decide +kernel)) A1 (Nat.le_of_ble_eq_true rfl) (fun Q q => q) fun H2 A2 => ?_
    exact q d _ A2
theorem kb_InvalidNumber (T : Txt K mg) : KBn K T.x_InvalidNumber.fd ["self", "value"] 1 ["value"] (fun us ws => us ++ ws.reverse) (fun vs zs => vs ++ zs.reverse) :=
  T.x_InvalidNumber.kw ["value"] fun _ _ _ _ _ _ us ws l1 l2 => match us, ws, l1, l2 with | [_], [_], _, _ => rfl
end
def exF (nm : List Str) (code : Str) (ws : List V) : List (Str × V) := ("code", .str code) :: (nm.zip ws).reverse
theorem mkqR {C : Addr} {nm : List Str} {code : Str} {ws : List V} {H1 : Hp} {Q : XK} (l : ws.length = nm.length) (q : ∀ d H', Same H1 H' → H' d = some (.xd (exF nm code ws)) → Q (.ref C) (some d) H') :
    MkQ (spInit C nm code) C (fun a => a :: ws) H1 (fun v H2 => ∃ (a d : Addr) (fs : List (Str × V)), v = .ref a ∧ H2 a = some (exo a C (some d)) ∧ H2 d = some (exd d fs) ∧ H1 d = none ∧ Q (.ref C) (some d) (upd (del H2 a) d (.xd fs))) := fun a na =>
  ⟨a, ws, rfl, l, upd_same, fun d H' A => ⟨rfl, by
    have nd : H1 d = none := by
      have := A.nd
      rw [upd_ne A.da] at this
      exact this
    refine ⟨a, d, _, rfl, A.ea, A.ed, nd, q d _ (fun p o e => ?_) upd_same⟩
    rw [upd_ne (ne_of_none e nd), del_ne (ne_of_none e na), A.keep p (ne_of_none e na) (ne_of_none e nd), upd_ne (ne_of_none e na)]
    exact e⟩⟩
/-! ## the sections: made, asked -/
def secF (x y : V) : List (Str × V) := [("name", x), ("length", y)]
theorem secF_put (x y : V) : putF ("length" : Str) y (putF ("name" : Str) x []) = secF x y := by
  show putF ("length" : Str) y [(("name" : Str), x)] = _
  unfold putF
  rw [if_neg (by decide)]
  rfl
theorem secF_name (x y : V) : (secF x y).lookup ("name" : Str) = some x := rfl
theorem secF_len (x y : V) : (secF x y).lookup ("length" : Str) = some y := rfl
theorem secF_no (x y : V) {f : Str} (h1 : (f == ("name" : Str)) = false) (h2 : (f == ("length" : Str)) = false) : (secF x y).lookup f = none := by
  show List.lookup f ((("name" : Str), x) :: (("length" : Str), y) :: []) = none
  rw [List.lookup_cons, h1, List.lookup_cons, h2]
  rfl
section
variable {P : Program} {w : World} {K : PySem.W.Frag} {mg : Str → Option Value} {base : Heap}
def kindOf (T : Txt K mg) (C : Addr) : Str := if C = T.aPlain then "plain" else if C = T.aPoint then "point" else if C = T.aCrossing then "crossing" else "none"
theorem Txt.clsD (T : Txt K mg) {C : Addr} (h : T.S C) : ClsD K C T.m_init.f (kindOf T C) := by
  unfold kindOf
  rcases h with rfl | rfl | rfl | rfl
  · rw [if_neg T.neP.symm, if_neg T.neT.symm, if_neg T.neX.symm]; exact T.kSection
  · rw [if_pos rfl]; exact T.kPlain
  · rw [if_neg T.nePT.symm, if_pos rfl]; exact T.kPoint
  · rw [if_neg T.nePX.symm, if_neg T.neTX.symm, if_pos rfl]; exact T.kCrossing
theorem kind_in (T : Txt K mg) (C : Addr) : (["none", "plain", "point", "crossing"] : List Str).contains (kindOf T C) = true := by
  unfold kindOf
  split
  · decide
  split
  · decide
  split
  · decide
  · decide
theorem Txt.ins (T : Txt K mg) {H : Hp} {a C d : Addr} {fs : List (Str × V)} (h : T.S C) (e : H a = some (.ins C d fs)) : TyX K H (.ref a) (.ref C) := .base (.ins e (T.clsD h).cls (T.clsD h).ha T.hn T.htk (T.clsD h).mo)
def spSInit (T : Txt K mg) : Sp := fun vs H Q E => ∃ (a C d : Addr) (x y : V) (tx ty : String), vs = [.ref a, x, y] ∧ T.S C ∧ H a = some (.ins C d []) ∧ Kd K H x tx ∧ Kd K H y ty ∧ (∀ z, x = .str z → z.length ≤ 1000) ∧
  (isNm x = true → isNum y 1 50 = true → ∀ H', (∀ b o, b ≠ a → H b = some o → H' b = some o) → H' a = some (.ins C d (secF x y)) → Q .non H') ∧
  (isNm x = false → ∀ e H', Same H H' → H' e = some (.xd (exF ["value"] "InvalidName" [x])) → E (.ref T.x_InvalidName.C) (some e) H') ∧
  (isNm x = true → isNum y 1 50 = false → ∀ e H', Same H H' → H' e = some (.xd (exF ["value"] "InvalidNumber" [y])) → E (.ref T.x_InvalidNumber.C) (some e) H')
theorem ok_init (T : Txt K mg) : FnOk P w K mg base (L2N.CX P w) 3 T.m_init.f T.m_init.fd ["self", "name", "length"] (spSInit T) := by
  refine Fun.okXN T.m_init.F sc_m_init (fun vs H Q E h => ?_) (fun cdv A outer s H vs Q E hr h => ?_)
  · obtain ⟨a, C, d, x, y, tx, ty, rfl, _⟩ := h
    rfl
  · obtain ⟨a, C, d, x, y, tx, ty, rfl, hC, ea, kx, ky, hz, q1, q2, q3⟩ := h
    have c := T.clsD hC
    refine ⟨_, (pss_cons (ps_if (pt_not (pt_val (pe_call (ok_is_name T) (hr.mono (by decide)) (by rfl) T.d_is_name.g T.d_is_name.F.kp T.d_is_name.b .nil pass0 (pa_cons (pv 1) pa_nil)))) (pss_one (L2N.ps_raise rfl (L2N.takes_of rfl rfl rfl rfl) (pmk_VN T.x_InvalidName.T (raises_own T.x_InvalidName.xf.x.exC T.x_InvalidName.ty) ⟨T.x_InvalidName.iC, T.x_InvalidName.tI, ok_init_InvalidName T⟩ (hr.mono (by decide)) T.x_InvalidName.b pass0 (by rfl) T.x_InvalidName.g (pa_cons (pv 1) pa_nil)))) pss_nil)
      (pss_cons (ps_if (pt_not (pt_val (pe_call (ok_is_number T) (hr.mono (by decide)) (by rfl) T.d_is_number.g T.d_is_number.F.kp T.d_is_number.b .nil pass0 (pa_cons (pv 2) (pa_cons pe_int (pa_cons (ClX.pe_cval (pe_glob (v := .ref T.aSection) rfl T.c_Section rfl)) pa_nil)))))) (pss_one (L2N.ps_raise rfl (L2N.takes_of rfl rfl rfl rfl) (pmk_VN T.x_InvalidNumber.T (raises_own T.x_InvalidNumber.xf.x.exC T.x_InvalidNumber.ty) ⟨T.x_InvalidNumber.iC, T.x_InvalidNumber.tI, ok_init_InvalidNumber T⟩ (hr.mono (by decide)) T.x_InvalidNumber.b pass0 (by rfl) T.x_InvalidNumber.g (pa_cons (pv 2) pa_nil)))) pss_nil)
      (pss_cons (ps_fld (pv 0) (pv 1) (by rfl))
      (pss_one (ps_fld (pv 0) (pv 2) (by rfl)))))), ?_⟩
    refine ⟨x, rfl, x, tx, rfl, kx, hz, fun H1 s1 => ?_⟩
    refine ⟨_, rfl, ite2 (fun e => ?_) (fun e => ?_)⟩
    · have e' : isNm x = false := by simpa using e
      refine ⟨x, rfl, (by show 1 ≤ 1000; decide), mkqR (ws := [x]) (Q := E) rfl fun d' H' sm hd => q2 e' d' H' (s1.trans sm) hd⟩
    · have e' : isNm x = true := by simpa using e
      obtain ⟨mc, cr, _, u, cv⟩ := T.kSection.cv
      refine ⟨y, rfl, T.aSection, mc, _, _, rfl, cr, cv, ?_⟩
      refine ⟨y, ty, 1, 50, rfl, ky.same s1, ?_⟩
      refine ⟨_, rfl, ite2 (fun e2 => ?_) (fun e2 => ?_)⟩
      · have e2' : isNum y 1 50 = false := by simpa using e2
        refine ⟨y, rfl, (by show 1 ≤ 1000; decide), mkqR (ws := [y]) (Q := E) rfl fun d' H' sm hd => q3 e' e2' d' H' (s1.trans sm) hd⟩
      · have e2' : isNum y 1 50 = true := by simpa using e2
        refine ⟨x, rfl, .ref a, rfl, a, C, d, [], rfl, s1 _ _ ea, c.cls, c.nN, by simp, ?_⟩
        refine ⟨y, rfl, .ref a, rfl, a, C, d, _, rfl, upd_same, c.cls, c.nL, by show 1 < 1000; decide, ?_⟩
        refine q1 e' e2' _ (fun b o n eb => by rw [upd_ne n, upd_ne n]; exact s1 _ _ eb) ?_
        rw [upd_same, ← secF_put]
end
end Rd
set_option maxHeartbeats 4000000
namespace Rd
open PySem PySem.Spec PyProof.Rows L2
open C8 (pss_cut tCut)
/-! ## what a section tells -/
mutual
theorem Is.keep {b : Addr} {H H' : Hp} (g : ∀ a o, a ≠ b → H a = some o → H' a = some o) : ∀ {s : Sh} {v : V}, Is b H s v → Is b H' s v
  | .c x, v, h => h
  | .is p, v, h => h
  | .l xs, v, h => by
    obtain ⟨p, vs, e, n, o, r⟩ := h
    exact ⟨p, vs, e, n, g _ _ n o, IsAll.keep g r⟩
  | .t xs, v, h => by
    obtain ⟨p, vs, e, n, o, r⟩ := h
    exact ⟨p, vs, e, n, g _ _ n o, IsAll.keep g r⟩
  | .o xs, v, h => IsOne.keep g (show IsOne b H xs v from h)
  | .n C fs, v, h => by
    obtain ⟨a, d, e, n1, o1⟩ := h
    exact ⟨a, d, e, n1, g _ _ n1 o1⟩
theorem IsAll.keep {b : Addr} {H H' : Hp} (g : ∀ a o, a ≠ b → H a = some o → H' a = some o) : ∀ {ss : List Sh} {vs : List V}, IsAll b H ss vs → IsAll b H' ss vs
  | [], _, h => h
  | _ :: _, _, h => by
    obtain ⟨v, ws, e, r, q⟩ := h
    exact ⟨v, ws, e, Is.keep g r, IsAll.keep g q⟩
theorem IsOne.keep {b : Addr} {H H' : Hp} (g : ∀ a o, a ≠ b → H a = some o → H' a = some o) : ∀ {ss : List Sh} {v : V}, IsOne b H ss v → IsOne b H' ss v
  | [], _, h => h
  | _ :: _, _, h => by
    rcases h with h | h
    · exact .inl (Is.keep g h)
    · exact .inr (IsOne.keep g h)
end
theorem Is.same {b : Addr} {H H' : Hp} (g : Same H H') {s : Sh} {v : V} (h : Is b H s v) : Is b H' s v := h.keep fun a o _ e => g a o e
mutual
/-- no list in it -/
def noL : Sh → Bool
  | .c _ => true
  | .is _ => true
  | .t xs => noLs xs
  | .n _ _ => true
  | .l _ => false
  | .o _ => false
def noLs : List Sh → Bool
  | [] => true
  | s :: r => noL s && noLs r
end
theorem noLs_map {α : Type} (f : α → Sh) (h : ∀ x, noL (f x) = true) : ∀ l : List α, noLs (l.map f) = true
  | [] => rfl
  | x :: l => by rw [List.map_cons]; show (noL (f x) && noLs (l.map f)) = true; rw [h x, noLs_map f h l]; rfl
mutual
/-- a list changes that is no part of it -/
theorem Is.put {b D : Addr} {H H' : Hp} {ys : List V} (e : H D = some (.lst ys)) (g : ∀ a o, a ≠ D → H a = some o → H' a = some o) : ∀ {s : Sh} {v : V}, noL s = true → Is b H s v → Is b H' s v
  | .c x, v, _, h => h
  | .is p, v, _, h => h
  | .l xs, v, d, h => by cases d
  | .t xs, v, d, h => by
    obtain ⟨p, vs, e1, n, o, r⟩ := h
    exact ⟨p, vs, e1, n, g _ _ (fun z => by rw [z, e] at o; cases o) o, IsAll.put e g (show noLs xs = true from d) r⟩
  | .o xs, v, d, h => by cases d
  | .n C fs, v, _, h => by
    obtain ⟨a, d, e1, n1, o1⟩ := h
    exact ⟨a, d, e1, n1, g _ _ (fun z => by rw [z, e] at o1; cases o1) o1⟩
theorem IsAll.put {b D : Addr} {H H' : Hp} {ys : List V} (e : H D = some (.lst ys)) (g : ∀ a o, a ≠ D → H a = some o → H' a = some o) : ∀ {ss : List Sh} {vs : List V}, noLs ss = true → IsAll b H ss vs → IsAll b H' ss vs
  | [], _, _, h => h
  | s :: r, _, d, h => by
    obtain ⟨v, ws, e1, i, q⟩ := h
    obtain ⟨d1, d2⟩ := Bool.and_eq_true_iff.mp (show (noL s && noLs r) = true from d)
    exact ⟨v, ws, e1, Is.put e g d1 i, IsAll.put e g d2 q⟩
end
/-- the data of a shape -/
def datOf : Sh → PyData
  | .c .non => .none
  | .c (.bl b) => .bool b
  | .c (.int i) => .int i
  | .c (.str s) => .str s
  | .l xs => .list (xs.attach.map fun ⟨x, _⟩ => datOf x)
  | .t xs => .tuple (xs.attach.map fun ⟨x, _⟩ => datOf x)
  | _ => .none
theorem datOf_l (xs : List Sh) : datOf (.l xs) = .list (xs.map datOf) := by rw [datOf]; congr 1; exact List.attach_map_subtype_val xs ▸ (by simp [List.map_attach_eq_pmap, List.pmap_eq_map])
theorem datOf_t (xs : List Sh) : datOf (.t xs) = .tuple (xs.map datOf) := by rw [datOf]; congr 1; exact List.attach_map_subtype_val xs ▸ (by simp [List.map_attach_eq_pmap, List.pmap_eq_map])
mutual
theorem Is.dp {K : PySem.W.Frag} {b : Addr} {H : Hp} : ∀ {n : Nat} {s : Sh} {v : V}, det n s = true → Is b H s v → Dp K H v (datOf s)
  | n, .c x, v, d, h => by
    rw [show v = x from h]
    cases x with
    | non => rw [datOf]; exact .non
    | bl y => rw [datOf]; exact .bl y
    | int y => rw [datOf]; exact .int y
    | str y => rw [datOf]; exact .str y
    | _ => cases n <;> cases d
  | n, .is p, v, d, h => by cases n <;> cases d
  | n, .o p, v, d, h => by cases n <;> cases d
  | n, .n _ _, v, d, h => by cases n <;> cases d
  | 0, .l xs, v, d, h => by cases d
  | 0, .t xs, v, d, h => by cases d
  | n + 1, .l xs, v, d, h => by
    obtain ⟨p, vs, e, _, o, r⟩ := h
    obtain ⟨_, d2⟩ := Bool.and_eq_true_iff.mp (show (decide (xs.length ≤ 1000) && xs.all (det n)) = true from d)
    rw [e, datOf_l]
    exact .lst (SqL.of o) (IsAll.dp d2 r)
  | n + 1, .t xs, v, d, h => by
    obtain ⟨p, vs, e, _, o, r⟩ := h
    obtain ⟨_, d2⟩ := Bool.and_eq_true_iff.mp (show (decide (xs.length ≤ 1000) && xs.all (det n)) = true from d)
    rw [e, datOf_t]
    exact .tup (SqT.of o) (IsAll.dp d2 r)
theorem IsAll.dp {K : PySem.W.Frag} {b : Addr} {H : Hp} : ∀ {n : Nat} {ss : List Sh} {vs : List V}, ss.all (det n) = true → IsAll b H ss vs → DpAll K H vs (ss.map datOf)
  | n, [], _, _, h => by rw [show _ = [] from h]; exact .nil
  | n, s :: r, _, d, h => by
    obtain ⟨v, ws, e, i, q⟩ := h
    rw [List.all_cons, Bool.and_eq_true] at d
    rw [e]
    exact .cons (Is.dp d.1 i) (IsAll.dp d.2 q)
end
section
variable {P : Program} {w : World} {K : PySem.W.Frag} {mg : Str → Option Value} {base : Heap} {T : Txt K mg}
def spSides (T : Txt K mg) : Sp := fun vs H Q _ => ∃ (a C d : Addr) (fs : List (Str × V)), vs = [.ref a] ∧ T.S C ∧ H a = some (.ins C d fs) ∧ fs.lookup ("KIND" : Str) = none ∧ ∀ H' p, Same H H' → H p = none → H' p = some (.lst (sidesOf (kindOf T C))) → Q (.ref p) H'
theorem ok_sides (U : TxW w T) : FnOk P w K mg base CX0 1 T.m_sides.f T.m_sides.fd ["self"] (spSides T) := by
  refine T.m_sides.F.ok sc_m_sides (fun vs H Q E h => ?_) (fun cdv A outer s H vs Q E hr h => ?_)
  · obtain ⟨a, C, d, fs, rfl, _⟩ := h
    rfl
  · obtain ⟨a, C, d, fs, rfl, hC, ea, lk, q⟩ := h
    obtain ⟨u, k⟩ := (T.clsD hC).kd
    obtain ⟨p, kd, sq⟩ := U.sd _ (kind_in T C)
    refine ⟨_, (pss_one (ps_ret (pe_callTy call_list_of (by rfl) T.z_list (by decide +kernel) (pa_cons (pe_ix (ix_kdict) (pe_glob (v := .ref T.aSides) rfl T.c_SIDES_OF rfl) (pe_con (pv 0) (by rfl)) (fun _ _ => rfl)) pa_nil)))), ?_⟩
    exact ⟨.ref a, rfl, a, C, d, fs, _, u, rfl, ea, (T.clsD hC).cls, k, lk, T.aSides, _, .ref p, rfl, rfl, kd, p, _, rfl, .inr (sq H), fun l nl => q _ l (same_new nl) nl upd_same⟩
def spEnds (T : Txt K mg) : Sp := fun vs H Q _ => ∃ (a C d b : Addr) (fs : List (Str × V)) (x : V), vs = [.ref a] ∧ T.S C ∧ H a = some (.ins C d fs) ∧ fs.lookup ("KIND" : Str) = none ∧ fs.lookup ("name" : Str) = some x ∧ (∃ o, H b = some o) ∧
  ∀ H' v, Same H H' → (∃ p, v = .ref p ∧ H p = none) → Is b H' (.l ((sidesOf (kindOf T C)).map fun s => .t [.c x, .c s])) v → Q v H'
theorem sides_len (k : Str) : (sidesOf k).length ≤ 4 := by
  unfold sidesOf
  split
  · decide
  split
  · decide
  split <;> decide
theorem isAll_snoc {b : Addr} {H : Hp} {ss : List Sh} {vs : List V} {s : Sh} {v : V} (h : IsAll b H ss vs) (k : Is b H s v) : IsAll b H (ss ++ [s]) (vs ++ [v]) := h.append ⟨v, [], rfl, k, rfl⟩
theorem ok_ends (U : TxW w T) : FnOk P w K mg base CX0 1 T.m_ends.f T.m_ends.fd ["self"] (spEnds T) := by
  refine T.m_ends.F.ok sc_m_ends (fun vs H Q E h => ?_) (fun cdv A outer s H vs Q E hr h => ?_)
  · obtain ⟨a, C, d, b, fs, x, rfl, _⟩ := h
    rfl
  · obtain ⟨a, C, d, b, fs, x, rfl, hC, ea, lk, ln, ⟨ob, hb⟩, q⟩ := h
    have c := T.clsD hC
    obtain ⟨u, k⟩ := c.kd
    obtain ⟨p, kd, sq⟩ := U.sd _ (kind_in T C)
    refine ⟨_, (pss_one (ps_ret (pe_lc (own := [("side", 1)]) (g := gName 1) (tt := tYes) (te := tTup (tCons (tFld K (tVar 0) "name") (tCons (tVar 1) tNil))) (by rfl) sc_m_ends.nd (pi_tup (pe_ix (ix_kdict) (pe_glob (v := .ref T.aSides) rfl T.c_SIDES_OF rfl) (pe_con (pv 0) (by rfl)) (fun _ _ => rfl))) (blkOk_by (own := [("side", 1)]) (N := N_m_ends) (sc := defScope s_m_ends) (by decide +kernel)) (fun _ _ _ _ _ => (pg_name (i := 1) sc_m_ends.nd rfl (Or.inl rfl))) (fun _ _ _ _ _ => pts_nil) (fun _ _ _ _ _ => (pe_tup (pa_cons (pe_fld (pv 0) (by rfl)) (pa_cons (pv 1) pa_nil))))))), ?_⟩
    refine ⟨.ref a, rfl, a, C, d, fs, _, u, rfl, ea, c.cls, k, lk, T.aSides, _, .ref p, rfl, rfl, kd, p, rfl, ⟨_, sq H⟩, fun D nD => lc_tup (xs := sidesOf (kindOf T C)) (fun i H2 => Same H H2 ∧ ∃ vs, H2 D = some (.lst vs) ∧ IsAll b H2 (((sidesOf (kindOf T C)).take i).map fun s => .t [.c x, .c s]) vs)
      ⟨same_new nD, [], upd_same, rfl⟩ (fun _ H2 _ _ => sq H2) ?_ ?_⟩
    · rintro i z H2 hi ⟨sm, vs, eD, hv⟩
      refine ⟨rfl, .ref a, rfl, a, C, d, fs, x, rfl, sm _ _ ea, c.cls, c.nN, ln, z, rfl, by show 2 ≤ sizeLine; decide, fun t nt => ?_⟩
      have dt : D ≠ t := ne_of_none eD nt
      have bD : D ≠ b := (ne_of_none hb nD).symm
      have bt : t ≠ b := (ne_of_none (sm _ _ hb) nt).symm
      have s1 := same_new (o := .tup [x, z]) nt
      have hl : vs.length < sizeLine := by
        have l1 := hv.length
        have l2 := sides_len (kindOf T C)
        rw [List.length_map, List.length_take] at l1
        exact small1000 (by omega)
      refine ⟨vs, s1 _ _ eD, hl, fun b' o e => by rw [upd_ne (ne_of_none e nD)]; exact s1 _ _ (sm _ _ e), vs ++ [.ref t], upd_same, ?_⟩
      rw [List.take_add_one, hi, Option.toList_some, List.map_append]
      have kp : ∀ a' o, a' ≠ D → H2 a' = some o → upd (upd H2 t (.tup [x, z])) D (.lst (vs ++ [.ref t])) a' = some o := fun a' o n e => by rw [upd_ne n]; exact s1 _ _ e
      refine isAll_snoc ?_ ⟨t, [x, z], rfl, bt, by rw [upd_ne dt.symm]; exact upd_same, x, [z], rfl, rfl, z, [], rfl, rfl, rfl⟩
      exact hv.put eD kp (noLs_map _ (fun _ => rfl) _)
    · rintro H2 ⟨sm, vs, eD, hv⟩
      rw [List.take_length] at hv
      exact q H2 _ sm ⟨D, rfl, nD⟩ ⟨D, vs, rfl, (ne_of_none hb nD).symm, eD, hv⟩
end
end Rd
set_option maxHeartbeats 4000000
namespace Rd
open PySem PySem.Spec PyProof.Rows L2
open C8 (pss_cut tCut)
/-! ## the ways of a section, its text, ==, repr -/
def isD (d : PyData) (z : Str) : Bool := PyData.eqv d (.str z)
def rawOf (k : Str) (d : PyData) : List (Str × Str) := (waysOf k).flatMap fun z => (if isD d z.1 = true then [(z.2.1, z.2.2)] else []) ++ (if isD d z.2.1 = true then [(z.1, z.2.2)] else [])
theorem eqv_str {d : PyData} {z : Str} (h : isD d z = true) : d = .str z := by
  unfold isD at h
  cases d with
  | str x =>
    have h : (x == z) = true := by simpa [PyData.eqv] using h
    rw [beq_iff_eq.mp h]
  | _ => simp [PyData.eqv] at h
theorem isD_str (x z : Str) : isD (.str x) z = (x == z) := by unfold isD; simp [PyData.eqv]
theorem ways_len (k : Str) : (waysOf k).length ≤ 2 := by
  unfold waysOf
  split
  · decide
  split
  · decide
  split <;> decide
/-- what is found: nothing, one, or the two of a point's stem -/
theorem raw_cases (k : Str) (d : PyData) : rawOf k d = [] ∨ (∃ z, rawOf k d = [z]) ∨ rawOf k d = ([("left", "left"), ("right", "right")] : List (Str × Str)) := by
  by_cases hs : ∃ x, d = .str x
  · obtain ⟨x, rfl⟩ := hs
    unfold rawOf waysOf
    split
    · by_cases h1 : x = "a"
      · subst h1; exact .inr (.inl ⟨("b", ""), by decide +kernel⟩)
      · by_cases h2 : x = "b"
        · subst h2; exact .inr (.inl ⟨("a", ""), by decide +kernel⟩)
        · refine .inl ?_
          simp only [List.flatMap_cons, List.flatMap_nil, isD_str, beq_eq_false_iff_ne.mpr h1, beq_eq_false_iff_ne.mpr h2]
          rfl
    split
    · by_cases h1 : x = "left"
      · subst h1; exact .inr (.inl ⟨("stem", "left"), by decide +kernel⟩)
      · by_cases h2 : x = "right"
        · subst h2; exact .inr (.inl ⟨("stem", "right"), by decide +kernel⟩)
        · by_cases h3 : x = "stem"
          · subst h3; exact .inr (.inr (by decide +kernel))
          · refine .inl ?_
            simp only [List.flatMap_cons, List.flatMap_nil, isD_str, beq_eq_false_iff_ne.mpr h1, beq_eq_false_iff_ne.mpr h2, beq_eq_false_iff_ne.mpr h3]
            rfl
    split
    · by_cases h1 : x = "a"
      · subst h1; exact .inr (.inl ⟨("b", ""), by decide +kernel⟩)
      · by_cases h2 : x = "b"
        · subst h2; exact .inr (.inl ⟨("a", ""), by decide +kernel⟩)
        · by_cases h3 : x = "c"
          · subst h3; exact .inr (.inl ⟨("d", ""), by decide +kernel⟩)
          · by_cases h4 : x = "d"
            · subst h4; exact .inr (.inl ⟨("c", ""), by decide +kernel⟩)
            · refine .inl ?_
              simp only [List.flatMap_cons, List.flatMap_nil, isD_str, beq_eq_false_iff_ne.mpr h1, beq_eq_false_iff_ne.mpr h2, beq_eq_false_iff_ne.mpr h3, beq_eq_false_iff_ne.mpr h4]
              rfl
    · exact .inl rfl
  · have hn : ∀ z, isD d z = false := fun z => by
      cases e : isD d z with
      | false => rfl
      | true => exact absurd ⟨z, eqv_str e⟩ hs
    refine .inl ?_
    unfold rawOf
    induction waysOf k with
    | nil => rfl
    | cons z r ih => rw [List.flatMap_cons, ih, hn, hn]; rfl
theorem ltT_irr : ∀ zs, ltT zs zs = false
  | [] => rfl
  | z :: zs => by
    show (if z = z then ltT zs zs else _) = false
    rw [if_pos rfl, ltT_irr zs]
/-- the ways that are found stand as pairs -/
def Fnd (b : Addr) (H : Hp) (rs : List V) (zs : List (Str × Str)) : Prop := Paired (fun r z => ∃ t, r = .ref t ∧ t ≠ b ∧ H t = some (.tup [.str z.1, .str z.2])) rs zs
theorem Fnd.keep {b : Addr} {H H' : Hp} (g : ∀ a xs, H a = some (.tup xs) → H' a = some (.tup xs)) : ∀ {rs : List V} {zs : List (Str × Str)}, Fnd b H rs zs → Fnd b H' rs zs
  | _, _, .nil => .nil
  | _, _, .cons ⟨t, e, n, o⟩ r => .cons ⟨t, e, n, g _ _ o⟩ (Fnd.keep g r)
theorem Fnd.snoc {b : Addr} {H : Hp} : ∀ {rs : List V} {zs : List (Str × Str)} {r : V} {z : Str × Str}, Fnd b H rs zs → (∃ t, r = .ref t ∧ t ≠ b ∧ H t = some (.tup [.str z.1, .str z.2])) → Fnd b H (rs ++ [r]) (zs ++ [z])
  | _, _, _, _, .nil, k => .cons k .nil
  | _, _, _, _, .cons h t, k => .cons h (Fnd.snoc t k)
theorem Fnd.isAll {b : Addr} {H : Hp} : ∀ {rs : List V} {zs : List (Str × Str)}, Fnd b H rs zs → IsAll b H (zs.map fun z => .t [.c (.str z.1), .c (.str z.2)]) rs
  | _, _, .nil => rfl
  | _, _, .cons ⟨t, e, n, o⟩ r => ⟨_, _, by rw [e], ⟨t, _, rfl, n, o, _, _, rfl, rfl, _, _, rfl, rfl, rfl⟩, Fnd.isAll r⟩
section
variable {P : Program} {w : World} {K : PySem.W.Frag} {mg : Str → Option Value} {base : Heap} {T : Txt K mg}
def spText (T : Txt K mg) : Sp := fun vs H Q _ => ∃ (a C d : Addr) (n : Str) (i : Int), vs = [.ref a] ∧ T.S C ∧ H a = some (.ins C d (secF (.str n) (.int i))) ∧ n.length ≤ 1000 ∧ i.natAbs ≤ 1000 ∧ Q (.str (kindOf T C ++ " " ++ n ++ " " ++ toString i)) H
theorem kind_len (T : Txt K mg) (C : Addr) : (kindOf T C).length ≤ 10 := by
  unfold kindOf
  split
  · decide
  split
  · decide
  split <;> decide
theorem str_assoc (a b c : Str) : a ++ b ++ c = a ++ (b ++ c) := by
  show Str.append (Str.append a b) c = Str.append a (Str.append b c)
  unfold Str.append
  simp [Array.append_assoc]
theorem empty_app (a : Str) : Str.empty ++ a = a := by
  show Str.append Str.empty a = a
  unfold Str.append Str.empty
  simp
theorem app_len (a b : Str) : (a ++ b).length = a.length + b.length := by
  show (Str.append a b).length = _
  unfold Str.append Str.length
  simp
theorem str_int_len (i : Int) (h : i.natAbs ≤ 1000) : ((toString i : String) : Str).length ≤ 5 := by
  have hh : ∀ n : Nat, n ≤ 1000 → ((toString (n : Int) : String) : Str).length ≤ 5 ∧ ((toString (-(n : Int)) : String) : Str).length ≤ 5 := by
    decide +kernel
  rcases Int.natAbs_eq i with e | e
  · rw [e]; exact (hh _ h).1
  · rw [e]; exact (hh _ h).2
theorem log_small (i : Int) (h : i.natAbs ≤ 1000) : i.natAbs.log2 < 1920 := by
  have := Nat.log2_le_self i.natAbs
  omega
theorem small10000 {n : Nat} (h : n ≤ 10000) : n < sizeLine := by
  rw [sizeLine_eq]
  omega
theorem ok_text (T : Txt K mg) : FnOk P w K mg base CX0 1 T.m_text.f T.m_text.fd ["self"] (spText T) := by
  refine T.m_text.F.ok sc_m_text (fun vs H Q E h => ?_) (fun cdv A outer s H vs Q E hr h => ?_)
  · obtain ⟨a, C, d, n, i, rfl, _⟩ := h
    rfl
  · obtain ⟨a, C, d, n, i, rfl, hC, ea, ln, li, q⟩ := h
    have c := T.clsD hC
    obtain ⟨u, k⟩ := c.kd
    have lk := kind_len T C
    have l5 := str_int_len i li
    have l1 : ((" " : Str)).length = 1 := by decide
    refine ⟨_, (pss_one (ps_ret (pe_joined (PJ.cons (pe_fmt (pe_con (pv 0) (by rfl))) (PJ.cons pe_str (PJ.cons (pe_fmt (pe_fld (pv 0) (by rfl))) (PJ.cons pe_str (PJ.cons (pe_fmt (pe_fld (pv 0) (by rfl))) PJ.nil)))))))), ?_⟩
    refine ⟨.ref a, rfl, a, C, d, _, _, u, rfl, ea, c.cls, k, secF_no _ _ (by decide) (by decide), .inl ⟨_, rfl, Nat.le_of_lt (small1000 (by omega)), ?_⟩⟩
    refine ⟨_, rfl, Nat.le_of_lt (small1000 (by rw [empty_app]; omega)), ?_⟩
    rw [empty_app]
    refine ⟨_, rfl, Nat.le_of_lt (small10000 (by rw [app_len, l1]; omega)), ?_⟩
    refine ⟨.ref a, rfl, a, C, d, _, _, rfl, ea, c.cls, c.nN, secF_name _ _, .inl ⟨_, rfl, Nat.le_of_lt (small10000 (by omega)), ?_⟩⟩
    refine ⟨_, rfl, Nat.le_of_lt (small10000 (by rw [app_len, app_len, l1]; omega)), ?_⟩
    refine ⟨_, rfl, Nat.le_of_lt (small10000 (by rw [app_len, app_len, app_len, l1]; omega)), ?_⟩
    refine ⟨.ref a, rfl, a, C, d, _, _, rfl, ea, c.cls, c.nL, secF_len _ _, .inr ⟨i, rfl, log_small i li, ?_⟩⟩
    refine ⟨_, rfl, Nat.le_of_lt (small10000 (by rw [app_len, app_len, app_len, app_len, l1]; omega)), ?_⟩
    exact q
def spRepr (T : Txt K mg) : Sp := fun vs H Q _ => ∃ (a C d : Addr) (n : Str) (i : Int), vs = [.ref a] ∧ T.S C ∧ H a = some (.ins C d (secF (.str n) (.int i))) ∧ n.length ≤ 1000 ∧ i.natAbs ≤ 1000 ∧ Q (.str ("Section(" ++ (kindOf T C ++ " " ++ n ++ " " ++ toString i) ++ ")")) H
theorem ok_repr (T : Txt K mg) : FnOk P w K mg base CX0 2 T.m_repr.f T.m_repr.fd ["self"] (spRepr T) := by
  refine T.m_repr.F.ok sc_m_repr (fun vs H Q E h => ?_) (fun cdv A outer s H vs Q E hr h => ?_)
  · obtain ⟨a, C, d, n, i, rfl, _⟩ := h
    rfl
  · obtain ⟨a, C, d, n, i, rfl, hC, ea, ln, li, q⟩ := h
    have lk := kind_len T C
    have l5 := str_int_len i li
    have l1 : ((" " : Str)).length = 1 := by decide
    have l8 : (("Section(" : Str)).length = 8 := by decide
    have l9 : ((")" : Str)).length = 1 := by decide
    have lt : (kindOf T C ++ " " ++ n ++ " " ++ toString i).length ≤ 1100 := by rw [app_len, app_len, app_len, app_len, l1]; omega
    refine ⟨_, (pss_one (ps_ret (pe_joined (PJ.cons pe_str (PJ.cons (pe_fmt (pe_methF0 (pv 0) T.fam T.m_text.M (ok_text T) (hr.mono (by decide)) T.m_text.b pass0)) (PJ.cons pe_str PJ.nil)))))), ?_⟩
    refine ⟨_, rfl, Nat.le_of_lt (small10000 (by rw [empty_app, l8]; omega)), ?_⟩
    rw [empty_app]
    refine ⟨.ref a, rfl, a, C, d, _, rfl, hC, ea, secF_no _ _ (by decide) (by decide), ?_⟩
    refine ⟨a, C, d, n, i, rfl, hC, ea, ln, li, .inl ⟨_, rfl, Nat.le_of_lt (small10000 (by omega)), ?_⟩⟩
    refine ⟨_, rfl, Nat.le_of_lt (small10000 (by rw [app_len, l8]; omega)), ?_⟩
    refine ⟨_, rfl, Nat.le_of_lt (small10000 (by rw [app_len, app_len, l8, l9]; omega)), ?_⟩
    exact q
def sameSec (T : Txt K mg) (C : Addr) (n : Str) (i : Int) (D : Addr) (m : Str) (j : Int) : Bool := decide (kindOf T C = kindOf T D) && (decide (n = m) && decide (i = j))
def spEqS (T : Txt K mg) : Sp := fun vs H Q _ => ∃ (a C d : Addr) (n : Str) (i : Int) (y : V), vs = [.ref a, y] ∧ T.S C ∧ H a = some (.ins C d (secF (.str n) (.int i))) ∧
  ((∃ t, TyX K H y (.type t) ∧ ["NoneType", "str", "int", "bool", "tuple", "list"].contains t = true ∧ Q (.bl false) H) ∨
    ∃ (b D e : Addr) (m : Str) (j : Int), y = .ref b ∧ T.S D ∧ H b = some (.ins D e (secF (.str m) (.int j))) ∧ Q (.bl (sameSec T C n i D m j)) H)
theorem dec_str (a b : Str) : decide (V.str a = V.str b) = decide (a = b) := decide_eq_decide.mpr ⟨V.str.inj, congrArg V.str⟩
theorem dec_intV (a b : Int) : decide (V.int a = V.int b) = decide (a = b) := decide_eq_decide.mpr ⟨V.int.inj, congrArg V.int⟩
theorem ok_eq (T : Txt K mg) : FnOk P w K mg base CX0 1 T.m_eq.f T.m_eq.fd ["self", "other"] (spEqS T) := by
  refine T.m_eq.F.ok sc_m_eq (fun vs H Q E h => ?_) (fun cdv A outer s H vs Q E hr h => ?_)
  · obtain ⟨a, C, d, n, i, y, rfl, _⟩ := h
    rfl
  · obtain ⟨a, C, d, n, i, y, rfl, hC, ea, h⟩ := h
    have c := T.clsD hC
    obtain ⟨u, k⟩ := c.kd
    refine ⟨_, (pss_cons (ps_if (pt_not (pt_val (pe_callB call_isi (by rfl) T.z_isinstance (by decide +kernel) (pa_cons (pv 1) (pa_cons (pe_glob (v := .ref T.aSection) rfl T.c_Section rfl) pa_nil))))) (pss_one (ps_ret pe_bl)) pss_nil)
      (pss_one (ps_ret (pe_and (pe_cmpR op_eq (pe_con (pv 0) (by rfl)) (pe_con (pv 1) (by rfl)) (nomark _)) (pe_and (pe_cmpR op_eq (pe_fld (pv 0) (by rfl)) (pe_fld (pv 1) (by rfl)) (nomark _)) (pe_one (pe_cmpR op_eq (pe_fld (pv 0) (by rfl)) (pe_fld (pv 1) (by rfl)) (nomark _)))))))), ?_⟩
    rcases h with ⟨t, ty, ht, q⟩ | ⟨b, D, e, m, j, rfl, hD, eb, q⟩
    · exact ⟨y, rfl, y, _, _, _, false, rfl, .own _, ty, T.nis t ht, _, rfl, iteT q⟩
    · have c2 := T.clsD hD
      obtain ⟨u2, k2⟩ := c2.kd
      refine ⟨.ref b, rfl, .ref b, _, _, _, true, rfl, .own _, T.ins hD eb, T.isS D hD, _, rfl, iteF ?_⟩
      refine ⟨.ref a, rfl, a, C, d, _, _, u, rfl, ea, c.cls, k, secF_no _ _ (by decide) (by decide), .ref b, rfl, b, D, e, _, _, u2, rfl, eb, c2.cls, k2, secF_no _ _ (by decide) (by decide), rfl, _, rfl, ?_⟩
      unfold sameSec at q
      rw [dec_str]
      by_cases h1 : kindOf T C = kindOf T D
      · rw [decide_eq_true h1] at q ⊢
        refine iteT ?_
        refine ⟨.ref a, rfl, a, C, d, _, _, rfl, ea, c.cls, c.nN, secF_name _ _, .ref b, rfl, b, D, e, _, _, rfl, eb, c2.cls, c2.nN, secF_name _ _, rfl, _, rfl, ?_⟩
        rw [dec_str]
        by_cases h2 : n = m
        · rw [decide_eq_true h2] at q ⊢
          refine iteT ?_
          refine ⟨.ref a, rfl, a, C, d, _, _, rfl, ea, c.cls, c.nL, secF_len _ _, .ref b, rfl, b, D, e, _, _, rfl, eb, c2.cls, c2.nL, secF_len _ _, rfl, ?_⟩
          rw [dec_intV]
          exact q
        · rw [decide_eq_false h2] at q ⊢
          exact iteF q
      · rw [decide_eq_false h1] at q ⊢
        exact iteF q
end
end Rd
set_option maxHeartbeats 4000000
namespace Rd
open PySem PySem.Spec PyProof.Rows L2
open C8 (pss_cut tCut)
/-! ## the ways by a side -/
mutual
theorem Dp.same {K : PySem.W.Frag} {H H' : Hp} (s : Same H H') : ∀ {v : V} {d : PyData}, Dp K H v d → Dp K H' v d
  | _, _, .non => .non
  | _, _, .bl b => .bl b
  | _, _, .int i => .int i
  | _, _, .str x => .str x
  | _, _, .lst h k => .lst (s.seq h) (DpAll.same s k)
  | _, _, .tup h k => .tup (same_seqT s h) (DpAll.same s k)
theorem DpAll.same {K : PySem.W.Frag} {H H' : Hp} (s : Same H H') : ∀ {vs : List V} {ds : List PyData}, DpAll K H vs ds → DpAll K H' vs ds
  | _, _, .nil => .nil
  | _, _, .cons h k => .cons (Dp.same s h) (DpAll.same s k)
end
theorem paired_at {α β : Type} {F : α → β → Prop} : ∀ {l₁ : List α} {l₂ : List β} {i : Nat} {x : α}, Paired F l₁ l₂ → l₁[i]? = some x → ∃ y, l₂[i]? = some y ∧ F x y
  | _, _, _, _, .nil, e => by simp at e
  | _, _, 0, _, .cons r _, e => by simp at e; subst e; exact ⟨_, rfl, r⟩
  | _, _, i + 1, x, .cons _ t, e => by
    obtain ⟨y, h1, h2⟩ := paired_at (i := i) (x := x) t (by simpa using e)
    exact ⟨y, by simpa using h1, h2⟩
theorem Fnd.length {b : Addr} {H : Hp} {rs : List V} {zs : List (Str × Str)} (h : Fnd b H rs zs) : rs.length = zs.length := Paired.length h
theorem raw_len (k : Str) (d : PyData) (i : Nat) : (((waysOf k).take i).flatMap fun z => (if isD d z.1 = true then [(z.2.1, z.2.2)] else []) ++ (if isD d z.2.1 = true then [(z.1, z.2.2)] else [])).length ≤ 4 := by
  have h := ways_len k
  have g : ∀ l : List (Str × Str × Str), (l.flatMap fun z => (if isD d z.1 = true then [(z.2.1, z.2.2)] else []) ++ (if isD d z.2.1 = true then [(z.1, z.2.2)] else [])).length ≤ 2 * l.length := by
    intro l
    induction l with
    | nil => simp
    | cons z r ih =>
      rw [List.flatMap_cons, List.length_append, List.length_append, List.length_cons]
      have a1 : (if isD d z.1 = true then [(z.2.1, z.2.2)] else []).length ≤ 1 := by split <;> simp
      have a2 : (if isD d z.2.1 = true then [(z.1, z.2.2)] else []).length ≤ 1 := by split <;> simp
      omega
  have := g ((waysOf k).take i)
  rw [List.length_take] at this
  omega
section
variable {P : Program} {w : World} {K : PySem.W.Frag} {mg : Str → Option Value} {base : Heap} {T : Txt K mg}
theorem shp_of {z : Str} (h : PyData.strOk z = true) : SeqAt.shaped (.str z) = true := by
  unfold SeqAt.shaped
  simp [PyData.canLay0, PyData.depth, h]
theorem ways_shp (k : Str) : ∀ z ∈ waysOf k, SeqAt.shaped (.str z.1) = true ∧ SeqAt.shaped (.str z.2.1) = true := by
  have go : ∀ l : List (Str × Str × Str), (l.all fun z => PyData.strOk z.1 && PyData.strOk z.2.1) = true → ∀ z ∈ l, SeqAt.shaped (.str z.1) = true ∧ SeqAt.shaped (.str z.2.1) = true := fun l h z hz => by
    obtain ⟨h1, h2⟩ := Bool.and_eq_true_iff.mp (List.all_eq_true.mp h z hz)
    exact ⟨shp_of h1, shp_of h2⟩
  unfold waysOf
  split
  · exact go _ (by decide +kernel)
  split
  · exact go _ (by decide +kernel)
  split
  · exact go _ (by decide +kernel)
  · exact go _ rfl
def spWays (T : Txt K mg) : Sp := fun vs H Q _ => ∃ (a C d b : Addr) (fs : List (Str × V)) (y : V) (dt : PyData), vs = [.ref a, y] ∧ T.S C ∧ H a = some (.ins C d fs) ∧ fs.lookup ("KIND" : Str) = none ∧ Dp K H y dt ∧ SeqAt.shaped dt = true ∧ (∃ o, H b = some o) ∧
  ∀ H' v, Same H H' → (∃ p, v = .ref p ∧ H p = none) → Is b H' (.l ((rawOf (kindOf T C) dt).map fun z => .t [.c (.str z.1), .c (.str z.2)])) v → Q v H'
theorem ok_ways (U : TxW w T) : FnOk P w K mg base CX0 1 T.m_ways.f T.m_ways.fd ["self", "side"] (spWays T) := by
  refine T.m_ways.F.ok sc_m_ways (fun vs H Q E h => ?_) (fun cdv A outer s H vs Q E hr h => ?_)
  · obtain ⟨a, C, d, b, fs, y, dt, rfl, _⟩ := h
    rfl
  · obtain ⟨a, C, d, b, fs, y, dt, rfl, hC, ea, lk, hd, sh, ⟨ob, hb⟩, q⟩ := h
    have c := T.clsD hC
    obtain ⟨u, k⟩ := c.kd
    obtain ⟨p, ts, kd, sq, wp⟩ := U.wd _ (kind_in T C)
    refine ⟨_, (pss_cons (ps_set (i := 2) sc_m_ways.nd rfl (Or.inl rfl) (pe_lst pa_nil))
      (pss_cons (ps_for PassesOwn.never rfl (pi_tup (pe_ix (ix_kdict) (pe_glob (v := .ref T.aWays) rfl T.c_WAYS_OF rfl) (pe_con (pv 0) (by rfl)) (fun _ _ => rfl))) (pg_tup rfl (pgs_cons (pg_name (i := 3) sc_m_ways.nd rfl (Or.inl rfl)) (pgs_cons (pg_name (i := 4) sc_m_ways.nd rfl (Or.inl rfl)) (pgs_cons (pg_name (i := 5) sc_m_ways.nd rfl (Or.inl rfl)) pgs_nil)))) (pss_cons (ps_if (pt_cmpR (op_eqD hr.units) (pv 1) (pv 3) (nomark _)) (pss_one (ps_expr (pe_bm PySem.F.plainAttrs_list PySem.F.slot_list_append PySem.F.type_list_append mt_append (pv 2) (pa_cons (pe_tup (pa_cons (pv 4) (pa_cons (pv 5) pa_nil))) pa_nil)))) pss_nil)
      (pss_one (ps_if (pt_cmpR (op_eqD hr.units) (pv 1) (pv 4) (nomark _)) (pss_one (ps_expr (pe_bm PySem.F.plainAttrs_list PySem.F.slot_list_append PySem.F.type_list_append mt_append (pv 2) (pa_cons (pe_tup (pa_cons (pv 3) (pa_cons (pv 5) pa_nil))) pa_nil)))) pss_nil))))
      (pss_one (ps_ret (pe_callB cr_sortTT (by rfl) T.z_sorted (by decide +kernel) (pa_cons (pv 2) pa_nil)))))), ?_⟩
    refine ⟨by show 0 ≤ sizeLine; exact Nat.zero_le _, fun l nl => ?_⟩
    have al : a ≠ l := ne_of_none ea nl
    have bl : b ≠ l := ne_of_none hb nl
    refine ⟨.ref a, rfl, a, C, d, fs, _, u, rfl, by rw [upd_ne al]; exact ea, c.cls, k, lk, T.aWays, _, .ref p, rfl, rfl, kd, p, rfl, ⟨_, sq _⟩, ?_⟩
    have start : Same H (upd H l (.lst [])) := same_new nl
    refine for_tup (xs := ts.map V.ref) (fun i σ H2 => ∃ (rs : List V) (o1 o2 o3 : Option V), σ = [some (.ref a), some y, some (.ref l), o1, o2, o3] ∧ Same H H2 ∧ H2 l = some (.lst rs) ∧ Fnd b H2 rs (((waysOf (kindOf T C)).take i).flatMap fun z => (if isD dt z.1 = true then [(z.2.1, z.2.2)] else []) ++ (if isD dt z.2.1 = true then [(z.1, z.2.2)] else [])))
      ⟨[], none, none, none, rfl, start, upd_same, .nil⟩ (fun i σ H2 _ _ => sq H2) ?_ ?_
    · rintro i x σ H2 hi ⟨rs, o1, o2, o3, rfl, sm, el, fn⟩
      obtain ⟨t, rfl, ht⟩ : ∃ t, x = V.ref t ∧ ts[i]? = some t := by
        rw [List.getElem?_map] at hi
        cases e : ts[i]? with
        | none => rw [e] at hi; cases hi
        | some t => rw [e] at hi; exact ⟨t, (Option.some.inj hi).symm, rfl⟩
      obtain ⟨z, hz, st⟩ := paired_at wp ht
      obtain ⟨zs1, zs2⟩ := ways_shp _ z (List.mem_of_getElem? hz)
      have rl : rs.length ≤ 4 := by rw [fn.length]; exact raw_len _ _ _
      -- one more pair at the end of what is found
      have add : ∀ (H3 : Hp) (rs3 : List V) (zs3 : List (Str × Str)) (u1 u2 : Str) (t3 : Addr), Same H H3 → H3 l = some (.lst rs3) → Fnd b H3 rs3 zs3 → H3 t3 = none →
          Same H (upd (upd H3 t3 (.tup [.str u1, .str u2])) l (.lst (rs3 ++ [.ref t3]))) ∧ Fnd b (upd (upd H3 t3 (.tup [.str u1, .str u2])) l (.lst (rs3 ++ [.ref t3]))) (rs3 ++ [.ref t3]) (zs3 ++ [(u1, u2)]) := by
        intro H3 rs3 zs3 u1 u2 t3 s3 e3 f3 n3
        have lt : l ≠ t3 := ne_of_none e3 n3
        refine ⟨fun b' o e => ?_, (f3.keep fun a' xs e => ?_).snoc ⟨t3, rfl, (ne_of_none (s3 _ _ hb) n3).symm, ?_⟩⟩
        · rw [upd_ne (ne_of_none e nl), upd_ne (ne_of_none (s3 _ _ e) n3)]
          exact s3 _ _ e
        · rw [upd_ne (fun zz => by rw [zz, e3] at e; cases e), upd_ne (ne_of_none e n3)]
          exact e
        · rw [upd_ne lt.symm, upd_same]
      refine ⟨t, _, rfl, st H2, rfl, _, _, rfl, _, _, rfl, _, _, rfl, rfl, ?_⟩
      have nxt : ((waysOf (kindOf T C)).take (i + 1)).flatMap (fun z => (if isD dt z.1 = true then [(z.2.1, z.2.2)] else []) ++ (if isD dt z.2.1 = true then [(z.1, z.2.2)] else [])) =
          ((waysOf (kindOf T C)).take i).flatMap (fun z => (if isD dt z.1 = true then [(z.2.1, z.2.2)] else []) ++ (if isD dt z.2.1 = true then [(z.1, z.2.2)] else [])) ++ ((if isD dt z.1 = true then [(z.2.1, z.2.2)] else []) ++ (if isD dt z.2.1 = true then [(z.1, z.2.2)] else [])) := by
        rw [List.take_add_one, hz, Option.toList_some, List.flatMap_append, List.flatMap_cons, List.flatMap_nil, List.append_nil]
      refine ⟨y, rfl, .str z.1, rfl, dt, .str z.1, Dp.same sm hd, .str _, sh, zs1, isD dt z.1, rfl, ?_⟩
      by_cases h1 : isD dt z.1 = true
      · rw [h1] at nxt ⊢
        refine iteT ⟨.ref l, rfl, .inl ⟨rfl, _, SqL.of el⟩, _, rfl, _, rfl, by show 2 ≤ sizeLine; decide, fun t3 n3 => ⟨l, rs, .ref t3, rfl, rfl, by rw [upd_ne (ne_of_none el n3)]; exact el, small1000 (by omega), ?_⟩⟩
        obtain ⟨s4, f4⟩ := add H2 rs _ z.2.1 z.2.2 t3 sm el fn n3
        refine ⟨y, rfl, .str z.2.1, rfl, dt, .str z.2.1, Dp.same s4 hd, .str _, sh, zs2, isD dt z.2.1, rfl, ?_⟩
        by_cases h2 : isD dt z.2.1 = true
        · rw [h2] at nxt ⊢
          refine iteT ⟨.ref l, rfl, .inl ⟨rfl, _, SqL.of upd_same⟩, _, rfl, _, rfl, by show 2 ≤ sizeLine; decide, fun t5 n5 => ⟨l, _, .ref t5, rfl, rfl, by rw [upd_ne (ne_of_none upd_same n5)]; exact upd_same, small1000 (by rw [List.length_append]; simp; omega), ?_⟩⟩
          obtain ⟨s6, f6⟩ := add _ _ _ z.1 z.2.2 t5 s4 upd_same f4 n5
          refine ⟨_, _, _, _, rfl, s6, upd_same, ?_⟩
          rw [nxt]
          simp only [if_true]
          rw [← List.append_assoc]
          exact f6
        · rw [Bool.not_eq_true] at h2
          rw [h2] at nxt ⊢
          refine iteF ⟨_, _, _, _, rfl, s4, upd_same, ?_⟩
          rw [nxt]
          exact f4
      · rw [Bool.not_eq_true] at h1
        rw [h1] at nxt ⊢
        refine iteF ⟨y, rfl, .str z.2.1, rfl, dt, .str z.2.1, Dp.same sm hd, .str _, sh, zs2, isD dt z.2.1, rfl, ?_⟩
        by_cases h2 : isD dt z.2.1 = true
        · rw [h2] at nxt ⊢
          refine iteT ⟨.ref l, rfl, .inl ⟨rfl, _, SqL.of el⟩, _, rfl, _, rfl, by show 2 ≤ sizeLine; decide, fun t5 n5 => ⟨l, _, .ref t5, rfl, rfl, by rw [upd_ne (ne_of_none el n5)]; exact el, small1000 (by omega), ?_⟩⟩
          obtain ⟨s6, f6⟩ := add _ _ _ z.1 z.2.2 t5 sm el fn n5
          refine ⟨_, _, _, _, rfl, s6, upd_same, ?_⟩
          rw [nxt]
          exact f6
        · rw [Bool.not_eq_true] at h2
          rw [h2] at nxt ⊢
          refine iteF ⟨_, _, _, _, rfl, sm, el, ?_⟩
          rw [nxt]
          simp only [Bool.false_eq_true, if_false, List.append_nil]
          exact fn
    · rintro σ H2 ⟨rs, o1, o2, o3, rfl, sm, el, fn⟩
      have full : (waysOf (kindOf T C)).take (ts.map V.ref).length = waysOf (kindOf T C) := by
        rw [List.length_map, Paired.length wp, List.take_length]
      rw [full] at fn
      have fn : Fnd b H2 rs (rawOf (kindOf T C) dt) := fn
      have fin : ∀ p', H2 p' = none → Q (.ref p') (upd H2 p' (.lst rs)) := fun p' np =>
        q _ _ (sm.trans (same_new np)) ⟨p', rfl, sm.free np⟩ ⟨p', rs, rfl, (ne_of_none (sm _ _ hb) np).symm, upd_same, (fn.keep fun a' xs e => by rw [upd_ne (ne_of_none e np)]; exact e).isAll⟩
      rcases raw_cases (kindOf T C) dt with e | ⟨z, e⟩ | e
      · rw [e] at fn
        cases fn
        exact ⟨.ref l, rfl, l, [], fun _ => 0, fun _ => [], rfl, SqL.of el, by decide, (fun x m => by cases m), (fun x m => by cases m), fun ys p' hp _ np => by rw [hp.eq_nil]; exact fin p' np⟩
      · rw [e] at fn
        cases fn with
        | cons h1 h2 =>
          cases h2
          obtain ⟨t, rfl, _, ht⟩ := h1
          refine ⟨.ref l, rfl, l, _, fun _ => 0, fun _ => [z.1, z.2], rfl, SqL.of el, by simp, fun x m => ?_, fun x _ y _ => ?_, fun ys p' hp _ np => ?_⟩
          · rw [List.mem_singleton.mp m]
            exact ⟨⟨t, rfl, SqT.of ht⟩, by simp⟩
          · rw [ltT_irr]
            exact decide_eq_false (Int.lt_irrefl 0)
          · rw [List.perm_singleton.mp hp]
            exact fin p' np
      · rw [e] at fn
        cases fn with
        | cons h1 h2 =>
          cases h2 with
          | cons h2 h3 =>
            cases h3
            obtain ⟨t, rfl, _, ht⟩ := h1
            obtain ⟨t', rfl, _, ht'⟩ := h2
            have ne : V.ref t' ≠ V.ref t := fun zz => by
              cases zz
              rw [ht] at ht'
              have zz := Option.some.inj ht'
              simp at zz
              exact absurd zz (by decide)
            refine ⟨.ref l, rfl, l, _, fun zs => if zs = (["left", "left"] : List Str) then 0 else 1, fun x => if x = .ref t then (["left", "left"] : List Str) else ["right", "right"], rfl, SqL.of el, by simp, fun x m => ?_, fun x m y m' => ?_, fun ys p' hp hw np => ?_⟩
            · rcases List.mem_cons.mp m with rfl | m
              · dsimp only
                rw [if_pos rfl]
                exact ⟨⟨t, rfl, SqT.of ht⟩, by simp⟩
              · rw [List.mem_singleton.mp m]
                dsimp only
                rw [if_neg ne]
                exact ⟨⟨t', rfl, SqT.of ht'⟩, by simp⟩
            · have cs : ∀ x, x ∈ [V.ref t, V.ref t'] → (if x = V.ref t then (["left", "left"] : List Str) else ["right", "right"]) = (["left", "left"] : List Str) ∨ (if x = V.ref t then (["left", "left"] : List Str) else ["right", "right"]) = (["right", "right"] : List Str) := fun x _ => by
                split
                · exact .inl rfl
                · exact .inr rfl
              have all : ∀ kx ky : List Str, (kx = (["left", "left"] : List Str) ∨ kx = (["right", "right"] : List Str)) → (ky = (["left", "left"] : List Str) ∨ ky = (["right", "right"] : List Str)) → decide ((if kx = (["left", "left"] : List Str) then (0 : Int) else 1) < (if ky = (["left", "left"] : List Str) then 0 else 1)) = ltT kx ky := by
                rintro kx ky (rfl | rfl) (rfl | rfl) <;> decide +kernel
              exact all _ _ (cs x m) (cs y m')
            · have eq : ys = [.ref t, .ref t'] := by
                have l2 := hp.length_eq
                match ys, l2, hp, hw with
                | [u, v], _, hp, hw =>
                  have mu := hp.mem_iff.mp (List.mem_cons_self : u ∈ [u, v])
                  have mv := hp.mem_iff.mp (List.mem_cons_of_mem _ List.mem_cons_self : v ∈ [u, v])
                  have mt := hp.mem_iff.mpr (List.mem_cons_self : V.ref t ∈ [V.ref t, V.ref t'])
                  have mt' := hp.mem_iff.mpr (List.mem_cons_of_mem _ List.mem_cons_self : V.ref t' ∈ [V.ref t, V.ref t'])
                  rcases List.mem_cons.mp mu with rfl | mu
                  · rcases List.mem_cons.mp mt' with e3 | e3
                    · exact absurd e3 ne
                    · rw [List.mem_singleton.mp e3]
                  · have eu := List.mem_singleton.mp mu
                    subst eu
                    rcases List.mem_cons.mp mt with e3 | e3
                    · exact absurd e3.symm ne
                    · have ev := List.mem_singleton.mp e3
                      subst ev
                      have le := (List.pairwise_cons.mp hw).1 _ List.mem_cons_self
                      dsimp only at le
                      rw [if_neg ne, if_pos rfl, if_neg (by decide), if_pos rfl] at le
                      exact absurd le (by decide)
              rw [eq]
              exact fin p' np
end
end Rd
set_option maxHeartbeats 4000000
namespace Rd
open PySem PySem.Spec PyProof.Rows L2 L2H HotX
open C8 (pss_cut tCut)
/-! ## an error that is caught: its code and its fields -/
section
variable {P : Program} {w : World} {K : PySem.W.Frag} {mg : Str → Option Value} {base : Heap} {T : Txt K mg}
def spFieldsE (a dd : Addr) : Sp := fun vs H Q _ => ∃ (code : Str) (x : V), vs = [.ref a] ∧ H dd = some (.xd (exF ["value"] code [x])) ∧ (code = "InvalidName" ∨ code = "InvalidNumber") ∧ ∀ H1 p, Same H H1 → H p = none → H1 p = some (.tup [x]) → Q (.ref p) H1
theorem exF_code (code : Str) (x : V) : (exF ["value"] code [x]).lookup ("code" : Str) = some (.str code) := rfl
theorem exF_value (code : Str) (x : V) : (exF ["value"] code [x]).lookup ("value" : Str) = some x := rfl
theorem in_codes {code : Str} (h : code = "InvalidName" ∨ code = "InvalidNumber") : inV (.str code) [.str "InvalidName", .str "InvalidNumber", .str "InvalidSection", .str "InvalidTimes", .str "InvalidStep"] = true := by
  rcases h with rfl | rfl <;> decide +kernel
theorem ok_fieldsE (T : Txt K mg) {x qual : Str} {st : Stmt} {ps : List Str} {B newId initId : String} {bmB : List Value} (D : DX K mg x qual st ps ["value", "code"] B newId initId bmB) {a dd : Addr} {oe : Obj} (hc : oe.cls = .ref D.C) (hd : oe.dict = some dd) (hf : ∃ vs, oe.data = .fields vs) :
    FnE P w K mg base CX0 1 T.d__law_fields.f T.d__law_fields.fd ["_law_e"] (spFieldsE a dd) a oe := by
  refine Fun.okE T.d__law_fields.F sc_law_fields (fun vs H Q E h => ?_) (fun cdv A outer s H vs Q E hot hr h => ?_)
  · obtain ⟨code, y, rfl, _⟩ := h
    rfl
  · obtain ⟨code, y, rfl, eD, hcode, q⟩ := h
    refine ⟨_, (pss_cons (ps_if (pt_cmpR op_in_seq (pe_xq (C := D.C) (dd := dd) (a := a) (oe := oe) D.xf.x (D.no "code" (by decide +kernel)) hc hd hf List.mem_cons_self (pv 0)) (pe_lst (pa_cons pe_str (pa_cons pe_str (pa_cons pe_str (pa_cons pe_str (pa_cons pe_str pa_nil)))))) (by rfl))
      (pss_one (ps_ret (pe_tup (pa_cons (pe_xq (C := D.C) (dd := dd) (a := a) (oe := oe) D.xf.x (D.no "value" (by decide +kernel)) hc hd hf List.mem_cons_self (pv 0)) pa_nil)))) pss_nil) pss_never), ?_⟩
    refine ⟨.ref a, rfl, rfl, _, _, eD, exF_code _ _, by show 5 ≤ sizeLine; decide, fun p np => ⟨p, _, rfl, .inl (SqL.of upd_same), rfl, by rfl, ?_⟩⟩
    refine ⟨_, rfl, ?_⟩
    show if inV (.str code) _ = true then _ else _
    rw [in_codes hcode]
    have s1 := same_new (o := .lst [.str "InvalidName", .str "InvalidNumber", .str "InvalidSection", .str "InvalidTimes", .str "InvalidStep"]) np
    refine iteT ⟨.ref a, rfl, rfl, _, _, s1 _ _ eD, exF_value _ _, by show 1 ≤ sizeLine; decide, fun p2 np2 => ?_⟩
    exact q _ p2 (s1.trans (same_new np2)) (by
      cases e : H p2 with
      | none => rfl
      | some o => rw [s1 _ _ e] at np2; cases np2) upd_same
/-- an error of the kinds that are caught here -/
def ErrOf (T : Txt K mg) (cls : Value) (d : Option Addr) (H : Hp) (code : Str) (x : V) : Prop := ∃ dd, d = some dd ∧ H dd = some (.xd (exF ["value"] code [x])) ∧ ((cls = .ref T.x_InvalidName.C ∧ code = "InvalidName") ∨ (cls = .ref T.x_InvalidNumber.C ∧ code = "InvalidNumber"))
def spTry (P : Program) (w : World) (K : PySem.W.Frag) (mg : Str → Option Value) (base : Heap) (T : Txt K mg) (k : Nat) : Sp := fun vs H Q _ => ∃ (f : Addr) (spf : Hp → VK → XK → Prop), vs = [.ref f] ∧ IsLam H f ∧ Act P w K mg base k H f spf ∧
  ∀ (Q' : VK) (E' : XK), (∀ v H1, (∀ p, H1 p = none → Q (.ref p) (upd H1 p (.tup [.str "", v]))) → Q' v H1) →
    (∀ cls d H1, (∃ code x, ErrOf T cls d H1 code x ∧ ∀ H2 p q, Same H1 H2 → H1 p = none → H1 q = none → H2 p = some (.tup [.str code, .ref q]) → H2 q = some (.tup [x]) → Q (.ref p) H2) → E' cls d H1) → spf H Q' E'
/-- what the suite does, for a class and a dict -/
def tSuite (T : Txt K mg) (a : Addr) (cls : Value) (d : Option Addr) : TS := fun D σ H => ∃ code x, ErrOf T cls d H code x ∧ σ[1]? = some (some (.ref a)) ∧ ∀ H2 p q, Same H H2 → H p = none → H q = none → H2 p = some (.tup [.str code, .ref q]) → H2 q = some (.tup [x]) → D.rt (.ref p) H2
theorem ok_law_try (T : Txt K mg) (k : Nat) : FnOk P w K mg base CX0 (k + 3) T.d__law_try.f T.d__law_try.fd ["_law_ask"] (spTry P w K mg base T k) := by
  refine T.d__law_try.F.ok sc_law_try (fun vs H Q E h => ?_) (fun cdv A outer s H vs Q E hr h => ?_)
  · obtain ⟨f, spf, rfl, _⟩ := h
    rfl
  · obtain ⟨f, spf, rfl, hl, ha, q⟩ := h
    have suite : ∀ {X' : Cx} (hX : X' = (cxOf CX0 P w K mg base N_law_try "_law_try" (defScope s_law_try) T.d__law_try.f cdv A outer s H E).nox) (a : Addr) (oe : Obj) (cls : Value) (d : Option Addr) (pn : List (Addr × Obj)), L2N.Zn cls d oe → (∃ vs, oe.data = .fields vs) → X'.base.get? a = none →
        ∀ {p1 p2 p3 p4 p5 p6 p7 : Pos} {k1 : Nat}, PSs (X'.suite a ((a, oe) :: pn)) [.Return (some (.Tuple [.Attribute (.Name "_law_e" p1) "code" p2, .Call (.Name "_law_fields" p3) [.Name "_law_e" p4] [] p5] k1 p6)) p7] (tSuite T a cls d) := by
      intro X' hX a oe cls d pn hz hf hb p1 p2 p3 p4 p5 p6 p7 k1
      subst hX
      -- for either class
      have go : ∀ {x qual : Str} {st : Stmt} {ps : List Str} {B newId initId : String} {bmB : List Value} (D : DX K mg x qual st ps ["value", "code"] B newId initId bmB) (dd : Addr), cls = .ref D.C → d = some dd → ∀ (pins : List (Addr × Obj)) (s' : Shared) (σ : L2.St) (H' : Hp) (En : Ends), Inv ((cxOf CX0 P w K mg base N_law_try "_law_try" (defScope s_law_try) T.d__law_try.f cdv A outer s H E).nox.suite a ((a, oe) :: pn)) pins σ H' s' →
          (∃ (code : Str) (y : V), H' dd = some (.xd (exF ["value"] code [y])) ∧ (code = "InvalidName" ∨ code = "InvalidNumber") ∧ σ[1]? = some (some (.ref a)) ∧ ∀ H2 p q, Same H' H2 → H' p = none → H' q = none → H2 p = some (.tup [.str code, .ref q]) → H2 q = some (.tup [y]) → En.rt (.ref p) H2) →
          wpAny (model P w) ((cxOf CX0 P w K mg base N_law_try "_law_try" (defScope s_law_try) T.d__law_try.f cdv A outer s H E).nox.suite a ((a, oe) :: pn)).A (execs [.Return (some (.Tuple [.Attribute (.Name "_law_e" p1) "code" p2, .Call (.Name "_law_fields" p3) [.Name "_law_e" p4] [] p5] k1 p6)) p7] ((cxOf CX0 P w K mg base N_law_try "_law_try" (defScope s_law_try) T.d__law_try.f cdv A outer s H E).nox.suite a ((a, oe) :: pn)).env)
            (SP ((cxOf CX0 P w K mg base N_law_try "_law_try" (defScope s_law_try) T.d__law_try.f cdv A outer s H E).nox.suite a ((a, oe) :: pn)) pins En) ((cxOf CX0 P w K mg base N_law_try "_law_try" (defScope s_law_try) T.d__law_try.f cdv A outer s H E).nox.suite a ((a, oe) :: pn)).xe s' := by
        intro x qual st ps B newId initId bmB D dd ecls ed pins s' σ H' En I h
        subst ecls ed
        obtain ⟨code, y, eD, hcode, hσ, qq⟩ := h
        have hc : oe.cls = .ref D.C := hz.1
        have hd : oe.dict = some dd := hz.2.1
        refine (pss_one (ps_ret (pe_tup (pa_cons (pe_xq (C := D.C) (dd := dd) (a := a) (oe := oe) D.xf.x (D.no "code" (by decide +kernel)) hc hd hf List.mem_cons_self (pv 1)) (pa_cons (pe_callE (ok_fieldsE T D hc hd hf) (room_suite (hr.mono (by omega))) (hot_suite hz hf) List.mem_cons_self (by rfl) T.d__law_fields.g T.d__law_fields.F.kp T.d__law_fields.b pass0 (pa_cons (pv 1) pa_nil)) pa_nil))))).run pins s' σ H' En I ?_
        refine ⟨.ref a, hσ, rfl, _, _, eD, exF_code _ _, .ref a, hσ, code, y, rfl, eD, hcode, fun H1 q1 s1 n1 e1 => ?_⟩
        refine ⟨by show 2 ≤ sizeLine; decide, fun p np => ?_⟩
        refine qq _ p q1 (s1.trans (same_new np)) ?_ n1 upd_same (by rw [upd_ne (ne_of_none e1 np)]; exact e1)
        cases e : H' p with
        | none => rfl
        | some o => rw [s1 _ _ e] at np; cases np
      refine ⟨fun pins s' σ H' En I h => ?_⟩
      obtain ⟨code, y, ⟨dd, ed, eD, hcl⟩, hσ, qq⟩ := h
      rcases hcl with ⟨e1, e2⟩ | ⟨e1, e2⟩
      · exact go T.x_InvalidName dd e1 ed pins s' σ H' En I ⟨code, y, eD, .inl e2, hσ, qq⟩
      · exact go T.x_InvalidNumber dd e1 ed pins s' σ H' En I ⟨code, y, eD, .inr e2, hσ, qq⟩
    refine ⟨_, pss_one (L2N.ps_try_tup3 (i := 1) rfl rfl sc_law_try.nd rfl rfl ⟨rfl, by decide, .inl T.c_DayError⟩ ⟨rfl, by decide, .inl T.c_Missing⟩ ⟨rfl, by decide, .inl T.c_NothingLeft⟩ takes0N (tb := fun W D σ H => tTup (tCons (tC (.str "")) (tCons (tAsk P w K mg base k 0 W) tNil)) σ H D.rt)
      (fun W pn xe tk _ => pss_one (ps_ret (pe_tup (pa_cons pe_str (pa_cons (pe_ask (k := k) (W := W) (i := 0) (hr.mono (by omega)) tk rfl (Or.inl rfl)) pa_nil)))))
      (fun a oe cls d pn hz hf hb => suite rfl a oe cls d pn hz hf hb)), ?_⟩
    refine ⟨f, spf, rfl, hl, ha, ?_⟩
    refine q _ _ (fun v H1 h => ⟨by show 2 ≤ sizeLine; decide, fun p np => h p np⟩) (fun cls d H1 h => ?_)
    obtain ⟨code, x, ⟨dd, ed, eD, hcl⟩, qq⟩ := h
    have hb : ∃ b, PySem.W.exmAny K cls [.ref T.aDayError, .ref T.aMissing, .ref T.aNothingLeft] = some b ∧ b = true := by
      rcases hcl with ⟨e1, e2⟩ | ⟨e1, e2⟩
      · rw [e1]; exact T.exN
      · rw [e1]; exact T.exI
    obtain ⟨b, hb, hb1⟩ := hb
    refine ⟨b, hb, fun _ a ha => ?_, fun e => by rw [hb1] at e; cases e⟩
    exact ⟨code, x, ⟨dd, ed, eD, hcl⟩, rfl, fun H2 p q s1 n1 n2 e1 e2 => qq H2 p q s1 n1 n2 e1 e2⟩
end
end Rd
set_option maxHeartbeats 4000000
namespace Rd
open PySem PySem.Spec PyProof.Rows L2 L2H HotX
/-! ## all that is asked: each raises the same -/
section
variable {P : Program} {w : World} {K : PySem.W.Frag} {mg : Str → Option Value} {base : Heap} {T : Txt K mg}
/-- f raises an error of that code with that value -/
def Raises (P : Program) (w : World) (K : PySem.W.Frag) (mg : Str → Option Value) (base : Heap) (T : Txt K mg) (k : Nat) (H : Hp) (code : Str) (x : V) (f : Addr) : Prop :=
  IsLam H f ∧ ∃ spf, Act P w K mg base k H f spf ∧ ∀ H1 (Q' : VK) (E' : XK), Same H H1 → (∀ cls d H2, Same H1 H2 → ErrOf T cls d H2 code x → E' cls d H2) → spf H1 Q' E'
theorem Raises.same {k : Nat} {H H1 : Hp} {code : Str} {x : V} {f : Addr} (r : Raises P w K mg base T k H code x f) (s : Same H H1) : Raises P w K mg base T k H1 code x f := by
  obtain ⟨l, spf, a, h⟩ := r
  exact ⟨l.keep (.same s), spf, a.mono (.same s), fun H2 Q' E' s2 h2 => h H2 Q' E' (s.trans s2) h2⟩
def Told (H : Hp) (code : Str) (x v : V) : Prop := ∃ t q, v = .ref t ∧ H t = some (.tup [.str code, .ref q]) ∧ H q = some (.tup [x])
theorem Told.keep {H H1 : Hp} {code : Str} {x v : V} (h : Told H code x v) (k : ∀ a xs, H a = some (.tup xs) → H1 a = some (.tup xs)) : Told H1 code x v := by
  obtain ⟨t, q, e, e1, e2⟩ := h
  exact ⟨t, q, e, k _ _ e1, k _ _ e2⟩
def spTries (P : Program) (w : World) (K : PySem.W.Frag) (mg : Str → Option Value) (base : Heap) (T : Txt K mg) (k : Nat) : Sp := fun vs H Q _ => ∃ (l : Addr) (fs : List Addr) (code : Str) (x : V), vs = [.ref l] ∧ H l = some (.lst (fs.map .ref)) ∧ fs.length ≤ 1000 ∧ (∀ f ∈ fs, Raises P w K mg base T k H code x f) ∧
  ∀ H1 p us, Same H H1 → H p = none → H1 p = some (.lst us) → us.length = fs.length → (∀ v ∈ us, Told H1 code x v) → Q (.ref p) H1
theorem ok_law_tries (T : Txt K mg) (k : Nat) : FnOk P w K mg base CX0 (k + 4) T.d__law_tries.f T.d__law_tries.fd ["_law_asks"] (spTries P w K mg base T k) := by
  refine T.d__law_tries.F.ok sc_law_tries (fun vs H Q E h => ?_) (fun cdv A outer s H vs Q E hr h => ?_)
  · obtain ⟨l, fs, code, x, rfl, _⟩ := h
    rfl
  · obtain ⟨l, fs, code, x, rfl, el, hn, hf, q⟩ := h
    refine ⟨_, (pss_one (ps_ret (pe_lc (own := [("_law_ask", 1)]) (g := gName 1) (tt := tYes) (by rfl) sc_law_tries.nd (pi_list (pv 0)) (blkOk_by (own := [("_law_ask", 1)]) (N := N_law_tries) (sc := defScope s_law_tries) (by decide +kernel)) (fun _ _ _ _ _ => (pg_name (i := 1) sc_law_tries.nd rfl (Or.inl rfl))) (fun _ _ _ _ _ => pts_nil) (fun _ _ _ _ _ => (pe_call (ok_law_try (P := P) (w := w) (base := base) T k) (hr.mono (by omega)) (by rfl) T.d__law_try.g T.d__law_try.F.kp T.d__law_try.b .nil pass0 (pa_cons (pv 1) pa_nil)))))), ?_⟩
    refine ⟨.ref l, rfl, l, rfl, ⟨_, SqL.of el⟩, fun D nD => lc_list (K := K) (a := l) (xs := fs.map .ref) (fun i H2 => Same H H2 ∧ ∃ us, H2 D = some (.lst us) ∧ us.length = i ∧ ∀ v ∈ us, Told H2 code x v)
      ⟨same_new nD, [], upd_same, rfl, fun v hv => by cases hv⟩ (fun _ H2 _ h => SqL.of (h.1 _ _ el)) ?_ ?_⟩
    · rintro i z H2 hi ⟨sm, us, eD, hl, hv⟩
      rw [List.getElem?_map] at hi
      obtain ⟨f, hfi, rfl⟩ : ∃ f, fs[i]? = some f ∧ z = .ref f := by
        cases e : fs[i]? with
        | none => rw [e] at hi; cases hi
        | some f => rw [e] at hi; cases hi; exact ⟨f, rfl, rfl⟩
      have r := (hf f (List.mem_of_getElem? hfi)).same sm
      obtain ⟨rl, spf, ra, rh⟩ := r
      refine ⟨rfl, .ref f, rfl, f, spf, rfl, rl, ra, fun Q' E' _ hE => ?_⟩
      refine rh H2 Q' E' (.refl _) fun cls d H3 s3 er => hE cls d H3 ⟨code, x, er, fun H4 p qa s4 np nq ep eq => ?_⟩
      have e4 := s4 _ _ (s3 _ _ eD)
      have pD : p ≠ D := fun e => by rw [e, s3 _ _ eD] at np; cases np
      have qD : qa ≠ D := fun e => by rw [e, s3 _ _ eD] at nq; cases nq
      refine ⟨us, e4, ?_, fun b o e => ?_, us ++ [.ref p], upd_same, by rw [List.length_append, hl]; rfl, fun v hm => ?_⟩
      · have hi2 := (List.getElem?_eq_some_iff.mp hfi).1
        exact small1000 (by omega)
      · rw [upd_ne (ne_of_none e nD)]
        exact s4 _ _ (s3 _ _ (sm _ _ e))
      · have kp : ∀ a xs, H4 a = some (.tup xs) → upd H4 D (.lst (us ++ [.ref p])) a = some (.tup xs) := fun a xs e => by
          rw [upd_ne (fun c => by rw [c, e4] at e; cases e)]
          exact e
        rcases List.mem_append.mp hm with m | m
        · exact (((hv v m).keep fun a xs e => s3 _ _ e).keep fun a xs e => s4 _ _ e).keep kp
        · rw [List.mem_singleton.mp m]
          exact ⟨p, qa, rfl, kp _ _ ep, kp _ _ eq⟩
    · rintro H2 ⟨sm, us, eD, hl, hv⟩
      exact q H2 D us sm nD eD (by rw [hl, List.length_map]) hv
end
end Rd
set_option maxHeartbeats 4000000
namespace Rd
open PySem PySem.Spec PyProof.Rows L2 L2H HotX
/-! ## words that differ in one letter -/
def wordK (z : Str) (d f g : Int) (k : Nat) : Str := cutS z none (some d) ++ ⟨#[97 + ((f + g * (k : Int)) % 26).toNat]⟩ ++ cutS z (some d) none
theorem wordK_list (z : Str) (d f g : Int) (k : Nat) : (wordK z d f g k).cps.toList = (cutS z none (some d)).cps.toList ++ [97 + ((f + g * (k : Int)) % 26).toNat] ++ (cutS z (some d) none).cps.toList := by
  show ((cutS z none (some d)).cps ++ #[97 + ((f + g * (k : Int)) % 26).toNat] ++ (cutS z (some d) none).cps).toList = _
  rw [Array.toList_append, Array.toList_append]
theorem cut_pre (z : Str) {d : Int} (d0 : 0 ≤ d) (d1 : d ≤ z.length) : (cutS z none (some d)).cps.toList = z.cps.toList.take d.toNat := by
  obtain ⟨n, rfl⟩ := Int.eq_ofNat_of_zero_le d0
  unfold cutS
  rw [show HT.sIx z.length 0 none = 0 from HT.sIx_none _ _, show HT.sIx z.length z.length (some ((n : Nat) : Int)) = min n z.length from HT.sIx_nat _ _ n]
  rw [List.drop_zero, show (↑n : Int).toNat = n from rfl, show min n z.length - 0 = n by omega]
theorem cut_post (z : Str) {d : Int} (d0 : 0 ≤ d) (d1 : d ≤ z.length) : (cutS z (some d) none).cps.toList = z.cps.toList.drop d.toNat := by
  obtain ⟨n, rfl⟩ := Int.eq_ofNat_of_zero_le d0
  unfold cutS
  rw [show HT.sIx z.length z.length none = z.length from HT.sIx_none _ _, show HT.sIx z.length 0 (some ((n : Nat) : Int)) = min n z.length from HT.sIx_nat _ _ n]
  rw [show (↑n : Int).toNat = n from rfl, show min n z.length = n by omega]
  exact List.take_of_length_le (by rw [List.length_drop, Array.length_toList]; exact Nat.le_refl _)
theorem wordK_nm {z : Str} {d f g : Int} {k : Nat} (hz : z.cps.toList.all low = true) (l : z.length ≤ 3) (d0 : 0 ≤ d) (d1 : d ≤ z.length) : isNm (.str (wordK z d f g k)) = true := by
  have el := wordK_list z d f g k
  rw [cut_pre z d0 d1, cut_post z d0 d1] at el
  have hl : (wordK z d f g k).length = z.length + 1 := by
    show (wordK z d f g k).cps.size = _
    rw [← Array.length_toList, el, List.length_append, List.length_append, List.length_take, List.length_drop, Array.length_toList]
    show min d.toNat z.length + 1 + (z.length - d.toNat) = z.length + 1
    omega
  rw [isNm_str, hl, el, List.all_append, List.all_append]
  have ha := List.all_eq_true.mp hz
  have p1 : (z.cps.toList.take d.toNat).all low = true := List.all_eq_true.mpr fun x hx => ha x (List.mem_of_mem_take hx)
  have p2 : (z.cps.toList.drop d.toNat).all low = true := List.all_eq_true.mpr fun x hx => ha x (List.mem_of_mem_drop hx)
  have p3 : ([97 + ((f + g * (k : Int)) % 26).toNat] : List Nat).all low = true := by
    rw [List.all_cons, List.all_nil, Bool.and_true]
    unfold low
    have h1 := Int.emod_nonneg (f + g * (k : Int)) (show (26 : Int) ≠ 0 by decide)
    have h2 := Int.emod_lt_of_pos (f + g * (k : Int)) (show (0 : Int) < 26 by decide)
    rw [decide_eq_true (by omega), decide_eq_true (by omega)]
    rfl
  rw [p1, p2, p3, decide_eq_true (by omega), decide_eq_true (by omega)]
  rfl
def gaps : List V := [.int 1, .int 3, .int 5, .int 7, .int 9, .int 11, .int 15]
theorem wordK_inj {z : Str} {d f g : Int} {i j : Nat} (hg : V.int g ∈ gaps) (hi : i < 26) (hj : j < 26) (h : wordK z d f g i = wordK z d f g j) : i = j := by
  have e : (wordK z d f g i).cps.toList = (wordK z d f g j).cps.toList := by rw [h]
  rw [wordK_list, wordK_list] at e
  have e1 := List.append_cancel_right e
  have e2 := List.append_cancel_left e1
  have e3 : 97 + ((f + g * (i : Int)) % 26).toNat = 97 + ((f + g * (j : Int)) % 26).toNat := by injection e2
  have a0 := Int.emod_nonneg (f + g * (i : Int)) (show (26 : Int) ≠ 0 by decide)
  have b0 := Int.emod_nonneg (f + g * (j : Int)) (show (26 : Int) ≠ 0 by decide)
  have e4 : (f + g * (i : Int)) % 26 = (f + g * (j : Int)) % 26 := by omega
  simp only [gaps, List.mem_cons, List.not_mem_nil, or_false, V.int.injEq] at hg
  rcases hg with rfl | rfl | rfl | rfl | rfl | rfl | rfl <;> omega
theorem Go.put {H1 H4 : Hp} {b D : Addr} {o : HO} (hB : Bag H1 b) (g : Go b H1 H4) (nD : H1 D = none) : Go b H1 (upd H4 D o) := by
  have nb := hB.ne nD
  obtain ⟨c, hc, oc, eo⟩ := hB.cell
  have nc : D ≠ c := fun e => by rw [← e, nD] at eo; cases eo
  refine ⟨g.1.put (g.3 c hc) nb nc, fun a u na e => ?_, fun c' h => (g.3 c' h).put nb⟩
  rw [upd_ne (ne_of_none e nD)]
  exact g.2 a u na e
theorem letter_at {m : Int} (h0 : 0 ≤ m) (h1 : m < 26) : atI ("abcdefghijklmnopqrstuvwxyz" : Str).cps.toList m = some (97 + m.toNat) := by
  have e : ("abcdefghijklmnopqrstuvwxyz" : Str).cps.toList = List.range' 97 26 := by decide +kernel
  rw [e]
  obtain ⟨n, rfl⟩ := Int.eq_ofNat_of_zero_le h0
  refine atI_nat ?_
  rw [List.getElem?_range' (by omega)]
  show some (97 + 1 * n) = some (97 + n)
  rw [Nat.one_mul]
section
variable {P : Program} {w : World} {K : PySem.W.Frag} {mg : Str → Option Value} {base : Heap}
def spWords : Sp := fun vs H Q _ => ∃ (b : Addr) (n : Nat), vs = [.ref b, .int n] ∧ Bag H b ∧ n ≤ 26 ∧
  ∀ (p : Addr) (f : Nat → Str) H', Go b H H' → H p = none → p ≠ b → H' p = some (.lst ((List.range n).map fun i => V.str (f i))) → (∀ i, i < n → isNm (.str (f i)) = true) → (∀ i j, i < n → j < n → f i = f j → i = j) → Q (.ref p) H'
theorem ok_law_words (T : Txt K mg) : FnOk P w K mg base CX0 3 T.d__law_words.f T.d__law_words.fd ["_law_bag_here", "_law_many"] spWords := by
  refine T.d__law_words.F.ok sc_law_words (fun vs H Q E h => ?_) (fun cdv A outer s H vs Q E hr h => ?_)
  · obtain ⟨b, n, rfl, _⟩ := h
    rfl
  · obtain ⟨b, n, rfl, hB, hn, q⟩ := h
    refine ⟨_, (pss_cons (ps_asg (pe_tup (pa_cons pe_str (pa_cons pe_str pa_nil))) (pg_tup rfl (pgs_cons (pg_name (i := 2) sc_law_words.nd rfl (Or.inr rfl)) (pgs_cons (pg_name (i := 3) sc_law_words.nd rfl (Or.inr rfl)) pgs_nil))))
      (pss_cons (ps_for PassesOwn.never rfl (pi_range1 (by rfl) T.z_range (pa_cons (pe_call (ok_law_draw T) (hr.mono (by decide)) (by rfl) T.d__law_draw.g T.d__law_draw.F.kp T.d__law_draw.b .nil pass0 (pa_cons (pv 0) (pa_cons pe_int pa_nil))) pa_nil)) (pg_name (i := 4) sc_law_words.nd rfl (Or.inl rfl)) (pss_one (ps_set (i := 3) sc_law_words.nd rfl (Or.inr rfl) (pe_op op_add_str (pv 3) (pe_call (ok_law_ofS T) (hr.mono (by decide)) (by rfl) T.d__law_of.g T.d__law_of.F.kp T.d__law_of.b .nil pass0 (pa_cons (pv 0) (pa_cons (pv 2) pa_nil)))))))
      (pss_cons (ps_asg (pe_tup (pa_cons (pe_call (ok_law_draw T) (hr.mono (by decide)) (by rfl) T.d__law_draw.g T.d__law_draw.F.kp T.d__law_draw.b .nil pass0 (pa_cons (pv 0) (pa_cons (pe_op op_add (pe_callB call_len_str (by rfl) T.z_len (by decide +kernel) (pa_cons (pv 3) pa_nil)) pe_int) pa_nil))) (pa_cons (pe_call (ok_law_draw T) (hr.mono (by decide)) (by rfl) T.d__law_draw.g T.d__law_draw.F.kp T.d__law_draw.b .nil pass0 (pa_cons (pv 0) (pa_cons pe_int pa_nil))) (pa_cons (pe_call (ok_law_ofL T) (hr.mono (by decide)) (by rfl) T.d__law_of.g T.d__law_of.F.kp T.d__law_of.b .nil pass0 (pa_cons (pv 0) (pa_cons (pe_lst (pa_cons pe_int (pa_cons pe_int (pa_cons pe_int (pa_cons pe_int (pa_cons pe_int (pa_cons pe_int (pa_cons pe_int pa_nil)))))))) pa_nil))) pa_nil)))) (pg_tup rfl (pgs_cons (pg_name (i := 5) sc_law_words.nd rfl (Or.inr rfl)) (pgs_cons (pg_name (i := 6) sc_law_words.nd rfl (Or.inr rfl)) (pgs_cons (pg_name (i := 7) sc_law_words.nd rfl (Or.inr rfl)) pgs_nil)))))
      (pss_one (ps_ret (pe_lc (own := [("_law_k", 4)]) (g := gName 4) (tt := tYes) (by rfl) sc_law_words.nd (pi_range1 (by rfl) T.z_range (pa_cons (pv 1) pa_nil)) (blkOk_by (own := [("_law_k", 4)]) (N := N_law_words) (sc := defScope s_law_words) (by decide +kernel)) (fun _ _ _ _ _ => (pg_name (i := 4) sc_law_words.nd rfl (Or.inl rfl))) (fun _ _ _ _ _ => pts_nil) (fun _ _ _ _ _ => (pe_op op_add_str (pe_op op_add_str (pe_slice sl_str (pv 3) po_none (po_some (pv 5))) (pe_ix ix_str (pv 2) (pe_op op_mod (pe_callTy call_int1 (by rfl) T.z_int (by decide +kernel) (pa_cons (pe_op op_add (pv 6) (pe_op op_mul (pv 7) (pv 4))) pa_nil)) pe_int) (fun _ _ => rfl))) (pe_slice sl_str (pv 3) (po_some (pv 5)) po_none))))))))), ?_⟩
    refine ⟨by show 2 ≤ sizeLine; decide, fun p np => ?_⟩
    refine ⟨p, _, rfl, SqT.of upd_same, rfl, .str "abcdefghijklmnopqrstuvwxyz", _, rfl, .str "", _, rfl, rfl, ?_⟩
    have g1 : Go b H (upd H p (.tup [.str "abcdefghijklmnopqrstuvwxyz", .str ""])) := (Go.refl hB).new np
    generalize upd H p (.tup [.str "abcdefghijklmnopqrstuvwxyz", .str ""]) = H1 at g1
    refine ⟨.ref b, rfl, b, 4, rfl, g1.1, by decide, by decide, fun d H2 g2 d0 d1 => ⟨d, rfl, by omega, by omega, for_range (n := d.toNat) (fun i σ H3 => Go b H H3 ∧ ∃ z v4, σ = [some (.ref b), some (.int n), some (.str "abcdefghijklmnopqrstuvwxyz"), some (.str z), v4, none, none, none] ∧ z.length = i ∧ z.cps.toList.all low = true) ⟨g1.trans g2, "", none, rfl, rfl, rfl⟩ ?_ ?_⟩⟩
    · rintro i σ H3 hi ⟨g3, z, v4, rfl, hl, hz⟩
      refine ⟨.str z, rfl, .ref b, rfl, .str "abcdefghijklmnopqrstuvwxyz", rfl, b, _, rfl, g3.1, by decide, by decide, fun c H4 g4 hc => ?_⟩
      refine ⟨z, _, rfl, rfl, ?_, g3.trans g4, z ++ ⟨#[c]⟩, _, rfl, ?_, ?_⟩
      · show z.length + 1 ≤ sizeLine
        exact Nat.le_of_lt (small1000 (by omega))
      · show (z.cps ++ #[c]).size = i + 1
        rw [Array.size_append]
        show z.length + 1 = i + 1
        omega
      · show (z.cps ++ #[c]).toList.all low = true
        rw [Array.toList_append, List.all_append, hz, List.all_cons, ← letters_low, decide_eq_true hc]
        rfl
    · rintro σ H3 ⟨g3, z, v4, rfl, hl, hz⟩
      have hl3 : z.length ≤ 3 := by omega
      have zs : z.length ≤ sizeLine := Nat.le_of_lt (small1000 (by omega))
      refine ⟨.ref b, rfl, .str z, rfl, z, rfl, zs, _, _, rfl, rfl, b, _, rfl, g3.1, by omega, by omega, fun at_ H4 g4 a0 a1 => ?_⟩
      refine ⟨.ref b, rfl, b, 26, rfl, g4.1, by decide, by decide, fun f H5 g5 f0 f1 => ?_⟩
      refine ⟨.ref b, rfl, by show 7 ≤ sizeLine; decide, fun pl nl => ⟨b, pl, gaps, rfl, g5.1.new nl, (g5.1.ne nl), upd_same, by decide, by decide, fun gv H6 g6 hg => ?_⟩⟩
      obtain ⟨g, rfl, h1, h2⟩ : ∃ g, gv = V.int g ∧ 0 ≤ g ∧ g ≤ 15 := by
        simp only [gaps, List.mem_cons, List.not_mem_nil, or_false] at hg
        rcases hg with h | h | h | h | h | h | h <;> exact ⟨_, h, by decide, by decide⟩
      have g7 : Go b H H6 := g3.trans (g4.trans (g5.trans (((Go.refl g5.1).new nl).trans g6)))
      refine ⟨by show 3 ≤ sizeLine; decide, fun pt nt => ?_⟩
      refine ⟨pt, _, rfl, SqT.of upd_same, rfl, .int at_, _, rfl, .int f, _, rfl, .int g, _, rfl, rfl, ?_⟩
      have g8 := g7.new (o := .tup [.int at_, .int f, .int g]) nt
      generalize upd H6 pt (.tup [.int at_, .int f, .int g]) = H7 at g8
      refine ⟨.int n, rfl, n, rfl, by omega, by omega, fun D nD => ?_⟩
      have nDb : D ≠ b := g8.1.ne nD
      have a1' : at_ ≤ z.length := by omega
      refine lc_range (lo := 0) (n := (n : Int).toNat) (fun i H8 => Go b H H8 ∧ H8 D = some (.lst ((List.range i).map fun k => V.str (wordK z at_ f g k)))) ⟨g8.new nD, upd_same⟩ ?_ ?_
      · rintro i H8 hi ⟨g9, eD⟩
        refine ⟨rfl, ?_⟩
        refine ⟨.str z, rfl, .int at_, rfl, at_, rfl, z, rfl, zs, ?_⟩
        refine ⟨.str "abcdefghijklmnopqrstuvwxyz", rfl, .int f, rfl, .int g, rfl, .int (0 + (i : Int)), rfl, ?_⟩
        have hi26 : i < 26 := by omega
        refine ⟨g, _, rfl, rfl, .inl ⟨by omega, by omega⟩, f, _, rfl, rfl, .inl ⟨_, rfl, _, 26, rfl, rfl, (by show (0 : Int) < 26; decide), ?_⟩⟩
        rw [Int.zero_add]
        have m0 := Int.emod_nonneg (f + g * (i : Int)) (show (26 : Int) ≠ 0 by decide)
        have m1 := Int.emod_lt_of_pos (f + g * (i : Int)) (show (0 : Int) < 26 by decide)
        refine ⟨_, _, _, rfl, rfl, by decide, letter_at m0 m1, ?_⟩
        have lc : (cutS z none (some at_)).length ≤ 3 := Nat.le_trans (cutS_length _ _ _) hl3
        have lc2 : (cutS z (some at_) none).length ≤ 3 := Nat.le_trans (cutS_length _ _ _) hl3
        refine ⟨_, _, rfl, rfl, Nat.le_of_lt (small1000 (by show _ + 1 ≤ 1000; omega)), .str z, rfl, .int at_, rfl, at_, rfl, z, rfl, zs, _, _, rfl, rfl, Nat.le_of_lt (small1000 (by show (Array.size (_ ++ #[_])) + _ ≤ 1000; rw [Array.size_append]; show (cutS z none (some at_)).length + 1 + _ ≤ 1000; omega)), ?_⟩
        refine ⟨_, eD, by rw [List.length_map, List.length_range]; exact small1000 (by omega), g9.put hB (g8.back hB nD), ?_⟩
        rw [upd_same, List.range_succ, List.map_append]
        rfl
      · rintro H8 ⟨g9, eD⟩
        exact q D (wordK z at_ f g) H8 g9 (g8.back hB nD) nDb eD (fun i hi => wordK_nm hz hl3 a0 a1') (fun i j hi hj e => wordK_inj hg (by omega) (by omega) e)
end
end Rd
set_option maxHeartbeats 4000000
namespace Rd
open PySem PySem.Spec PyProof.Rows L2 L2H HotX
/-! ## the law's own helpers by shapes -/
section
variable {b : Addr} {σ : L2.St} {H0 : Hp} {te ta tb : TE} {tr : TA} {s s1 s2 : Sh} {ss xs : List Sh} {K : PySem.W.Frag}
theorem e_ofL (h : EvN b tr σ H0 [.c (.ref b), .l xs]) (h0 : 0 < xs.length) (h1 : xs.length < 1000) : Ev1 b (tCall spOfL [] E0 tr) σ H0 (.o xs) :=
  e_call h fun vs H g i Q q => by
    obtain ⟨v, u, rfl, rfl, p, ys, rfl, n, o, r⟩ := is2 i
    have l := r.length
    exact ⟨b, p, ys, rfl, g.1, n, o, by omega, by omega, fun v H' g' m => by
      obtain ⟨s, ms, k⟩ := r.mem m
      exact q v H' g' (IsOne.of ms (k.go g'))⟩
theorem e_draw {k : Int} (h : EvN b tr σ H0 [.c (.ref b), .c (.int k)]) (h0 : 0 < k) (h1 : k < 1000000) : Ev1 b (tCall spDraw [] E0 tr) σ H0 (.is fun v => ∃ d, 0 ≤ d ∧ d < k ∧ v = .int d) :=
  e_call h fun vs H g i Q q => by
    obtain ⟨v, u, rfl, rfl, rfl⟩ := is2 i
    exact ⟨b, k, rfl, g.1, h0, h1, fun c H' g' m0 m1 => q _ H' g' ⟨c, m0, m1, rfl⟩⟩
theorem e_same {n : Nat} (h : EvN b tr σ H0 [s, s]) (d : det n s = true) : Ev1 b (tCall (spSame K n) [] E0 tr) σ H0 (.c (.bl true)) :=
  e_call h fun vs H g i Q q => by
    obtain ⟨v, u, rfl, i1, i2⟩ := is2 i
    exact ⟨v, u, rfl, eqv_det d i1 i2, fun H' s => q _ H' (Go.of_same g.1 s) rfl⟩
theorem e_callK {sp : Sp} {E : XK} {n : Nat} {gV : List V → List V → List V} (h : EvN b tr σ H0 ss) (l : ss.length = n) (k : ∀ vs H, Go b H0 H → IsAll b H ss vs → ∀ Q : VK, (∀ v H', Go b H H' → Is b H' s v → Q v H') → sp (gV [] vs) H Q E) : Ev1 b (tCallN 0 n sp gV E tNil tr) σ H0 s := fun H g Q q =>
  h H g _ fun vs H1 g1 i1 => ⟨rfl, i1.length.trans l, k vs H1 (g.trans g1) i1 Q fun v H2 g2 i2 => q v H2 (g1.trans g2) i2⟩
theorem e_strI {te : TE} {i : Int} (h : Ev1 b te σ H0 (.c (.int i))) (l : i.natAbs < 2 ^ 60) : Ev1 b (tCB (fun xs H Q => ∃ i, xs = [.int i] ∧ i.natAbs.log2 < 1920 ∧ Q (.str (toString i)) H) (tCons te tNil)) σ H0 (.c (.str (toString i))) := fun H g Q q =>
  h H g _ fun v H1 g1 i1 => ⟨i, by rw [show v = _ from i1], Nat.lt_of_lt_of_le (PySem.Flt.log2_lt_of (by decide) l) (by decide), q _ H1 g1 rfl⟩
theorem is_c {H : Hp} {v : V} : Is b H (.c v) v := rfl
end
section
variable {b : Addr} {σ : L2.St} {H : Hp} {te : TE} {s : Sh} {D : Ends} {t2 : TS} {i : Nat} {K : PySem.W.Frag}
theorem q_set (hB : Bag H b) (h : Ev1 b te σ H s) (q : ∀ v H', Go b H H' → Is b H' s v → t2 D (σ.set i (some v)) H') : tSeq (tAsg te (gName i)) t2 D σ H := h H (.refl hB) _ q
theorem q_ret (hB : Bag H b) (h : Ev1 b te σ H s) (q : ∀ v H', Go b H H' → Is b H' s v → D.rt v H') : tRet te D σ H := h H (.refl hB) _ q
theorem e_mono {H' : Hp} (g : Go b H H') (h : Ev1 b te σ H s) : Ev1 b te σ H' s := fun H1 g1 Q q => h H1 (g.trans g1) Q q
theorem q_tup2 {i j : Nat} {s1 s2 : Sh} (hB : Bag H b) (h : Ev1 b te σ H (.t [s1, s2])) (q : ∀ x y H', Go b H H' → Is b H' s1 x → Is b H' s2 y → t2 D ((σ.set i (some x)).set j (some y)) H') : tSeq (tAsg te (gTup K 2 (gCons (gName i) (gCons (gName j) gNil)))) t2 D σ H :=
  h H (.refl hB) _ fun u H6 g6 i6 => by
    obtain ⟨p, xs, rfl, np, o, r⟩ := i6
    obtain ⟨x, y, rfl, r1, r2⟩ := is2 r
    exact ⟨p, _, rfl, SqT.of o, rfl, x, _, rfl, y, _, rfl, rfl, q x y H6 g6 r1 r2⟩
end
theorem _root_.L2.Room.dict {k : Nat} {A : Around} (r : Room k A) : A.units + 1 < cLine := by have := r.un; omega
/-! ### odd names, bad numbers, sides, ways, sections -/
def oddSh : List Sh := [.c .non, .c (.str ""), .c (.int 3), .c (.bl true), .c (.str "A"), .c (.str "abcdefg"), .c (.str "a b"), .c (.str "a1"), .t [.c (.str "a")], .l [.c (.str "a")], .c (.int (-1)), .c (.str "zo\n"), .t [.t [.c (.str "a"), .t [.c (.str "b")]]], .c (.str "a.a")]
section
variable {P : Program} {w : World} {K : PySem.W.Frag} {mg : Str → Option Value} {base : Heap}
def spOdd : Sp := fun vs H Q _ => ∃ b, vs = [.ref b] ∧ Bag H b ∧ ∀ v H', Go b H H' → Is b H' (.o oddSh) v → Q v H'
theorem ok_law_odd (T : Txt K mg) : FnOk P w K mg base CX0 3 T.d__law_odd.f T.d__law_odd.fd ["_law_bag_here"] spOdd := by
  refine T.d__law_odd.F.ok sc_law_odd (fun vs H Q E h => ?_) (fun cdv A outer s H vs Q E hr h => ?_)
  · obtain ⟨b, rfl, _⟩ := h
    rfl
  · obtain ⟨b, rfl, hB, q⟩ := h
    refine ⟨_, (pss_one (ps_ret (pe_call (ok_law_ofL T) (hr.mono (by decide)) (by rfl) T.d__law_of.g T.d__law_of.F.kp T.d__law_of.b .nil pass0 (pa_cons (pv 0) (pa_cons (pe_lst (pa_cons pe_non (pa_cons pe_str (pa_cons pe_int (pa_cons pe_bl (pa_cons pe_str (pa_cons pe_str (pa_cons pe_str (pa_cons pe_str (pa_cons (pe_tup (pa_cons pe_str pa_nil)) (pa_cons (pe_lst (pa_cons pe_str pa_nil)) (pa_cons (pe_un un_neg pe_int) (pa_cons pe_str (pa_cons (pe_tup (pa_cons (pe_tup (pa_cons pe_str (pa_cons (pe_tup (pa_cons pe_str pa_nil)) pa_nil))) pa_nil)) (pa_cons pe_str pa_nil))))))))))))))) pa_nil))))), ?_⟩
    have st : ∀ {z : Str} {σ : L2.St}, Ev1 b (tC (.str z)) σ H (.c (.str z)) := e_c
    have h : Ev1 b _ _ H (.o oddSh) := e_ofL (n_cons (e_var (i := 0) (σ := L2.start N_law_odd [.ref b]) rfl rfl) (n_cons (e_lst (n_cons e_c (n_cons e_c (n_cons e_c (n_cons e_c (n_cons e_c (n_cons e_c (n_cons e_c (n_cons e_c (n_cons (e_tup (n_cons e_c n_nil) (by decide)) (n_cons (e_lst (n_cons e_c n_nil) (by decide)) (n_cons (e_neg e_c) (n_cons e_c (n_cons (e_tup (n_cons (e_tup (n_cons e_c (n_cons (e_tup (n_cons e_c n_nil) (by decide)) n_nil)) (by decide)) n_nil) (by decide)) (n_cons e_c n_nil)))))))))))))) (by decide)) n_nil)) (by decide) (by decide)
    exact h H (Go.refl hB) _ fun v H' g i => q v H' g i
def spLSides : Sp := fun vs H Q _ => ∃ k : Str, vs = [.str k] ∧ (k = "plain" ∨ k = "point" ∨ k = "crossing") ∧ ∀ H' p, Same H H' → H p = none → H' p = some (.lst (sidesOf k)) → Q (.ref p) H'
theorem ok_law_sides (T : Txt K mg) : FnOk P w K mg base CX0 1 T.d__law_sides.f T.d__law_sides.fd ["_law_kind"] spLSides := by
  refine T.d__law_sides.F.ok sc_law_sides (fun vs H Q E h => ?_) (fun cdv A outer s H vs Q E hr h => ?_)
  · obtain ⟨k, rfl, _⟩ := h
    rfl
  · obtain ⟨k, rfl, hk, q⟩ := h
    refine ⟨_, (pss_cons (ps_set (i := 1) sc_law_sides.nd rfl (Or.inl rfl) (pe_disp (pps_cons pe_str (pe_lst (pa_cons pe_str (pa_cons pe_str pa_nil))) (pps_cons pe_str (pe_lst (pa_cons pe_str (pa_cons pe_str (pa_cons pe_str pa_nil)))) (pps_cons pe_str (pe_lst (pa_cons pe_str (pa_cons pe_str (pa_cons pe_str (pa_cons pe_str pa_nil))))) pps_nil))) rfl rfl (by simp) (by decide)))
      (pss_one (ps_ret (pe_dget hr.dict (pv 1) (pv 0) (fun _ _ => rfl))))), ?_⟩
    intro p np
    refine ⟨by show 2 ≤ sizeLine; decide, fun p1 n1 => ⟨by show 3 ≤ sizeLine; decide, fun p2 n2 => ⟨by show 4 ≤ sizeLine; decide, fun p3 n3 => ?_⟩⟩⟩
    have d1 : p ≠ p1 := ne_of_none upd_same n1
    have e1 : upd (upd H p (.dK [])) p1 (.lst [.str "a", .str "b"]) p = some (.dK []) := by rw [upd_ne d1]; exact upd_same
    have d2 : p ≠ p2 := ne_of_none e1 n2
    have e2 : upd (upd (upd H p (.dK [])) p1 (.lst [.str "a", .str "b"])) p2 (.lst [.str "left", .str "right", .str "stem"]) p = some (.dK []) := by rw [upd_ne d2]; exact e1
    have d3 : p ≠ p3 := ne_of_none e2 n3
    have d12 : p1 ≠ p2 := ne_of_none upd_same n2
    have d13 : p1 ≠ p3 := ne_of_none (by rw [upd_ne d12]; exact upd_same) n3
    have d23 : p2 ≠ p3 := ne_of_none upd_same n3
    refine ⟨by rw [upd_ne d3]; exact e2, [(.inr "plain", .ref p1), (.inr "point", .ref p2), (.inr "crossing", .ref p3)], rfl, Nat.le_of_ble_eq_true rfl, ?_⟩
    refine ⟨.ref p, rfl, .str k, rfl, p, ?_⟩
    have sm : Same H (upd (upd (upd (upd (upd H p (.dK [])) p1 (.lst [.str "a", .str "b"])) p2 (.lst [.str "left", .str "right", .str "stem"])) p3 (.lst [.str "a", .str "b", .str "c", .str "d"])) p (.dK (mergeK [] [(.inr "plain", .ref p1), (.inr "point", .ref p2), (.inr "crossing", .ref p3)]))) := fun a o e => by
      have a0 : a ≠ p := ne_of_none e np
      rw [upd_ne a0]
      exact same_new n3 _ _ (same_new n2 _ _ (same_new n1 _ _ (same_new np _ _ e)))
    rcases hk with rfl | rfl | rfl
    · refine ⟨.ref p1, rfl, DGet.k (k := .inr "plain") upd_same, q _ p1 sm ?_ ?_⟩
      · cases e : H p1 with
        | none => rfl
        | some o => rw [same_new np _ _ e] at n1; cases n1
      · rw [upd_ne d1.symm, upd_ne d13, upd_ne d12]; exact upd_same
    · refine ⟨.ref p2, rfl, DGet.k (k := .inr "point") upd_same, q _ p2 sm ?_ ?_⟩
      · cases e : H p2 with
        | none => rfl
        | some o => rw [same_new n1 _ _ (same_new np _ _ e)] at n2; cases n2
      · rw [upd_ne d2.symm, upd_ne d23]; exact upd_same
    · refine ⟨.ref p3, rfl, DGet.k (k := .inr "crossing") upd_same, q _ p3 sm ?_ ?_⟩
      · cases e : H p3 with
        | none => rfl
        | some o => rw [same_new n2 _ _ (same_new n1 _ _ (same_new np _ _ e))] at n3; cases n3
      · rw [upd_ne d3.symm]; exact upd_same
end
end Rd
set_option maxHeartbeats 4000000
namespace Rd
open PySem PySem.Spec PyProof.Rows L2 L2H HotX
/-! ## the law's ways and sections -/
section
variable {P : Program} {w : World} {K : PySem.W.Frag} {mg : Str → Option Value} {base : Heap}
def gateOf (k g : Str) : Prop := (k = "plain" ∧ (g = "a" ∨ g = "b")) ∨ (k = "point" ∧ (g = "left" ∨ g = "right" ∨ g = "stem")) ∨ (k = "crossing" ∧ (g = "a" ∨ g = "b" ∨ g = "c" ∨ g = "d"))
def waySh (zs : List (Str × Str)) : Sh := .l (zs.map fun z => .t [.c (.str z.1), .c (.str z.2)])
def spLWays : Sp := fun vs H Q _ => ∃ (k g : Str) (b : Addr), vs = [.str k, .str g] ∧ gateOf k g ∧ (∃ o, H b = some o) ∧ ∀ H' v, Same H H' → (∃ p, v = .ref p ∧ H p = none) → Is b H' (waySh (rawOf k (.str g))) v → Q v H'
theorem one_way {b p q : Addr} {H : Hp} {x y : Str} {o : HO} (hb : H b = some o) (np : H p = none) (nq : upd H p (.tup [.str x, .str y]) q = none) :
    Same H (upd (upd H p (.tup [.str x, .str y])) q (.lst [.ref p])) ∧ Is b (upd (upd H p (.tup [.str x, .str y])) q (.lst [.ref p])) (waySh [(x, y)]) (.ref q) := by
  have pq : p ≠ q := ne_of_none upd_same nq
  have bp : p ≠ b := (ne_of_none hb np).symm
  have bq : q ≠ b := (ne_of_none (same_new np _ _ hb) nq).symm
  exact ⟨(same_new np).trans (same_new nq), q, [.ref p], rfl, bq, upd_same, .ref p, [], rfl, ⟨p, _, rfl, bp, by rw [upd_ne pq]; exact upd_same, _, _, rfl, rfl, _, _, rfl, rfl, rfl⟩, rfl⟩
def tabK : List (Key × V) := [(.inr "a", .str "b"), (.inr "b", .str "a"), (.inr "c", .str "d"), (.inr "d", .str "c")]
theorem way_tab {D : Ends} {H : Hp} {k g y : Str} {b : Addr} {o : HO} (hb : H b = some o) (hv : valV tabK (.inr g) = some (.str y)) (q : ∀ H' v, Same H H' → (∃ p, v = .ref p ∧ H p = none) → Is b H' (waySh [(y, "")]) v → D.rt v H') :
    tSeq (tAsg (tDisp [(tC (.str "a"), tC (.str "b")), (tC (.str "b"), tC (.str "a")), (tC (.str "c"), tC (.str "d")), (tC (.str "d"), tC (.str "c"))]) (gName 2))
      (tRet (tLst (tCons (tTup (tCons (tDGet (tVar 2) (tVar 1)) (tCons (tC (.str "")) tNil))) tNil))) D (L2.start ["_law_kind", "_law_gate", "_law_table"] [.str k, .str g]) H := by
  intro t nt
  refine ⟨upd_same, tabK, rfl, by decide, .ref t, rfl, .str g, rfl, t, .str y, rfl, by rw [← hv, show mergeK [] tabK = tabK from rfl]; exact DGet.k (k := .inr g) upd_same, by show 2 ≤ sizeLine; decide, fun p np => ⟨by show 1 ≤ sizeLine; decide, fun q' nq => ?_⟩⟩
  have sm : Same H (upd (upd H t (.dK [])) t (.dK (mergeK [] tabK))) := fun a u e => by
    have a0 : a ≠ t := ne_of_none e nt
    rw [upd_ne a0, upd_ne a0]
    exact e
  obtain ⟨s1, i1⟩ := one_way (sm _ _ hb) np nq
  exact q _ _ (sm.trans s1) ⟨_, rfl, sm.free ((same_new np).free nq)⟩ i1
theorem ok_law_ways (T : Txt K mg) : FnOk P w K mg base CX0 1 T.d__law_ways.f T.d__law_ways.fd ["_law_kind", "_law_gate"] spLWays := by
  refine T.d__law_ways.F.ok sc_law_ways (fun vs H Q E h => ?_) (fun cdv A outer s H vs Q E hr h => ?_)
  · obtain ⟨k, g, b, rfl, _⟩ := h
    rfl
  · obtain ⟨k, g, b, rfl, hg, ⟨o, hb⟩, q⟩ := h
    refine ⟨_, (pss_cons (ps_if (pt_cmpR op_eq (pv 0) pe_str (nomark _)) (pss_one (ps_ret (pe_ifExp (pt_cmpR op_eq (pv 1) pe_str (nomark _)) (pe_lst (pa_cons (pe_tup (pa_cons pe_str (pa_cons pe_str pa_nil))) (pa_cons (pe_tup (pa_cons pe_str (pa_cons pe_str pa_nil))) pa_nil))) (pe_lst (pa_cons (pe_tup (pa_cons pe_str (pa_cons (pv 1) pa_nil))) pa_nil))))) pss_nil)
      (pss_cons (ps_set (i := 2) sc_law_ways.nd rfl (Or.inl rfl) (pe_disp (pps_cons pe_str pe_str (pps_cons pe_str pe_str (pps_cons pe_str pe_str (pps_cons pe_str pe_str pps_nil)))) rfl rfl (by simp) (by decide)))
      (pss_one (ps_ret (pe_lst (pa_cons (pe_tup (pa_cons (pe_dget hr.dict (pv 2) (pv 1) (fun _ _ => rfl)) (pa_cons pe_str pa_nil))) pa_nil)))))), ?_⟩
    refine ⟨.str k, rfl, rfl, _, rfl, ?_⟩
    have lst : ∀ {x y z : Str} (e : rawOf k (.str g) = [(x, y)]), z = x → y = "" ∨ True → ∀ p q', H p = none → upd H p (.tup [.str x, .str y]) q' = none → Q (.ref q') (upd (upd H p (.tup [.str x, .str y])) q' (.lst [.ref p])) := fun {x y z} e _ _ p q' np nq => by
      obtain ⟨s1, i1⟩ := one_way hb np nq
      exact q _ _ s1 ⟨_, rfl, (same_new np).free nq⟩ (by rw [e]; exact i1)
    rcases hg with ⟨rfl, h⟩ | ⟨rfl, h⟩ | ⟨rfl, h⟩
    · have e1 : decide (V.str "plain" = V.str "point") = false := by decide +kernel
      rw [e1]
      refine iteF ?_
      rcases h with rfl | rfl
      · exact way_tab hb (y := "b") (by decide +kernel) fun H' v s' f' i' => q H' v s' f' (by rw [show rawOf "plain" (.str "a") = ([("b", "")] : List (Str × Str)) from by decide +kernel]; exact i')
      · exact way_tab hb (y := "a") (by decide +kernel) fun H' v s' f' i' => q H' v s' f' (by rw [show rawOf "plain" (.str "b") = ([("a", "")] : List (Str × Str)) from by decide +kernel]; exact i')
    · have e1 : decide (V.str "point" = V.str "point") = true := by decide +kernel
      rw [e1]
      refine iteT ⟨.str g, rfl, rfl, _, rfl, ?_⟩
      rcases h with rfl | rfl | rfl
      · have e2 : decide (V.str "left" = V.str "stem") = false := by decide +kernel
        rw [e2]
        refine iteF ⟨.str "left", rfl, by show 2 ≤ sizeLine; decide, fun p np => ⟨by show 1 ≤ sizeLine; decide, fun q' nq => ?_⟩⟩
        exact lst (x := "stem") (y := "left") (z := "stem") (by decide +kernel) rfl (.inr trivial) p q' np nq
      · have e2 : decide (V.str "right" = V.str "stem") = false := by decide +kernel
        rw [e2]
        refine iteF ⟨.str "right", rfl, by show 2 ≤ sizeLine; decide, fun p np => ⟨by show 1 ≤ sizeLine; decide, fun q' nq => ?_⟩⟩
        exact lst (x := "stem") (y := "right") (z := "stem") (by decide +kernel) rfl (.inr trivial) p q' np nq
      · have e2 : decide (V.str "stem" = V.str "stem") = true := by decide +kernel
        rw [e2]
        refine iteT ⟨by show 2 ≤ sizeLine; decide, fun p np => ⟨by show 2 ≤ sizeLine; decide, fun p2 np2 => ⟨by show 2 ≤ sizeLine; decide, fun q' nq => ?_⟩⟩⟩
        have pp : p ≠ p2 := ne_of_none upd_same np2
        have e3 : upd (upd H p (.tup [.str "left", .str "left"])) p2 (.tup [.str "right", .str "right"]) p = some (.tup [.str "left", .str "left"]) := by rw [upd_ne pp]; exact upd_same
        have pq : p ≠ q' := ne_of_none e3 nq
        have pq2 : p2 ≠ q' := ne_of_none upd_same nq
        have s2 := (same_new (o := .tup [.str "left", .str "left"]) np).trans (same_new (o := .tup [.str "right", .str "right"]) np2)
        refine q _ _ (s2.trans (same_new nq)) ⟨_, rfl, s2.free nq⟩ ?_
        rw [show rawOf "point" (.str "stem") = ([("left", "left"), ("right", "right")] : List (Str × Str)) from by decide +kernel]
        exact ⟨q', _, rfl, (ne_of_none (s2 _ _ hb) nq).symm, upd_same, _, _, rfl, ⟨p, _, rfl, (ne_of_none hb np).symm, by rw [upd_ne pq]; exact e3, _, _, rfl, rfl, _, _, rfl, rfl, rfl⟩, _, _, rfl, ⟨p2, _, rfl, (ne_of_none (same_new np _ _ hb) np2).symm, by rw [upd_ne pq2]; exact upd_same, _, _, rfl, rfl, _, _, rfl, rfl, rfl⟩, rfl⟩
    · have e1 : decide (V.str "crossing" = V.str "point") = false := by decide +kernel
      rw [e1]
      refine iteF ?_
      rcases h with rfl | rfl | rfl | rfl
      · exact way_tab hb (y := "b") (by decide +kernel) fun H' v s' f' i' => q H' v s' f' (by rw [show rawOf "crossing" (.str "a") = ([("b", "")] : List (Str × Str)) from by decide +kernel]; exact i')
      · exact way_tab hb (y := "a") (by decide +kernel) fun H' v s' f' i' => q H' v s' f' (by rw [show rawOf "crossing" (.str "b") = ([("a", "")] : List (Str × Str)) from by decide +kernel]; exact i')
      · exact way_tab hb (y := "d") (by decide +kernel) fun H' v s' f' i' => q H' v s' f' (by rw [show rawOf "crossing" (.str "c") = ([("d", "")] : List (Str × Str)) from by decide +kernel]; exact i')
      · exact way_tab hb (y := "c") (by decide +kernel) fun H' v s' f' i' => q H' v s' f' (by rw [show rawOf "crossing" (.str "d") = ([("c", "")] : List (Str × Str)) from by decide +kernel]; exact i')
/-! ### sections made -/
def clsOf (T : Txt K mg) (k : Str) : Addr := if k = "plain" then T.aPlain else if k = "point" then T.aPoint else T.aCrossing
theorem goodName {z : Str} (h : isNm (.str z) = true) : z.length ≤ 6 := by
  rw [isNm_str, Bool.and_eq_true, Bool.and_eq_true] at h
  exact of_decide_eq_true h.1.2
/-- a section is made: it stands at a new address -/
theorem e_make {T : Txt K mg} {C b : Addr} {tr : TA} {σ : L2.St} {H0 : Hp} {n : Str} {i : Int} (hC : T.S C) (h : EvN b tr σ H0 [.c (.str n), .c (.int i)]) (hn : isNm (.str n) = true) (hi : isNum (.int i) 1 50 = true) :
    Ev1 b (tMake C (spSInit T) [] E0 tr) σ H0 (.n C (secF (.str n) (.int i))) := fun H g Q q =>
  h H g _ fun vs H1 g1 i1 => by
    obtain ⟨v, w, rfl, e1, e2⟩ := is2 i1
    rw [show v = _ from e1, show w = _ from e2]
    intro x dx nx ndx hne
    have nx1 : upd H1 dx (.own x) x = none := by rw [upd_ne (Ne.symm hne)]; exact nx
    have s1 : Same H1 (upd (upd H1 dx (.own x)) x (.ins C dx [])) := (same_new ndx).trans (same_new nx1)
    refine ⟨x, C, dx, .str n, .int i, _, _, rfl, hC, upd_same, .sc rfl, .sc rfl, fun z e => by cases e; exact Nat.le_trans (goodName hn) (by decide), fun _ _ H' k e => ⟨rfl, ?_⟩, fun e => ?_, fun _ e => ?_⟩
    · have s2 : Same H1 H' := fun a o e' => k a o (ne_of_none e' nx) (s1 _ _ e')
      exact q _ H' (g1.same s2) ⟨x, dx, rfl, g1.1.ne nx, e⟩
    · rw [hn] at e; cases e
    · rw [hi] at e; cases e
def spLSec (T : Txt K mg) : Sp := fun vs H Q _ => ∃ (b : Addr) (k n : Str) (i : Int), vs = [.str k, .str n, .int i] ∧ Bag H b ∧ (k = "plain" ∨ k = "point" ∨ k = "crossing") ∧ isNm (.str n) = true ∧ isNum (.int i) 1 50 = true ∧
  ∀ v H', Go b H H' → Is b H' (.n (clsOf T k) (secF (.str n) (.int i))) v → Q v H'
theorem ok_law_section (T : Txt K mg) : FnOk P w K mg base CX0 5 T.d__law_section.f T.d__law_section.fd ["_law_kind", "_law_word", "_law_size"] (spLSec T) := by
  refine T.d__law_section.F.ok sc_law_section (fun vs H Q E h => ?_) (fun cdv A outer s H vs Q E hr h => ?_)
  · obtain ⟨b, k, n, i, rfl, _⟩ := h
    rfl
  · obtain ⟨b, k, n, i, rfl, hB, hk, hn, hi, q⟩ := h
    refine ⟨_, (pss_cons (ps_if (pt_cmpR op_eq (pv 0) pe_str (nomark _)) (pss_one (ps_ret (pe_make T.kPlain.made (ok_init T) (hr.mono (by decide)) (by rfl) T.c_Plain T.m_init.b .nil passLN (pa_cons (pv 1) (pa_cons (pv 2) pa_nil))))) pss_nil)
      (pss_one (ps_ret (pe_ifExp (pt_cmpR op_eq (pv 0) pe_str (nomark _)) (pe_make T.kPoint.made (ok_init T) (hr.mono (by decide)) (by rfl) T.c_Point T.m_init.b .nil passLN (pa_cons (pv 1) (pa_cons (pv 2) pa_nil))) (pe_make T.kCrossing.made (ok_init T) (hr.mono (by decide)) (by rfl) T.c_Crossing T.m_init.b .nil passLN (pa_cons (pv 1) (pa_cons (pv 2) pa_nil))))))), ?_⟩
    have mk : ∀ C, T.S C → ∀ Q' : VK, (∀ v H', Go b H H' → Is b H' (.n C (secF (.str n) (.int i))) v → Q' v H') → tMake C (spSInit T) [] E0 (tCons (tVar 1) (tCons (tVar 2) tNil)) (L2.start N_law_section [.str k, .str n, .int i]) H Q' := fun C hC Q' q' =>
      e_make hC (n_cons (e_var rfl rfl) (n_cons (e_var rfl rfl) n_nil)) hn hi H (Go.refl hB) Q' q'
    refine ⟨.str k, rfl, rfl, _, rfl, ?_⟩
    rcases hk with rfl | rfl | rfl
    · have e1 : decide (V.str "plain" = V.str "plain") = true := by decide +kernel
      rw [e1]
      exact iteT (mk T.aPlain (.inr (.inl rfl)) _ fun v H' g' i' => q v H' g' i')
    · have e1 : decide (V.str "point" = V.str "plain") = false := by decide +kernel
      have e2 : decide (V.str "point" = V.str "point") = true := by decide +kernel
      rw [e1]
      refine iteF ⟨.str "point", rfl, rfl, _, rfl, ?_⟩
      rw [e2]
      exact iteT (mk T.aPoint (.inr (.inr (.inl rfl))) _ fun v H' g' i' => q v H' g' i')
    · have e1 : decide (V.str "crossing" = V.str "plain") = false := by decide +kernel
      have e2 : decide (V.str "crossing" = V.str "point") = false := by decide +kernel
      rw [e1]
      refine iteF ⟨.str "crossing", rfl, rfl, _, rfl, ?_⟩
      rw [e2]
      exact iteF (mk T.aCrossing (.inr (.inr (.inr rfl))) _ fun v H' g' i' => q v H' g' i')
end
end Rd
set_option maxHeartbeats 4000000
namespace Rd
open PySem PySem.Spec PyProof.Rows L2 L2H HotX
/-! ## a lambda that makes a section, and is refused -/
theorem MD0.kw {K : PySem.W.Frag} {m qual : Str} {st : Stmt} {ps : List Str} (D : MD0 K m qual st ps) (ks : List Str)
    (h : ∀ (kV doc pm : Value) (an : Option Addr) (cdv ct : Value) (us ws : List Value), us.length = 1 → ws.length = ks.length → bindArgs (PySem.W.fnOf m qual (defArgs st) (defBody st) (defScope st) .none kV doc pm an cdv ct) ⟨us, ks.zip ws⟩ = pure (ps.zip (us ++ ws.reverse))) :
    KBn K D.fd ps 1 ks (fun us ws => us ++ ws.reverse) (fun vs zs => vs ++ zs.reverse) where
  to := fun s us ws _ l1 l2 => by
    obtain ⟨oc, od, kV, doc, pm, an, cdv, ct, osl, e, lk, hcd⟩ := D.F.ex
    rw [e]
    exact .of_eq (h kV doc pm an cdv ct us ws l1 l2)
  rel := fun r rz => r.append (vals_rev rz)
theorem kb_init {K : PySem.W.Frag} {mg : Str → Option Value} (T : Txt K mg) : KBn K T.m_init.fd ["self", "name", "length"] 1 ["length", "name"] (fun us ws => us ++ ws.reverse) (fun vs zs => vs ++ zs.reverse) :=
  T.m_init.kw ["length", "name"] fun _ _ _ _ _ _ us ws l1 l2 => match us, ws, l1, l2 with | [_], [_, _], _, _ => rfl
theorem kb_ways {K : PySem.W.Frag} {mg : Str → Option Value} (T : Txt K mg) : KBn K T.m_ways.fd ["self", "side"] 1 ["side"] (fun us ws => us ++ ws.reverse) (fun vs zs => vs ++ zs.reverse) :=
  T.m_ways.kw ["side"] fun _ _ _ _ _ _ us ws l1 l2 => match us, ws, l1, l2 with | [_], [_], _, _ => rfl
/-- a plain value: a constant, a list, a tuple -/
def Pl (H : Hp) (v : V) : Prop := isSc v = true ∨ (∃ a xs, v = .ref a ∧ H a = some (.lst xs)) ∨ ∃ a xs, v = .ref a ∧ H a = some (.tup xs)
theorem Pl.kd {K : PySem.W.Frag} {H : Hp} {v : V} (h : Pl H v) : ∃ t, Kd K H v t := by
  rcases h with h | ⟨a, xs, rfl, h⟩ | ⟨a, xs, rfl, h⟩
  · exact ⟨_, .sc h⟩
  · exact ⟨_, .lst (SqL.of h)⟩
  · exact ⟨_, .tup (SqT.of h)⟩
theorem Pl.same {H H' : Hp} {v : V} (h : Pl H v) (s : Same H H') : Pl H' v := by
  rcases h with h | ⟨a, xs, e, h⟩ | ⟨a, xs, e, h⟩
  · exact .inl h
  · exact .inr (.inl ⟨a, xs, e, s _ _ h⟩)
  · exact .inr (.inr ⟨a, xs, e, s _ _ h⟩)
theorem Pl.off {H : Hp} {v : V} {cs : List Addr} (h : Pl H v) (z : FzC H cs) : Pl (offC H cs) v := by
  rcases h with h | ⟨a, xs, e, h⟩ | ⟨a, xs, e, h⟩
  · exact .inl h
  · exact .inr (.inl ⟨a, xs, e, by rw [offC_out fun m => by obtain ⟨oc, e2⟩ := z a m; rw [h] at e2; cases e2]; exact h⟩)
  · exact .inr (.inr ⟨a, xs, e, by rw [offC_out fun m => by obtain ⟨oc, e2⟩ := z a m; rw [h] at e2; cases e2]; exact h⟩)
/-- what is refused, and why -/
def Bad (x y : V) (code : Str) (v : V) : Prop := (isNm x = false ∧ code = "InvalidName" ∧ v = x) ∨ (isNm x = true ∧ isNum y 1 50 = false ∧ code = "InvalidNumber" ∧ v = y)
section
variable {P : Program} {w : World} {K : PySem.W.Frag} {mg : Str → Option Value} {base : Heap}
theorem lam_raises (T : Txt K mg) {k : Nat} {env : Env} {N : List Str} {σ : L2.St} {Hz : Hp} (z : FzVal env N σ Hz) (inj : ∀ x y c, env.cells.lookup x = some c → env.cells.lookup y = some c → x = y)
    {f : Addr} {q : Str} {params : Arguments} {body : Expr} {scope : Scope} {ds : List V} (hL : LamAt Hz f q params body scope (cloFrom env.cells scope.names []) ds)
    (hfree : ∀ y ∈ scope.names, y.2 = .free → ∃ c, env.cells.lookup y.1 = some c) {Nl ps : List Str} {σl : L2.St} (S : LScope Nl ps scope)
    (hval : ∀ (i : Nat) (x : Str) (v : V), Nl[i]? = some x → σl[i]? = some (some v) → ∃ j : Nat, N[j]? = some x ∧ σ[j]? = some (some v) ∧ env.scope.names.lookup x = some .cell) (hlen : σl.length = Nl.length)
    (hb0 : ds = [] → ps = [] ∧ ∀ doc pm cv ctv, bindArgs (PySem.W.kdv_fn "<lambda>" q params (.expr body) scope (cloFrom env.cells scope.names []) .none doc pm cv ctv) ⟨[], []⟩ = pure [])
    (hb1 : ds ≠ [] → ∀ (A : Addr) doc pm cv ctv (its : List Value), its.length = ds.length → ∃ kk, bindArgs (PySem.W.kdv_fn "<lambda>" q params (.expr body) scope (cloFrom env.cells scope.names []) (.ref A) doc pm cv ctv) ⟨[], []⟩ = seqItems? (.ref A) >>= kk ∧ kk (some its.toArray) = pure (ps.zip its))
    {tb : XK → TE} (hbody : ∀ (c' : Addr) (A : Around) (outer : List Env) (s : Shared) (H' : Hp) (E : XK), Room k (lCx P w K mg base Nl q scope (cloFrom env.cells scope.names []) f c' A outer s H' E).A → PE (lCx P w K mg base Nl q scope (cloFrom env.cells scope.names []) f c' A outer s H' E) body (tb E))
    {C : Addr} {x y v : V} {code : Str} (hC : T.S C) (htb : ∀ (E : XK) (H : Hp) (Q : VK), (∀ a dx, H a = none → H dx = none → dx ≠ a → spSInit T [.ref a, x, y] (upd (upd H dx (.own a)) a (.ins C dx [])) (fun v H2 => v = .non ∧ Q (.ref a) H2) E) → tb E σl H Q)
    (px : Pl Hz x) (py : Pl Hz y) (sx : ∀ u, x = .str u → u.length ≤ 1000) (hbad : Bad x y code v) : Raises P w K mg base T (k + 1) Hz code v f := by
  have cm : ∀ {n c}, (cloFrom env.cells scope.names []).lookup n = some c → env.cells.lookup n = some c := fun e => NdefX.clo_cm hfree e
  have cell : ∀ p ∈ cloFrom env.cells scope.names [], ∃ oc u, Hz p.2 = some (.frz oc (.own p.2)) ∧ oc.data = .cell u := fun p hp => by
    obtain ⟨n, c⟩ := p
    rcases cloFrom_mem hp with h | ⟨h1, h2⟩
    · cases h
    · obtain ⟨c2, h3⟩ := hfree _ h1 rfl
      have h3 : env.cells.lookup n = some c2 := h3
      rw [h3] at h2
      have h2 : c = c2 := h2
      subst h2
      exact z.cell n c h3
  refine ⟨hL.is, fun H1 Q' E' => Same Hz H1 ∧ ∀ cls d H2, Same H1 H2 → ErrOf T cls d H2 code v → E' cls d H2, ?_, fun H1 Q' E' s h => ⟨s, h⟩⟩
  refine lam_act (N := Nl) (ps := ps) (σ := σl) (tb := tb) hL S (fun a b c h1 h2 => inj a b c (cm h1) (cm h2)) (fun n hn hf => ?_) cell (fun i n u h1 h2 h3 => ?_) hlen hb0 hb1 hbody (fun H1 Q E kp ⟨s1, h⟩ => ?_)
  · obtain ⟨c, e⟩ := hfree n hn hf
    exact ⟨c, NdefX.clo_has hfree (by obtain ⟨a, b⟩ := n; cases hf; exact hn) e⟩
  · obtain ⟨j, j1, j2, j3⟩ := hval i n u h1 h2
    obtain ⟨c, e⟩ := hfree _ (PySem.mem_of_lookup h3) rfl
    obtain ⟨oc, u', e1, e2, e3⟩ := z.val j n u c j1 j2 j3 e
    exact ⟨c, oc, u', NdefX.clo_has hfree (PySem.mem_of_lookup h3) e, e1, e2, e3⟩
  · have fz : FzC H1 ((cloFrom env.cells scope.names []).map (·.2)) := fun c hc => by
      obtain ⟨p, hp, e⟩ := List.mem_map.mp hc
      subst e
      obtain ⟨oc, u, e1, _⟩ := cell p hp
      exact ⟨oc, s1 _ _ e1⟩
    refine htb _ _ _ fun a dx na nd hne => ?_
    have na1 : upd (offC H1 ((cloFrom env.cells scope.names []).map (·.2))) dx (.own a) a = none := by rw [upd_ne (Ne.symm hne)]; exact na
    have sm : Same (offC H1 ((cloFrom env.cells scope.names []).map (·.2))) (upd (upd (offC H1 ((cloFrom env.cells scope.names []).map (·.2))) dx (.own a)) a (.ins C dx [])) := (same_new nd).trans (same_new na1)
    obtain ⟨tx, kx⟩ := (((px.same s1).off fz).same sm).kd (K := K)
    obtain ⟨ty, ky⟩ := (((py.same s1).off fz).same sm).kd (K := K)
    have fin : ∀ (cls : Value) (e : Addr) (H2 : Hp), Same (upd (upd (offC H1 ((cloFrom env.cells scope.names []).map (·.2))) dx (.own a)) a (.ins C dx [])) H2 → H2 e = some (.xd (exF ["value"] code [v])) → ((cls = .ref T.x_InvalidName.C ∧ code = "InvalidName") ∨ (cls = .ref T.x_InvalidNumber.C ∧ code = "InvalidNumber")) →
        (∀ c ∈ (cloFrom env.cells scope.names []).map (·.2), H2 c = none) → E cls (some e) (mixC H1 H2 ((cloFrom env.cells scope.names []).map (·.2))) := fun cls e H2 s2 he hcl hn => by
      refine h cls (some e) _ (fun b o hb => ?_) ⟨e, rfl, ?_, hcl⟩
      · by_cases m : b ∈ (cloFrom env.cells scope.names []).map (·.2)
        · rw [mixC_in m]; exact hb
        · rw [mixC_out m]; exact s2 _ _ (sm _ _ (by rw [offC_out m]; exact hb))
      · rw [mixC_out fun m => by rw [hn e m] at he; cases he]
        exact he
    refine ⟨a, C, dx, x, y, tx, ty, rfl, hC, upd_same, kx, ky, sx, fun e1 e2 => ?_, fun e1 e H2 s2 he => ?_, fun e1 e2 e H2 s2 he => ?_⟩
    · rcases hbad with ⟨e, _⟩ | ⟨_, e, _⟩
      · rw [e1] at e; cases e
      · rw [e2] at e; cases e
    · rcases hbad with ⟨_, rfl, rfl⟩ | ⟨e', _⟩
      · exact fin _ e H2 s2 he (.inl ⟨rfl, rfl⟩)
      · rw [e1] at e'; cases e'
    · rcases hbad with ⟨e', _⟩ | ⟨_, _, rfl, rfl⟩
      · rw [e1] at e'; cases e'
      · exact fin _ e H2 s2 he (.inr ⟨rfl, rfl⟩)
end
end Rd
set_option maxHeartbeats 4000000
namespace Rd
open PySem PySem.Spec PyProof.Rows L2 L2H HotX
/-! ## the law's refusals: lambdas in a list -/
theorem free_ok {names : List (Str × NameKind)} {sc : Scope} {n : Nat} (h : (names.all fun y => match y.2 with | .free => decide (sc.names.lookup y.1 = some .cell) | _ => true) = true) : ∀ y ∈ names, y.2 = .free → ∃ c, (cellsFrom n sc.names []).lookup y.1 = some c := fun y hy hf => by
  have a := List.all_eq_true.mp h y hy
  rw [hf] at a
  exact cell_has (of_decide_eq_true a)
theorem cells_pw : ∀ (names : List (Str × NameKind)) (n : Nat) (acc : List (Str × Addr)), (∀ p ∈ acc, p.2 < n) → (acc.Pairwise fun x y => x.2 ≠ y.2) → (cellsFrom n names acc).Pairwise fun x y => x.2 ≠ y.2
  | [], _, _, _, h => h
  | (name, kind) :: r, n, acc, l, h => by
    unfold cellsFrom
    split
    · refine cells_pw r (n + 1) ((name, n) :: acc) (fun p hp => ?_) (List.pairwise_cons.mpr ⟨fun y hy => Nat.ne_of_gt (l y hy), h⟩)
      rcases List.mem_cons.mp hp with rfl | hp
      · exact Nat.lt_succ_self _
      · exact Nat.lt_succ_of_lt (l p hp)
    · exact cells_pw r n acc l h
theorem cells_inj {names : List (Str × NameKind)} {n : Nat} (x y : Str) (c : Addr) (h1 : (cellsFrom n names []).lookup x = some c) (h2 : (cellsFrom n names []).lookup y = some c) : x = y :=
  PySem.name_of_addr (cells_pw names n [] (fun p hp => by cases hp) .nil) (PySem.mem_of_lookup h1) (PySem.mem_of_lookup h2)
theorem FzOf.same {H Hz : Hp} {cs : List Addr} (z : FzOf H Hz cs) : Same H Hz := fun b o e => by
  rw [z.out b fun m => by rw [z.non b m] at e; cases e]
  exact e
theorem FzOf.back {H Hz H' : Hp} {cs : List Addr} (z : FzOf H Hz cs) (s : Same Hz H') : Same H (offC H' cs) := fun b o e => by
  have m : b ∉ cs := fun m => by rw [z.non b m] at e; cases e
  rw [offC_out m]
  exact s _ _ (z.same _ _ e)
/-- what is new beside the cells is no cell -/
theorem FzOf.kept {H Hz H' : Hp} {cs : List Addr} (z : FzOf H Hz cs) (s : Same Hz H') {b : Addr} {o : HO} (e : H' b = some o) (n : ∀ oc u, o ≠ .frz oc u) : offC H' cs b = some o := by
  rw [offC_out fun m => by
    obtain ⟨oc, e2⟩ := z.fz b m
    rw [s _ _ e2] at e
    cases e
    exact n _ _ rfl]
  exact e
theorem TabF.go {H H' : Hp} {b Pt : Addr} {q : Str} (hB : Bag H b) (g : Go b H H') (t : TabF H Pt q) : TabF H' Pt q := by
  obtain ⟨xs, eb⟩ := hB.some
  obtain ⟨ps, e1, e2, e3⟩ := t
  refine ⟨ps, g.2 _ _ (fun z => by rw [z, eb] at e1; cases e1) e1, e2, fun pos cv h => ?_⟩
  obtain ⟨c, u, a1, a2, a3⟩ := e3 pos cv h
  refine ⟨c, u, a1, g.2 _ _ (fun z => ?_) a2, a3⟩
  obtain ⟨oc, vs, t, e, _⟩ := a3
  rw [z, eb] at a2
  cases a2
  cases e
/-- the values of a lambda's names -/
theorem hval2 {N : List Str} {σ : L2.St} {sc : Scope} {x0 x1 : Str} {v0 v1 : V} (j0 j1 : Nat) (a0 : N[j0]? = some x0) (b0 : σ[j0]? = some (some v0)) (c0 : sc.names.lookup x0 = some .cell) (a1 : N[j1]? = some x1) (b1 : σ[j1]? = some (some v1)) (c1 : sc.names.lookup x1 = some .cell) :
    ∀ (i : Nat) (x : Str) (v : V), ([x0, x1] : List Str)[i]? = some x → ([some v0, some v1] : L2.St)[i]? = some (some v) → ∃ j : Nat, N[j]? = some x ∧ σ[j]? = some (some v) ∧ sc.names.lookup x = some .cell
  | 0, x, v, h1, h2 => by cases h1; cases h2; exact ⟨j0, a0, b0, c0⟩
  | 1, x, v, h1, h2 => by cases h1; cases h2; exact ⟨j1, a1, b1, c1⟩
  | i + 2, x, v, h1, h2 => by simp at h1
theorem hval1 {N : List Str} {σ : L2.St} {sc : Scope} {x0 : Str} {v0 : V} (j0 : Nat) (a0 : N[j0]? = some x0) (b0 : σ[j0]? = some (some v0)) (c0 : sc.names.lookup x0 = some .cell) :
    ∀ (i : Nat) (x : Str) (v : V), ([x0] : List Str)[i]? = some x → ([some v0] : L2.St)[i]? = some (some v) → ∃ j : Nat, N[j]? = some x ∧ σ[j]? = some (some v) ∧ sc.names.lookup x = some .cell
  | 0, x, v, h1, h2 => by cases h1; cases h2; exact ⟨j0, a0, b0, c0⟩
  | i + 1, x, v, h1, h2 => by simp at h1
/-! ### odd names and bad numbers -/
def shortB : V → Bool
  | .str z => decide (z.length ≤ 1000)
  | _ => true
def okSh (p : V → Bool) : Sh → Bool
  | .c x => isSc x && p x && shortB x
  | .l _ => true
  | .t _ => true
  | _ => false
theorem okSh_val {p : V → Bool} (hp : ∀ a, p (.ref a) = true) {b : Addr} {H : Hp} {s : Sh} {v : V} (h : okSh p s = true) (i : Is b H s v) : p v = true ∧ Pl H v ∧ ∀ z, v = .str z → z.length ≤ 1000 := by
  cases s with
  | c x =>
    rw [show v = x from i]
    have h : (isSc x && p x && shortB x) = true := h
    rw [Bool.and_eq_true, Bool.and_eq_true] at h
    refine ⟨h.1.2, .inl h.1.1, fun z e => ?_⟩
    subst e
    exact of_decide_eq_true h.2
  | l xs => obtain ⟨q, vs, rfl, _, o, _⟩ := i; exact ⟨hp q, .inr (.inl ⟨_, _, rfl, o⟩), fun z e => nomatch e⟩
  | t xs => obtain ⟨q, vs, rfl, _, o, _⟩ := i; exact ⟨hp q, .inr (.inr ⟨_, _, rfl, o⟩), fun z e => nomatch e⟩
  | is q => cases h
  | o xs => cases h
  | n C fs => cases h
def badSh : List Sh := [.c (.int 0), .c (.int 51), .c (.int (-1)), .c .non, .c (.bl true), .c (.bl false), .c (.str "5"), .l [.c (.int 5)], .t [.c (.int 5)], .c (.int (10 ^ Int.toNat 9))]
theorem odd_all : ∀ s ∈ oddSh, okSh (fun v => !isNm v) s = true ∧ det 3 s = true := by
  have h : (oddSh.all fun s => okSh (fun v => !isNm v) s && det 3 s) = true := by decide +kernel
  exact fun s m => by have := List.all_eq_true.mp h s m; rw [Bool.and_eq_true] at this; exact this
theorem bad_all : ∀ s ∈ badSh, okSh (fun v => !isNum v 1 50) s = true ∧ det 3 s = true := by
  have h : (badSh.all fun s => okSh (fun v => !isNum v 1 50) s && det 3 s) = true := by decide +kernel
  exact fun s m => by have := List.all_eq_true.mp h s m; rw [Bool.and_eq_true] at this; exact this
mutual
theorem Is.keepT {b : Addr} {H H' : Hp} (g : ∀ a o, a ≠ b → H a = some o → (∀ ps, o ≠ .tbl ps) → H' a = some o) : ∀ {s : Sh} {v : V}, Is b H s v → Is b H' s v
  | .c x, v, h => h
  | .is p, v, h => h
  | .l xs, v, h => by
    obtain ⟨p, vs, e, n, o, r⟩ := h
    exact ⟨p, vs, e, n, g _ _ n o (fun _ z => by cases z), IsAll.keepT g r⟩
  | .t xs, v, h => by
    obtain ⟨p, vs, e, n, o, r⟩ := h
    exact ⟨p, vs, e, n, g _ _ n o (fun _ z => by cases z), IsAll.keepT g r⟩
  | .o xs, v, h => IsOne.keepT g (show IsOne b H xs v from h)
  | .n C fs, v, h => by
    obtain ⟨a, d, e, n1, o1⟩ := h
    exact ⟨a, d, e, n1, g _ _ n1 o1 (fun _ z => by cases z)⟩
theorem IsAll.keepT {b : Addr} {H H' : Hp} (g : ∀ a o, a ≠ b → H a = some o → (∀ ps, o ≠ .tbl ps) → H' a = some o) : ∀ {ss : List Sh} {vs : List V}, IsAll b H ss vs → IsAll b H' ss vs
  | [], _, h => h
  | _ :: _, _, h => by
    obtain ⟨v, ws, e, r, q⟩ := h
    exact ⟨v, ws, e, Is.keepT g r, IsAll.keepT g q⟩
theorem IsOne.keepT {b : Addr} {H H' : Hp} (g : ∀ a o, a ≠ b → H a = some o → (∀ ps, o ≠ .tbl ps) → H' a = some o) : ∀ {ss : List Sh} {v : V}, IsOne b H ss v → IsOne b H' ss v
  | [], _, h => h
  | _ :: _, _, h => by
    rcases h with h | h
    · exact .inl (Is.keepT g h)
    · exact .inr (IsOne.keepT g h)
end
theorem Bag.keepT {b : Addr} {H H' : Hp} (h : Bag H b) (k : KeepT H H') : Bag H' b := by
  obtain ⟨c, ns, i, r, m, n, e, hc, ec, q⟩ := h
  exact ⟨c, ns, i, r, m, n, k _ _ e (fun _ z => by cases z), hc, k _ _ ec (fun _ z => by cases z), q⟩
theorem ev_use {b : Addr} {te : TE} {σ : L2.St} {H : Hp} {s : Sh} {Q : VK} (h : Ev1 b te σ H s) (hB : Bag H b) (q : ∀ v H', Go b H H' → Is b H' s v → Q v H') : te σ H Q := h H (.refl hB) Q q
/-- what the asks told, by shapes -/
theorem told_all {b : Addr} {H : Hp} {xs : List V} {code : Str} {x : V} {s : Sh} (hb : H b = some (.lst xs)) (i : Is b H s x) : ∀ {us : List V}, (∀ v ∈ us, Told H code x v) → IsAll b H (List.replicate us.length (.t [.c (.str code), .t [s]])) us
  | [], _ => rfl
  | u :: us, h => by
    obtain ⟨t, q, rfl, e1, e2⟩ := h u List.mem_cons_self
    have n1 : t ≠ b := fun z => by rw [z, hb] at e1; cases e1
    have n2 : q ≠ b := fun z => by rw [z, hb] at e2; cases e2
    exact ⟨_, us, rfl, ⟨t, _, rfl, n1, e1, _, _, rfl, rfl, _, _, rfl, ⟨q, _, rfl, n2, e2, x, [], rfl, i, rfl⟩, rfl⟩, told_all hb i fun v m => h v (List.mem_cons_of_mem _ m)⟩
theorem e_rep {b : Addr} {σ : L2.St} {H0 : Hp} {te : TE} {ss : List Sh} {k : Nat} (h : Ev1 b te σ H0 (.l ss)) (l : ss.length * k ≤ 1000) (hk : k ≤ 1000) : Ev1 b (tOp rRep te (tC (.int (k : Nat)))) σ H0 (.l (List.replicate k ss).flatten) := fun H g Q q =>
  h H g _ fun v H1 g1 i1 => by
    obtain ⟨p, vs, rfl, n, o, r⟩ := i1
    refine ⟨p, k, vs, rfl, rfl, o, by omega, by omega, by rw [r.length]; exact Nat.le_of_lt (small1000 l), fun p2 np2 => ?_⟩
    refine q _ _ (g1.new np2) ⟨p2, _, rfl, g1.1.ne np2, upd_same, ?_⟩
    have r2 := r.go ((Go.refl g1.1).new (o := .lst (List.replicate (Int.toNat (k : Nat)) vs).flatten) np2)
    rw [show Int.toNat (k : Nat) = k from rfl] at r2 ⊢
    generalize upd H1 p2 (.lst (List.replicate k vs).flatten) = H2 at r2
    clear q
    induction k with
    | zero => exact rfl
    | succ k ih =>
      rw [List.replicate_succ, List.flatten_cons, List.replicate_succ, List.flatten_cons]
      refine IsAll.append r2 (ih (by rw [Nat.mul_succ] at l; omega) (by omega))
section
variable {P : Program} {w : World} {K : PySem.W.Frag} {mg : Str → Option Value} {base : Heap}
theorem Fun.okC {x qual : Str} {st : Stmt} {f : Addr} {fd : FuncData} {N ps : List Str} {k : Nat} {sp : Sp} (F : L2.Fun K x qual st f fd) (S : FnScope N ps (defScope st)) (len : ∀ vs H Q E, sp vs H Q E → vs.length = ps.length)
    (hbody : ∀ (cdv : Value) (A : Around) (outer : List Env) (s : Shared) (H : Hp) (vs : List V) (Q : VK) (E : XK), fd.code = cdv → Room k (A.deeper (envOfC qual (defScope st) s.heap.objs.size f cdv)) → sp vs H Q E →
      ∃ t, PSs (cxOf CX0 P w K mg base N qual (defScope st) f cdv A outer s H E).nox (defBody st) t ∧ t { nx := fun _ H' => Q .non H', rt := Q } (start N vs) H) : FnOk P w K mg base CX0 (k + 1) f fd ps sp := by
  obtain ⟨oc, od, kV, doc, pm, an, cdv, ct, osl, rfl, lk, hcd⟩ := F.ex
  refine fn_of lk hcd S len fun A outer s H vs Q E hr hsp => ?_
  obtain ⟨t, h, q⟩ := hbody cdv A outer s H vs Q E rfl hr hsp
  exact ⟨t, h.nox, q⟩
abbrev lamQ : Str := "_law_refused_so" ++ ".<locals>." ++ "<lambda>"
/-- from one heap to a later one: all but the bag and tables stands -/
def KeepB (b : Addr) (H H' : Hp) : Prop := ∀ a o, a ≠ b → H a = some o → (∀ ps, o ≠ .tbl ps) → H' a = some o
theorem KeepB.trans {b : Addr} {H H1 H2 : Hp} (a : KeepB b H H1) (c : KeepB b H1 H2) : KeepB b H H2 := fun x o n e t => c x o n (a x o n e t) t
theorem KeepB.go {b : Addr} {H H1 : Hp} (g : Go b H H1) : KeepB b H H1 := fun x o n e _ => g.2 x o n e
theorem KeepB.keepT {b : Addr} {H H1 : Hp} (g : KeepT H H1) : KeepB b H H1 := fun x o _ e t => g x o e t
theorem KeepB.same {b : Addr} {H H1 : Hp} (g : Same H H1) : KeepB b H H1 := fun x o _ e _ => g x o e
theorem det6 {s : Sh} {z : Str} (h : det 3 s = true) : det 6 (.l (List.replicate 4 (.t [.c (.str z), .t [s]]))) = true := by
  simp [det, isSc, h]
theorem keeps_put {H : Hp} {l : Addr} {ys : List V} {o : HO} (e : H l = some (.lst ys)) : Keeps H (upd H l o) :=
  ⟨fun a x u h => by rw [upd_ne (fun z => by rw [z, e] at h; cases h)]; exact h, fun a xs h => by rw [upd_ne (fun z => by rw [z, e] at h; cases h)]; exact h⟩
theorem TabF.put {H : Hp} {l Pt : Addr} {q : Str} {ys : List V} {o : HO} (e : H l = some (.lst ys)) (t : TabF H Pt q) : TabF (upd H l o) Pt q := by
  obtain ⟨ps, e1, e2, e3⟩ := t
  refine ⟨ps, by rw [upd_ne (fun z => by rw [z, e] at e1; cases e1)]; exact e1, e2, fun pos cv h => ?_⟩
  obtain ⟨c, u, a1, a2, a3⟩ := e3 pos cv h
  have nl : c ≠ l := fun z => by
    obtain ⟨oc, vs, t, eu, _⟩ := a3
    rw [z, e] at a2
    cases a2
    cases eu
  exact ⟨c, u, a1, by rw [upd_ne nl]; exact a2, a3⟩
def spRefused (Pt : Addr) : Sp := fun vs H Q _ => ∃ (b : Addr) (z : Str), vs = [.ref b, .str z] ∧ Bag H b ∧ isNm (.str z) = true ∧ TabF H Pt lamQ ∧ ∀ H', Bag H' b → TabF H' Pt lamQ → KeepB b H H' → Q (.bl true) H'
theorem ok_law_refused_so (T : Txt K mg) {ct Pt : Addr} (TB : LamX.TabB base mg ct Pt) (hc : T.d__law_refused_so.fd.code = .ref ct) : FnOk P w K mg base CX0 10 T.d__law_refused_so.f T.d__law_refused_so.fd ["_law_bag_here", "_law_word"] (spRefused Pt) := by
  refine Fun.okC T.d__law_refused_so.F sc_law_refused_so (fun vs H Q E h => ?_) (fun cdv A outer s H vs Q E hcode hr h => ?_)
  · obtain ⟨b, z, rfl, _⟩ := h
    rfl
  · obtain ⟨b, z, rfl, hB, hz, hT, q⟩ := h
    rw [hc] at hcode
    subst hcode
    have hcode : ∀ {X : Cx}, X = (cxOf CX0 P w K mg base N_law_refused_so "_law_refused_so" (defScope s_law_refused_so) T.d__law_refused_so.f (.ref ct) A outer s H E).nox → X.env.code = .ref ct := fun e => by rw [e]; rfl
    have hcode := hcode rfl
    refine ⟨_, (pss_cons (ps_set (i := 4) sc_law_refused_so.nd rfl (Or.inr rfl) (pe_call (ok_law_odd T) (hr.mono (by decide)) (by rfl) T.d__law_odd.g T.d__law_odd.F.kp T.d__law_odd.b .nil pass0 (pa_cons (pv 0) pa_nil)))
      (pss_cons (ps_set (i := 3) sc_law_refused_so.nd rfl (Or.inr rfl) (pe_call (ok_law_ofL T) (hr.mono (by decide)) (by rfl) T.d__law_of.g T.d__law_of.F.kp T.d__law_of.b .nil pass0 (pa_cons (pv 0) (pa_cons (pe_lst (pa_cons pe_int (pa_cons pe_int (pa_cons (pe_un un_neg pe_int) (pa_cons pe_non (pa_cons pe_bl (pa_cons pe_bl (pa_cons pe_str (pa_cons (pe_lst (pa_cons pe_int pa_nil)) (pa_cons (pe_tup (pa_cons pe_int pa_nil)) (pa_cons (pe_op op_pow pe_int pe_int) pa_nil))))))))))) pa_nil))))
      (pss_cons (ps_set (i := 2) sc_law_refused_so.nd rfl (Or.inl rfl) (pe_lst (pa_cons (pe_lam0 TB hcode (fun _ => free_ok rfl)) (pa_cons (pe_lam1 TB hcode (fun _ => free_ok rfl)) (pa_cons (pe_lam1 TB hcode (fun _ => free_ok rfl)) (pa_cons (pe_lam1 TB hcode (fun _ => free_ok rfl)) pa_nil))))))
      (pss_cons (ps_if (pt_not (pt_val (pe_call (ok_law_same T 6) (hr.mono (by decide)) (by rfl) T.d__law_same.g T.d__law_same.F.kp T.d__law_same.b .nil pass0 (pa_cons (pe_callZ (ok_law_tries T 5) (hr.mono (by decide)) (fun _ => rfl) (by rfl) T.d__law_tries.g T.d__law_tries.F.kp T.d__law_tries.b (fun _ _ _ _ _ h => h) (pa_cons (pv 2) pa_nil)) (pa_cons (pe_op op_rep (pe_lst (pa_cons (pe_tup (pa_cons pe_str (pa_cons (pe_tup (pa_cons (pv 4) pa_nil)) pa_nil))) pa_nil)) pe_int) pa_nil))))) (pss_one (ps_ret pe_bl)) pss_nil)
      (pss_cons (ps_set (i := 2) sc_law_refused_so.nd rfl (Or.inl rfl) (pe_lst (pa_cons (pe_lam0 TB hcode (fun _ => free_ok rfl)) (pa_cons (pe_lam1 TB hcode (fun _ => free_ok rfl)) (pa_cons (pe_lam1 TB hcode (fun _ => free_ok rfl)) pa_nil)))))
      (pss_cons (ps_expr (pe_bm PySem.F.plainAttrs_list PySem.F.slot_list_append PySem.F.type_list_append mt_append (pv 2) (pa_cons (pe_lam1 TB hcode (fun _ => free_ok rfl)) pa_nil)))
      (pss_one (ps_ret (pe_call (ok_law_same T 6) (hr.mono (by decide)) (by rfl) T.d__law_same.g T.d__law_same.F.kp T.d__law_same.b .nil pass0 (pa_cons (pe_callZ (ok_law_tries T 5) (hr.mono (by decide)) (fun _ => rfl) (by rfl) T.d__law_tries.g T.d__law_tries.F.kp T.d__law_tries.b (fun _ _ _ _ _ h => h) (pa_cons (pv 2) pa_nil)) (pa_cons (pe_op op_rep (pe_lst (pa_cons (pe_tup (pa_cons pe_str (pa_cons (pe_tup (pa_cons (pv 3) pa_nil)) pa_nil))) pa_nil)) pe_int) pa_nil))))))))))), ?_⟩
    refine ⟨.ref b, rfl, b, rfl, hB, fun vo H1 g1 i1 => ?_⟩
    obtain ⟨so, mo, io⟩ := IsOne.mem i1
    obtain ⟨okO, dO⟩ := odd_all so mo
    refine q_set (b := b) (s := .o badSh) g1.1 (e_ofL (n_cons (e_var rfl rfl) (n_cons (e_lst (n_cons e_c (n_cons e_c (n_cons (e_neg e_c) (n_cons e_c (n_cons e_c (n_cons e_c (n_cons e_c (n_cons (e_lst (n_cons e_c n_nil) (by decide)) (n_cons (e_tup (n_cons e_c n_nil) (by decide)) (n_cons (e_pow e_c e_c ⟨by decide, by decide, by decide⟩) n_nil)))))))))) (by decide)) n_nil)) (by decide) (by decide)) fun vb H2 g2 i2 => ?_
    obtain ⟨nO, pO, lO⟩ := okSh_val (fun _ => rfl) okO (io.go g2)
    obtain ⟨sb, mb, ib⟩ := IsOne.mem i2
    obtain ⟨okB, dB⟩ := bad_all sb mb
    obtain ⟨nB, pB, lB⟩ := okSh_val (fun _ => rfl) okB ib
    have hT2 := (hT.go hB g1).go g1.1 g2
    refine ⟨hT2, fun f0 H3 k3 t3 n3 l3 => ⟨t3, fun f1 H4 k4 t4 n4 l4 => ⟨t4, fun f2 H5 k5 t5 n5 l5 => ⟨t5, fun f3 H6 k6 t6 n6 l6 => ⟨by show 4 ≤ sizeLine; decide, fun la nla => ?_⟩⟩⟩⟩⟩
    have s7 := same_new (o := .lst [.ref f0, .ref f1, .ref f2, .ref f3]) nla
    have e7 : upd H6 la (.lst [.ref f0, .ref f1, .ref f2, .ref f3]) la = some (.lst [.ref f0, .ref f1, .ref f2, .ref f3]) := upd_same
    generalize upd H6 la (.lst [.ref f0, .ref f1, .ref f2, .ref f3]) = H7 at s7 e7
    have k67 : KeepT H6 H7 := fun a o e _ => s7 _ _ e
    have k27 : KeepT H2 H7 := ((k3.trans k4).trans (k5.trans k6)).trans k67
    have t7 := t6.same s7
    have pl : ∀ {v : V} {Ha Hb : Hp}, KeepT Ha Hb → Pl Ha v → Pl Hb v := fun k h => by
      rcases h with h | ⟨a, xs, e, h⟩ | ⟨a, xs, e, h⟩
      · exact .inl h
      · exact .inr (.inl ⟨a, xs, e, k _ _ h fun _ z => by cases z⟩)
      · exact .inr (.inr ⟨a, xs, e, k _ _ h fun _ z => by cases z⟩)
    refine ⟨.ref la, rfl, fun Hz fz fv => ⟨la, [f0, f1, f2, f3], "InvalidName", vo, rfl, fz.same _ _ e7, Nat.le_of_ble_eq_true rfl, fun f hf => ?_, fun H8 p us s8 np ep lu hu => ?_⟩⟩
    · have pz : ∀ {v : V}, Pl H2 v → Pl Hz v := fun h => (pl k27 h).same fz.same
      have pvo : Pl Hz vo := pz pO
      simp only [List.mem_cons, List.not_mem_nil, or_false] at hf
      have nO' : isNm vo = false := by simpa using nO
      rcases hf with rfl | rfl | rfl | rfl
      · refine lam_raises T fv cells_inj (l3.keep ((((k4.trans k5).trans k6).trans k67).keeps.trans (.same fz.same))) (free_ok rfl) (Nl := ["_law_odd_here", "_law_bad"]) (ps := []) (σl := [some vo, some vb]) ⟨rfl, rfl, rfl, by decide +kernel, by decide +kernel, by decide +kernel⟩ (hval2 4 3 rfl rfl rfl rfl rfl rfl) rfl (fun _ => ⟨rfl, fun _ _ _ _ => rfl⟩) (fun h => absurd rfl h)
          (tb := fun E => tMake T.aPlain (spSInit T) [] E (tCons (tVar 0) (tCons (tVar 1) tNil)))
          (fun c' A outer s H' E hr => pe_make T.kPlain.made (ok_init T) hr (by rfl) T.c_Plain T.m_init.b .nil (L2N.passes_call (L2N.takes_of rfl rfl rfl rfl) (fun _ _ _ _ h => h)) (pa_cons (pv 0) (pa_cons (pv 1) pa_nil))) (.inr (.inl rfl)) (fun E H Q h => ⟨vo, rfl, vb, rfl, h⟩) pvo (pz pB) lO (.inl ⟨nO', rfl, rfl⟩)
      · refine lam_raises T fv cells_inj (l4.keep ((((k5.trans k6).trans k67).keeps.trans (.same fz.same)))) (free_ok rfl) (Nl := ["_law_odd_here"]) (ps := ["_law_a"]) (σl := [some vo]) ⟨rfl, rfl, rfl, by decide +kernel, by decide +kernel, by decide +kernel⟩ (hval1 4 rfl rfl rfl) rfl (fun h => nomatch h) (fun _ A doc pm cv ctv its hl => ⟨_, rfl, match its, hl with | [_], _ => rfl⟩)
          (tb := fun E => tMake T.aPoint (spSInit T) [] E (tCons (tVar 0) (tCons (tC (.int 5)) tNil)))
          (fun c' A outer s H' E hr => pe_make T.kPoint.made (ok_init T) hr (by rfl) T.c_Point T.m_init.b .nil (L2N.passes_call (L2N.takes_of rfl rfl rfl rfl) (fun _ _ _ _ h => h)) (pa_cons (pv 0) (pa_cons pe_int pa_nil))) (.inr (.inr (.inl rfl))) (fun E H Q h => ⟨vo, rfl, h⟩) pvo (.inl rfl) lO (.inl ⟨nO', rfl, rfl⟩)
      · refine lam_raises T fv cells_inj (l5.keep (((k6.trans k67).keeps.trans (.same fz.same)))) (free_ok rfl) (Nl := ["_law_odd_here", "_law_bad"]) (ps := ["_law_b"]) (σl := [some vo, some vb]) ⟨rfl, rfl, rfl, by decide +kernel, by decide +kernel, by decide +kernel⟩ (hval2 4 3 rfl rfl rfl rfl rfl rfl) rfl (fun h => nomatch h) (fun _ A doc pm cv ctv its hl => ⟨_, rfl, match its, hl with | [_], _ => rfl⟩)
          (tb := fun E => tMake T.aCrossing (spSInit T) [] E (tCons (tVar 0) (tCons (tVar 1) tNil)))
          (fun c' A outer s H' E hr => pe_make T.kCrossing.made (ok_init T) hr (by rfl) T.c_Crossing T.m_init.b .nil (L2N.passes_call (L2N.takes_of rfl rfl rfl rfl) (fun _ _ _ _ h => h)) (pa_cons (pv 0) (pa_cons (pv 1) pa_nil))) (.inr (.inr (.inr rfl))) (fun E H Q h => ⟨vo, rfl, vb, rfl, h⟩) pvo (pz pB) lO (.inl ⟨nO', rfl, rfl⟩)
      · refine lam_raises T fv cells_inj (l6.keep ((k67.keeps.trans (.same fz.same)))) (free_ok rfl) (Nl := ["_law_odd_here", "_law_bad"]) (ps := ["_law_c"]) (σl := [some vo, some vb]) ⟨rfl, rfl, rfl, by decide +kernel, by decide +kernel, by decide +kernel⟩ (hval2 4 3 rfl rfl rfl rfl rfl rfl) rfl (fun h => nomatch h) (fun _ A doc pm cv ctv its hl => ⟨_, rfl, match its, hl with | [_], _ => rfl⟩)
          (tb := fun E => tMake T.aSection (spSInit T) [] E (tCons (tVar 0) (tCons (tVar 1) tNil)))
          (fun c' A outer s H' E hr => pe_make T.kSection.made (ok_init T) hr (by rfl) T.c_Section T.m_init.b .nil (L2N.passes_call (L2N.takes_of rfl rfl rfl rfl) (fun _ _ _ _ h => h)) (pa_cons (pv 0) (pa_cons (pv 1) pa_nil))) (.inl rfl) (fun E H Q h => ⟨vo, rfl, vb, rfl, h⟩) pvo (pz pB) lO (.inl ⟨nO', rfl, rfl⟩)
    · have s9 := fz.back s8
      have k89 : ∀ a xs, H8 a = some (.tup xs) → offC H8 (cellsOf (cxOf CX0 P w K mg base N_law_refused_so "_law_refused_so" (defScope s_law_refused_so) T.d__law_refused_so.f (.ref ct) A outer s H E).nox.env) a = some (.tup xs) := fun a xs e => fz.kept s8 e fun _ _ z => by cases z
      have ep9 := fz.kept s8 ep fun _ _ z => by cases z
      have hu9 := fun v m => (hu v m).keep k89
      have hB7 := g2.1.keepT k27
      dsimp only
      generalize offC H8 (cellsOf (cxOf CX0 P w K mg base N_law_refused_so "_law_refused_so" (defScope s_law_refused_so) T.d__law_refused_so.f (.ref ct) A outer s H E).nox.env) = H9 at s9 ep9 hu9
      have hB9 := hB7.same s9
      have io9 : Is b H9 so vo := ((io.go g2).keepT fun a o _ e n => k27 a o e n).same s9
      obtain ⟨xb, eb9⟩ := hB9.some
      have pb : p ≠ b := fun z => by
        obtain ⟨xb7, eb7⟩ := hB7.some
        rw [z, fz.same _ _ eb7] at np
        cases np
      have is9 : Is b H9 (.l (List.replicate us.length (.t [.c (.str "InvalidName"), .t [so]]))) (.ref p) := ⟨p, us, rfl, pb, ep9, told_all eb9 io9 hu9⟩
      rw [lu] at is9
      show tOp rRep _ _ _ _ _
      refine ev_use (b := b) (e_rep (k := 4) (ss := [.t [.c (.str "InvalidName"), .t [so]]]) (e_lst (n_cons (e_tup (n_cons e_c (n_cons (e_tup (n_cons (e_var (by rfl) io9) n_nil) (Nat.le_of_ble_eq_true rfl)) n_nil)) (Nat.le_of_ble_eq_true rfl)) n_nil) (Nat.le_of_ble_eq_true rfl)) (Nat.le_of_ble_eq_true rfl) (by decide)) hB9 fun y H10 g10 i10 => ?_
      refine ⟨.ref p, y, rfl, eqv_det (n := 6) (s := .l (List.replicate 4 (.t [.c (.str "InvalidName"), .t [so]]))) ?_ (is9.go g10) i10, fun H11 s11 => ?_⟩
      · exact det6 dO
      · refine ⟨true, rfl, iteF ?_⟩
        have t11 := ((t7.same s9).go hB9 g10).same s11
        have hB11 := g10.1.same s11
        have kb : KeepB b H2 H11 := (((KeepB.keepT k27).trans (.same s9)).trans (.go g10)).trans (.same s11)
        have ib11 : Is b H11 sb vb := ib.keepT kb
        have kb0 : KeepB b H H11 := ((KeepB.go g1).trans (.go g2)).trans kb
        obtain ⟨nB', pB', lB'⟩ := okSh_val (p := fun v => !isNum v 1 50) (fun _ => rfl) okB ib11
        clear i1 i2 l3 l4 l5 l6 fv fz io9 is9 i10 s9 ep9 hu9 hB9 eb9 s8 ep np hu k89
        refine ⟨t11, fun f0 Ha ka ta na la0 => ⟨ta, fun f1 Hb kB tB nB1 lB => ⟨tB, fun f2 Hc kC tC nC lC => ⟨by show 3 ≤ sizeLine; decide, fun lb nlb => ?_⟩⟩⟩⟩
        have nlb11 : ∀ o, H11 lb = some o → (∀ ps, o ≠ .tbl ps) → False := fun o e n => by
          have e2 := kC _ _ (kB _ _ (ka _ _ e n) n) n
          rw [e2] at nlb
          cases nlb
        have sd := same_new (o := .lst [.ref f0, .ref f1, .ref f2]) nlb
        have ed : upd Hc lb (.lst [.ref f0, .ref f1, .ref f2]) lb = some (.lst [.ref f0, .ref f1, .ref f2]) := upd_same
        dsimp only
        generalize upd Hc lb (.lst [.ref f0, .ref f1, .ref f2]) = Hd at sd ed
        have kd : KeepT Hc Hd := fun a o e _ => sd _ _ e
        refine ⟨.ref lb, rfl, .inl ⟨rfl, _, SqL.of ed⟩, tC.same sd, fun f3 He ke tE nE lE => ⟨lb, _, .ref f3, rfl, rfl, ke _ _ ed (fun _ z => by cases z), ?_, ?_⟩⟩
        · exact small1000 (Nat.le_of_ble_eq_true rfl)
        have ee := ke _ _ ed (fun _ z => by cases z)
        have kp : Keeps He (upd He lb (.lst ([.ref f0, .ref f1, .ref f2] ++ [.ref f3]))) := keeps_put ee
        have ef : upd He lb (.lst ([.ref f0, .ref f1, .ref f2] ++ [.ref f3])) lb = some (.lst [.ref f0, .ref f1, .ref f2, .ref f3]) := upd_same
        have tF := tE.put (o := .lst ([.ref f0, .ref f1, .ref f2] ++ [.ref f3])) ee
        have kF : KeepT H11 (upd He lb (.lst ([.ref f0, .ref f1, .ref f2] ++ [.ref f3]))) := fun a o e n => by
          by_cases zz : a = lb
          · subst zz
            exact (nlb11 _ e n).elim
          · rw [upd_ne zz]
            exact ke _ _ (kd _ _ (kC _ _ (kB _ _ (ka _ _ e n) n) n) n) n
        dsimp only
        generalize upd He lb (.lst ([.ref f0, .ref f1, .ref f2] ++ [.ref f3])) = Hf at kp ef tF kF
        have hBf := hB11.keepT kF
        have lw : ∀ u, V.str z = .str u → u.length ≤ 1000 := fun u e => by cases e; exact Nat.le_trans (goodName hz) (by decide)
        have nB'' : isNum vb 1 50 = false := by simpa using nB'
        refine ⟨.ref lb, rfl, fun Hz fz fv => ⟨lb, [f0, f1, f2, f3], "InvalidNumber", vb, rfl, fz.same _ _ ef, Nat.le_of_ble_eq_true rfl, fun f hf => ?_, fun H8 p us s8 np ep lu hu => ?_⟩⟩
        · have pz : ∀ {v : V}, Pl H11 v → Pl Hz v := fun h => (pl kF h).same fz.same
          simp only [List.mem_cons, List.not_mem_nil, or_false] at hf
          rcases hf with rfl | rfl | rfl | rfl
          · refine lam_raises T fv cells_inj (la0.keep ((((kB.trans kC).trans kd).keeps.trans (ke.keeps.trans kp)).trans (.same fz.same))) (free_ok rfl) (Nl := ["_law_word", "_law_bad"]) (ps := []) (σl := [some (.str z), some vb]) ⟨rfl, rfl, rfl, by decide +kernel, by decide +kernel, by decide +kernel⟩ (hval2 1 3 rfl rfl rfl rfl rfl rfl) rfl (fun _ => ⟨rfl, fun _ _ _ _ => rfl⟩) (fun h => absurd rfl h)
              (tb := fun E => tMake T.aPlain (spSInit T) [] E (tCons (tVar 0) (tCons (tVar 1) tNil)))
              (fun c' A outer s H' E hr => pe_make T.kPlain.made (ok_init T) hr (by rfl) T.c_Plain T.m_init.b .nil (L2N.passes_call (L2N.takes_of rfl rfl rfl rfl) (fun _ _ _ _ h => h)) (pa_cons (pv 0) (pa_cons (pv 1) pa_nil))) (.inr (.inl rfl)) (fun E H Q h => ⟨.str z, rfl, vb, rfl, h⟩) (.inl rfl) (pz pB') lw (.inr ⟨hz, nB'', rfl, rfl⟩)
          · refine lam_raises T fv cells_inj (lB.keep (((kC.trans kd).keeps.trans (ke.keeps.trans kp)).trans (.same fz.same))) (free_ok rfl) (Nl := ["_law_word", "_law_bad"]) (ps := ["_law_a"]) (σl := [some (.str z), some vb]) ⟨rfl, rfl, rfl, by decide +kernel, by decide +kernel, by decide +kernel⟩ (hval2 1 3 rfl rfl rfl rfl rfl rfl) rfl (fun h => nomatch h) (fun _ A doc pm cv ctv its hl => ⟨_, rfl, match its, hl with | [_], _ => rfl⟩)
              (tb := fun E => tMakeK T.aPoint 0 2 (spSInit T) (fun vs zs => vs ++ zs.reverse) E tNil (tCons (tVar 1) (tCons (tVar 0) tNil)))
              (fun c' A outer s H' E hr => pe_makeK0 T.kPoint.made (ok_init T) hr (by rfl) T.c_Point (kb_init T) (L2N.passes_call (L2N.takes_of rfl rfl rfl rfl) (fun _ _ _ _ h => h)) (pk_cons (pv 1) (pk_cons (pv 0) pk_nil))) (.inr (.inr (.inl rfl))) (fun E H Q h => ⟨vb, rfl, .str z, rfl, rfl, rfl, h⟩) (.inl rfl) (pz pB') lw (.inr ⟨hz, nB'', rfl, rfl⟩)
          · refine lam_raises T fv cells_inj (lC.keep ((kd.keeps.trans (ke.keeps.trans kp)).trans (.same fz.same))) (free_ok rfl) (Nl := ["_law_word", "_law_bad"]) (ps := ["_law_b"]) (σl := [some (.str z), some vb]) ⟨rfl, rfl, rfl, by decide +kernel, by decide +kernel, by decide +kernel⟩ (hval2 1 3 rfl rfl rfl rfl rfl rfl) rfl (fun h => nomatch h) (fun _ A doc pm cv ctv its hl => ⟨_, rfl, match its, hl with | [_], _ => rfl⟩)
              (tb := fun E => tMake T.aCrossing (spSInit T) [] E (tCons (tVar 0) (tCons (tVar 1) tNil)))
              (fun c' A outer s H' E hr => pe_make T.kCrossing.made (ok_init T) hr (by rfl) T.c_Crossing T.m_init.b .nil (L2N.passes_call (L2N.takes_of rfl rfl rfl rfl) (fun _ _ _ _ h => h)) (pa_cons (pv 0) (pa_cons (pv 1) pa_nil))) (.inr (.inr (.inr rfl))) (fun E H Q h => ⟨.str z, rfl, vb, rfl, h⟩) (.inl rfl) (pz pB') lw (.inr ⟨hz, nB'', rfl, rfl⟩)
          · refine lam_raises T fv cells_inj (lE.keep (kp.trans (.same fz.same))) (free_ok rfl) (Nl := ["_law_word", "_law_bad"]) (ps := ["_law_c"]) (σl := [some (.str z), some vb]) ⟨rfl, rfl, rfl, by decide +kernel, by decide +kernel, by decide +kernel⟩ (hval2 1 3 rfl rfl rfl rfl rfl rfl) rfl (fun h => nomatch h) (fun _ A doc pm cv ctv its hl => ⟨_, rfl, match its, hl with | [_], _ => rfl⟩)
              (tb := fun E => tMake T.aSection (spSInit T) [] E (tCons (tVar 0) (tCons (tVar 1) tNil)))
              (fun c' A outer s H' E hr => pe_make T.kSection.made (ok_init T) hr (by rfl) T.c_Section T.m_init.b .nil (L2N.passes_call (L2N.takes_of rfl rfl rfl rfl) (fun _ _ _ _ h => h)) (pa_cons (pv 0) (pa_cons (pv 1) pa_nil))) (.inl rfl) (fun E H Q h => ⟨.str z, rfl, vb, rfl, h⟩) (.inl rfl) (pz pB') lw (.inr ⟨hz, nB'', rfl, rfl⟩)
        · have s9 := fz.back s8
          have k89 : ∀ a xs, H8 a = some (.tup xs) → offC H8 (cellsOf (cxOf CX0 P w K mg base N_law_refused_so "_law_refused_so" (defScope s_law_refused_so) T.d__law_refused_so.f (.ref ct) A outer s H E).env) a = some (.tup xs) := fun a xs e => fz.kept s8 e fun _ _ z => by cases z
          have ep9 := fz.kept s8 ep fun _ _ z => by cases z
          have hu9 := fun v m => (hu v m).keep k89
          dsimp only
          generalize offC H8 (cellsOf (cxOf CX0 P w K mg base N_law_refused_so "_law_refused_so" (defScope s_law_refused_so) T.d__law_refused_so.f (.ref ct) A outer s H E).env) = H9 at s9 ep9 hu9
          have hB9 := hBf.same s9
          have ib9 : Is b H9 sb vb := (ib11.keepT (KeepB.keepT (b := b) kF)).same s9
          obtain ⟨xb, eb9⟩ := hB9.some
          have pb : p ≠ b := fun z => by
            obtain ⟨xb7, eb7⟩ := hBf.some
            rw [z, fz.same _ _ eb7] at np
            cases np
          have is9 : Is b H9 (.l (List.replicate us.length (.t [.c (.str "InvalidNumber"), .t [sb]]))) (.ref p) := ⟨p, us, rfl, pb, ep9, told_all eb9 ib9 hu9⟩
          rw [lu] at is9
          show tOp rRep _ _ _ _ _
          refine ev_use (b := b) (e_rep (k := 4) (ss := [.t [.c (.str "InvalidNumber"), .t [sb]]]) (e_lst (n_cons (e_tup (n_cons e_c (n_cons (e_tup (n_cons (e_var (by rfl) ib9) n_nil) (Nat.le_of_ble_eq_true rfl)) n_nil)) (Nat.le_of_ble_eq_true rfl)) n_nil) (Nat.le_of_ble_eq_true rfl)) (Nat.le_of_ble_eq_true rfl) (by decide)) hB9 fun y H10 g10' i10 => ?_
          refine ⟨.ref p, y, rfl, eqv_det (n := 6) (s := .l (List.replicate 4 (.t [.c (.str "InvalidNumber"), .t [sb]]))) (det6 dB) (is9.go g10') i10, fun H12 s12 => ?_⟩
          exact q H12 (g10'.1.same s12) (((tF.same s9).go hB9 g10').same s12) (((kb0.trans (.keepT kF)).trans (.same s9)).trans ((KeepB.go g10').trans (.same s12)))
end
end Rd
set_option maxHeartbeats 4000000
namespace Rd
open PySem PySem.Spec PyProof.Rows L2 L2H HotX
/-! ## what a section is asked, by shapes -/
theorem dat_s (z : Str) : datOf (.c (.str z)) = .str z := by rw [datOf]
theorem dat_i (z : Int) : datOf (.c (.int z)) = .int z := by rw [datOf]
theorem dat_b (z : Bool) : datOf (.c (.bl z)) = .bool z := by rw [datOf]
theorem dat_n : datOf (.c .non) = .none := by rw [datOf]
theorem is_consts {b : Addr} {H : Hp} : ∀ {xs : List V}, IsAll b H (xs.map Sh.c) xs
  | [] => rfl
  | _ :: _ => ⟨_, _, rfl, rfl, is_consts⟩
section
variable {K : PySem.W.Frag} {mg : Str → Option Value} {T : Txt K mg} {b : Addr} {σ : L2.St} {H0 : Hp} {te ta tb : TE} {tr : TA} {C D : Addr} {x y : V} {n m : Str} {i j : Int}
theorem e_name (hC : T.S C) (h : Ev1 b te σ H0 (.n C (secF x y))) : Ev1 b (tFld K te "name") σ H0 (.c x) := fun H g Q q => h H g _ fun v H1 g1 i1 => by
  obtain ⟨a, d, rfl, n, e⟩ := i1
  exact ⟨a, C, d, secF x y, x, rfl, e, (T.clsD hC).cls, (T.clsD hC).nN, rfl, q _ H1 g1 rfl⟩
theorem e_len (hC : T.S C) (h : Ev1 b te σ H0 (.n C (secF x y))) : Ev1 b (tFld K te "length") σ H0 (.c y) := fun H g Q q => h H g _ fun v H1 g1 i1 => by
  obtain ⟨a, d, rfl, n, e⟩ := i1
  exact ⟨a, C, d, secF x y, y, rfl, e, (T.clsD hC).cls, (T.clsD hC).nL, rfl, q _ H1 g1 rfl⟩
theorem e_kind {z : Str} (hC : T.S C) (hz : kindOf T C = z) (h : Ev1 b te σ H0 (.n C (secF x y))) : Ev1 b (tCon K te "KIND") σ H0 (.c (.str z)) := fun H g Q q => h H g _ fun v H1 g1 i1 => by
  subst hz
  obtain ⟨a, d, rfl, n, e⟩ := i1
  obtain ⟨u, k⟩ := (T.clsD hC).kd
  exact ⟨a, C, d, secF x y, _, u, rfl, e, (T.clsD hC).cls, k, rfl, q _ H1 g1 rfl⟩
theorem e_most (hC : T.S C) (h : Ev1 b te σ H0 (.n C (secF x y))) : Ev1 b (tCon K te "MOST") σ H0 (.c (.int 50)) := fun H g Q q => h H g _ fun v H1 g1 i1 => by
  obtain ⟨a, d, rfl, n, e⟩ := i1
  obtain ⟨u, k⟩ := (T.clsD hC).ms
  exact ⟨a, C, d, secF x y, _, u, rfl, e, (T.clsD hC).cls, k, rfl, q _ H1 g1 rfl⟩
theorem e_sides {z : Str} (hC : T.S C) (hz : kindOf T C = z) (h : Ev1 b te σ H0 (.n C (secF x y))) : Ev1 b (tMethF T.S "sides" (spSides T) te tNil) σ H0 (.l ((sidesOf z).map Sh.c)) := fun H g Q q => h H g _ fun v H1 g1 i1 => by
  subst hz
  obtain ⟨a, d, rfl, n, e⟩ := i1
  exact ⟨a, C, d, secF x y, rfl, hC, e, rfl, a, C, d, secF x y, rfl, hC, e, rfl, fun H' p sm np ep => q _ H' (g1.same sm) ⟨p, _, rfl, g1.1.ne np, ep, is_consts⟩⟩
theorem e_ends {z : Str} (hC : T.S C) (hz : kindOf T C = z) (h : Ev1 b te σ H0 (.n C (secF x y))) : Ev1 b (tMethF T.S "ends" (spEnds T) te tNil) σ H0 (.l ((sidesOf z).map fun s => .t [.c x, .c s])) := fun H g Q q => h H g _ fun v H1 g1 i1 => by
  subst hz
  obtain ⟨a, d, rfl, n, e⟩ := i1
  obtain ⟨xs, eb⟩ := g1.1.some
  exact ⟨a, C, d, secF x y, rfl, hC, e, rfl, a, C, d, b, secF x y, x, rfl, hC, e, rfl, rfl, ⟨_, eb⟩, fun H' v sm _ iv => q _ H' (g1.same sm) iv⟩
theorem e_ways {s : Sh} {k : Nat} {z : Str} (hC : T.S C) (hz : kindOf T C = z) (h : Ev1 b te σ H0 (.n C (secF x y))) (h2 : Ev1 b ta σ H0 s) {dt : PyData} (hd : det k s = true) (ed : datOf s = dt) (hs : SeqAt.shaped dt = true) : Ev1 b (tMethF T.S "ways" (spWays T) te (tCons ta tNil)) σ H0 (waySh (rawOf z dt)) := fun H g Q q => h H g _ fun v H1 g1 i1 => by
  subst hz
  obtain ⟨a, d, rfl, n, e⟩ := i1
  refine ⟨a, C, d, secF x y, rfl, hC, e, rfl, h2 H1 (g.trans g1) _ fun w H2 g2 i2 => ?_⟩
  obtain ⟨xs, eb⟩ := g2.1.some
  exact ⟨a, C, d, b, secF x y, w, dt, rfl, hC, g2.2 _ _ n e, rfl, by rw [← ed]; exact Is.dp hd i2, hs, ⟨_, eb⟩, fun H' v sm _ iv => q _ H' ((g1.trans g2).same sm) iv⟩
theorem e_waysK {s : Sh} {k : Nat} {z : Str} (hC : T.S C) (hz : kindOf T C = z) (h : Ev1 b te σ H0 (.n C (secF x y))) (h2 : Ev1 b ta σ H0 s) {dt : PyData} (hd : det k s = true) (ed : datOf s = dt) (hs : SeqAt.shaped dt = true) : Ev1 b (tMethFK T.S "ways" 1 (spWays T) (fun vs zs => vs ++ zs.reverse) te (tCons ta tNil)) σ H0 (waySh (rawOf z dt)) := fun H g Q q => h H g _ fun v H1 g1 i1 => by
  subst hz
  obtain ⟨a, d, rfl, n, e⟩ := i1
  refine ⟨a, C, d, secF x y, rfl, hC, e, rfl, h2 H1 (g.trans g1) _ fun w H2 g2 i2 => ⟨rfl, ?_⟩⟩
  obtain ⟨xs, eb⟩ := g2.1.some
  exact ⟨a, C, d, b, secF x y, w, dt, rfl, hC, g2.2 _ _ n e, rfl, by rw [← ed]; exact Is.dp hd i2, hs, ⟨_, eb⟩, fun H' v sm _ iv => q _ H' ((g1.trans g2).same sm) iv⟩
abbrev shown (z n : Str) (i : Int) : Str := z ++ " " ++ n ++ " " ++ toString i
theorem e_text {z : Str} (hC : T.S C) (hz : kindOf T C = z) (hn : n.length ≤ 1000) (hi : i.natAbs ≤ 1000) (h : Ev1 b te σ H0 (.n C (secF (.str n) (.int i)))) : Ev1 b (tMethF T.S "text" (spText T) te tNil) σ H0 (.c (.str (shown z n i))) := fun H g Q q => h H g _ fun v H1 g1 i1 => by
  subst hz
  obtain ⟨a, d, rfl, n1, e⟩ := i1
  exact ⟨a, C, d, _, rfl, hC, e, rfl, a, C, d, n, i, rfl, hC, e, hn, hi, q _ H1 g1 rfl⟩
theorem e_repr {z : Str} (hC : T.S C) (hz : kindOf T C = z) (hn : n.length ≤ 1000) (hi : i.natAbs ≤ 1000) (h : Ev1 b te σ H0 (.n C (secF (.str n) (.int i)))) : Ev1 b (tCB (rRepF T.S (spRepr T)) (tCons te tNil)) σ H0 (.c (.str ("Section(" ++ shown z n i ++ ")"))) := fun H g Q q => h H g _ fun v H1 g1 i1 => by
  subst hz
  obtain ⟨a, d, rfl, n1, e⟩ := i1
  exact ⟨a, C, d, _, rfl, hC, e, a, C, d, n, i, rfl, hC, e, hn, hi, _, rfl, q _ H1 g1 rfl⟩
theorem sameSec_symm : sameSec T D m j C n i = sameSec T C n i D m j := by
  unfold sameSec
  congr 1
  · exact decide_eq_decide.mpr ⟨Eq.symm, Eq.symm⟩
  · congr 1
    · exact decide_eq_decide.mpr ⟨Eq.symm, Eq.symm⟩
    · exact decide_eq_decide.mpr ⟨Eq.symm, Eq.symm⟩
theorem e_eqS (hC : T.S C) (hD : T.S D) (h : Ev1 b ta σ H0 (.n C (secF (.str n) (.int i)))) (k : Ev1 b tb σ H0 (.n D (secF (.str m) (.int j)))) : Ev1 b (tOp (rEqF K T.S (spEqS T)) ta tb) σ H0 (.c (.bl (sameSec T C n i D m j))) := fun H g Q q =>
  h H g _ fun v H1 g1 i1 => k H1 (g.trans g1) _ fun w H2 g2 i2 => by
    obtain ⟨a, d, rfl, n1, e1⟩ := i1.go g2
    obtain ⟨c, e, rfl, n2, e2⟩ := i2
    refine ⟨a, C, d, _, rfl, hC, e1, ?_⟩
    by_cases hS : C = T.aSection
    · by_cases hDS : D = T.aSection
      · refine .inl ⟨.ref D, T.ins hD e2, by rw [hS, hDS]; exact T.self, a, C, d, n, i, _, rfl, hC, e1, .inr ⟨c, D, e, m, j, rfl, hD, e2, _, rfl, q _ H2 (g1.trans g2) rfl⟩⟩
      · refine .inr ⟨c, D, e, _, rfl, hD, e2, by rw [hS]; exact hDS, by rw [hS]; exact T.below D hD hDS, c, D, e, m, j, _, rfl, hD, e2, .inr ⟨a, C, d, n, i, rfl, hC, e1, _, rfl, q _ H2 (g1.trans g2) ?_⟩⟩
        rw [sameSec_symm]
        exact is_c
    · exact .inl ⟨.ref D, T.ins hD e2, T.apart C D hC hD hS, a, C, d, n, i, _, rfl, hC, e1, .inr ⟨c, D, e, m, j, rfl, hD, e2, _, rfl, q _ H2 (g1.trans g2) rfl⟩⟩
theorem e_neS (hC : T.S C) (hD : T.S D) (hS : C ≠ T.aSection) (h : Ev1 b ta σ H0 (.n C (secF (.str n) (.int i)))) (k : Ev1 b tb σ H0 (.n D (secF (.str m) (.int j)))) : Ev1 b (tOp (rNeF K T.S (spEqS T)) ta tb) σ H0 (.c (.bl (!sameSec T C n i D m j))) := fun H g Q q =>
  h H g _ fun v H1 g1 i1 => k H1 (g.trans g1) _ fun w H2 g2 i2 => by
    obtain ⟨a, d, rfl, n1, e1⟩ := i1.go g2
    obtain ⟨c, e, rfl, n2, e2⟩ := i2
    exact ⟨a, C, d, _, .ref D, rfl, hC, e1, T.ins hD e2, T.apart C D hC hD hS, a, C, d, n, i, _, rfl, hC, e1, .inr ⟨c, D, e, m, j, rfl, hD, e2, _, rfl, q _ H2 (g1.trans g2) rfl⟩⟩
/-- == with what is no section -/
theorem e_eqX {s : Sh} (hC : T.S C) (hs : (∃ z, s = .c z ∧ isSc z = true) ∨ ∃ xs, s = .t xs) (h : Ev1 b ta σ H0 (.n C (secF (.str n) (.int i)))) (k : Ev1 b tb σ H0 s) : Ev1 b (tOp (rEqF K T.S (spEqS T)) ta tb) σ H0 (.c (.bl false)) := fun H g Q q =>
  h H g _ fun v H1 g1 i1 => k H1 (g.trans g1) _ fun w H2 g2 i2 => by
    obtain ⟨a, d, rfl, n1, e1⟩ := i1.go g2
    have ⟨t, ty, ht⟩ : ∃ t, TyX K H2 w (.type t) ∧ ["NoneType", "str", "int", "bool", "tuple", "list"].contains t = true := by
      rcases hs with ⟨z, rfl, hz⟩ | ⟨xs, rfl⟩
      · rw [show w = z from i2]
        refine ⟨_, ty_sc hz, ?_⟩
        cases z <;> first | rfl | decide | cases hz
      · obtain ⟨p, vs, rfl, _, o, _⟩ := i2
        exact ⟨"tuple", ty_seqT (SqT.of o), by decide⟩
    exact ⟨a, C, d, _, rfl, hC, e1, .inl ⟨.type t, ty, (T.clsD hC).nt t ht, a, C, d, n, i, w, rfl, hC, e1, .inl ⟨t, ty, ht, _, rfl, q _ H2 (g1.trans g2) rfl⟩⟩⟩
end
end Rd
set_option maxHeartbeats 4000000
namespace Rd
open PySem PySem.Spec PyProof.Rows L2 L2H HotX
/-! ## the base class -/
section
variable {K : PySem.W.Frag} {mg : Str → Option Value} {T : Txt K mg} {b : Addr} {σ : L2.St} {H0 : Hp} {te ta tb : TE} {tr : TA}
theorem kind_sec (T : Txt K mg) : kindOf T T.aSection = "none" := by unfold kindOf; rw [if_neg T.neP.symm, if_neg T.neT.symm, if_neg T.neX.symm]
theorem kind_plain (T : Txt K mg) : kindOf T T.aPlain = "plain" := by unfold kindOf; rw [if_pos rfl]
theorem kind_point (T : Txt K mg) : kindOf T T.aPoint = "point" := by unfold kindOf; rw [if_neg T.nePT.symm, if_pos rfl]
theorem kind_cross (T : Txt K mg) : kindOf T T.aCrossing = "crossing" := by unfold kindOf; rw [if_neg T.nePX.symm, if_neg T.neTX.symm, if_pos rfl]
theorem e_eqD {s1 s2 : Sh} {k1 k2 : Nat} (h : Ev1 b ta σ H0 s1) (k : Ev1 b tb σ H0 s2) {da db : PyData} (d1 : det k1 s1 = true) (d2 : det k2 s2 = true) (ea : datOf s1 = da) (eb : datOf s2 = db) (p1 : SeqAt.shaped da = true) (p2 : SeqAt.shaped db = true) : Ev1 b (tOp (rEqD K) ta tb) σ H0 (.c (.bl (PyData.eqv da db))) := fun H g Q q =>
  h H g _ fun v H1 g1 i1 => k H1 (g.trans g1) _ fun w H2 g2 i2 => ⟨da, db, by rw [← ea]; exact Is.dp d1 (i1.go g2), by rw [← eb]; exact Is.dp d2 i2, p1, p2, q _ H2 (g1.trans g2) rfl⟩
theorem e_neD {s1 s2 : Sh} {k1 k2 : Nat} (h : Ev1 b ta σ H0 s1) (k : Ev1 b tb σ H0 s2) {da db : PyData} (d1 : det k1 s1 = true) (d2 : det k2 s2 = true) (ea : datOf s1 = da) (eb : datOf s2 = db) (p1 : SeqAt.shaped da = true) (p2 : SeqAt.shaped db = true) : Ev1 b (tOp (rNeD K) ta tb) σ H0 (.c (.bl (!PyData.eqv da db))) := fun H g Q q =>
  h H g _ fun v H1 g1 i1 => k H1 (g.trans g1) _ fun w H2 g2 i2 => ⟨da, db, by rw [← ea]; exact Is.dp d1 (i1.go g2), by rw [← eb]; exact Is.dp d2 i2, p1, p2, q _ H2 (g1.trans g2) rfl⟩
theorem e_makeK {C : Addr} {n : Str} {i : Int} (hC : T.S C) (h : EvN b tr σ H0 [.c (.int i), .c (.str n)]) (hn : isNm (.str n) = true) (hi : isNum (.int i) 1 50 = true) :
    Ev1 b (tMakeK C 0 2 (spSInit T) (fun vs zs => vs ++ zs.reverse) E0 tNil tr) σ H0 (.n C (secF (.str n) (.int i))) := fun H g Q q =>
  h H g _ fun vs H1 g1 i1 => by
    obtain ⟨v, w, rfl, e1, e2⟩ := is2 i1
    rw [show v = _ from e1, show w = _ from e2]
    refine ⟨rfl, rfl, ?_⟩
    intro x dx nx ndx hne
    have nx1 : upd H1 dx (.own x) x = none := by rw [upd_ne (Ne.symm hne)]; exact nx
    have s1 : Same H1 (upd (upd H1 dx (.own x)) x (.ins C dx [])) := (same_new ndx).trans (same_new nx1)
    refine ⟨x, C, dx, .str n, .int i, _, _, rfl, hC, upd_same, .sc rfl, .sc rfl, fun z e => by cases e; exact Nat.le_trans (goodName hn) (by decide), fun _ _ H' k e => ⟨rfl, ?_⟩, fun e => ?_, fun _ e => ?_⟩
    · have s2 : Same H1 H' := fun a o e' => k a o (ne_of_none e' nx) (s1 _ _ e')
      exact q _ H' (g1.same s2) ⟨x, dx, rfl, g1.1.ne nx, e⟩
    · rw [hn] at e; cases e
    · rw [hi] at e; cases e
end
section
variable {P : Program} {w : World} {K : PySem.W.Frag} {mg : Str → Option Value} {base : Heap}
theorem num50 {i : Int} (h : isNum (.int i) 1 50 = true) : 1 ≤ i ∧ i ≤ 50 := by
  have h : (decide (1 ≤ i) && decide (i ≤ 50)) = true := h
  rw [Bool.and_eq_true] at h
  exact ⟨of_decide_eq_true h.1, of_decide_eq_true h.2⟩
theorem num50' {i : Int} (h : 1 ≤ i ∧ i ≤ 50) : isNum (.int i) 1 50 = true := by
  show (decide (1 ≤ i) && decide (i ≤ 50)) = true
  rw [decide_eq_true h.1, decide_eq_true h.2]
  rfl
theorem e_base {P : Prop} (h : P) : P := h
theorem bools_shp (x y z : Bool) : SeqAt.shaped (.list [.bool x, .bool y, .bool z]) = true := by
  unfold SeqAt.shaped
  simp [PyData.canLay0, PyData.canLayAll0, PyData.depth, PyData.depthAll]
theorem bools_dat (x y z : Bool) : datOf (.l [.c (.bl x), .c (.bl y), .c (.bl z)]) = .list [.bool x, .bool y, .bool z] := by
  rw [datOf_l]
  simp only [List.map_cons, List.map_nil, dat_b]
def spBaseSo : Sp := fun vs H Q _ => ∃ (b : Addr) (n : Str) (i : Int), vs = [.str n, .int i] ∧ Bag H b ∧ isNm (.str n) = true ∧ isNum (.int i) 1 50 = true ∧ ∀ H', Go b H H' → Q (.bl true) H'
theorem ok_law_base_so {T : Txt K mg} (U : TxW w T) : FnOk P w K mg base CX0 6 T.d__law_base_so.f T.d__law_base_so.fd ["_law_word", "_law_size"] spBaseSo := by
  refine T.d__law_base_so.F.ok sc_law_base_so (fun vs H Q E h => ?_) (fun cdv A outer s H vs Q E hr h => ?_)
  · obtain ⟨b, n, i, rfl, _⟩ := h
    rfl
  · obtain ⟨b, n, i, rfl, hB, hn, hi, q⟩ := h
    refine ⟨_, (pss_cons (ps_set (i := 2) sc_law_base_so.nd rfl (Or.inl rfl) (pe_make T.kSection.made (ok_init T) (hr.mono (by decide)) (by rfl) T.c_Section T.m_init.b .nil passLN (pa_cons (pv 0) (pa_cons (pv 1) pa_nil))))
      (pss_cons (ps_set (i := 3) sc_law_base_so.nd rfl (Or.inl rfl) (pe_lst (pa_cons (pe_fld (pv 2) (by rfl)) (pa_cons (pe_fld (pv 2) (by rfl)) (pa_cons (pe_con (pv 2) (by rfl)) (pa_cons (pe_methF0 (pv 2) T.fam T.m_sides.M (ok_sides U) (hr.mono (by decide)) T.m_sides.b pass0) (pa_cons (pe_methF0 (pv 2) T.fam T.m_ends.M (ok_ends U) (hr.mono (by decide)) T.m_ends.b pass0) (pa_cons (pe_methF (pv 2) T.fam T.m_ways.M (ok_ways U) (hr.mono (by decide)) T.m_ways.b pass0 (pa_cons pe_str pa_nil)) (pa_cons (pe_methF (pv 2) T.fam T.m_ways.M (ok_ways U) (hr.mono (by decide)) T.m_ways.b pass0 (pa_cons pe_str pa_nil)) pa_nil)))))))))
      (pss_cons (ps_if (pt_not (pt_val (pe_call (ok_law_same T 3) (hr.mono (by decide)) (by rfl) T.d__law_same.g T.d__law_same.F.kp T.d__law_same.b .nil pass0 (pa_cons (pv 3) (pa_cons (pe_lst (pa_cons (pv 0) (pa_cons (pv 1) (pa_cons pe_str (pa_cons (pe_lst pa_nil) (pa_cons (pe_lst pa_nil) (pa_cons (pe_lst pa_nil) (pa_cons (pe_lst pa_nil) pa_nil)))))))) pa_nil))))) (pss_one (ps_ret pe_bl)) pss_nil)
      (pss_cons (ps_set (i := 4) sc_law_base_so.nd rfl (Or.inl rfl) (pe_lst (pa_cons (pe_cmpR (op_eqF T.eqf (ok_eq T) (hr.mono (by decide)) T.m_eq.b pass0) (pv 2) (pe_makeK0 T.kSection.made (ok_init T) (hr.mono (by decide)) (by rfl) T.c_Section (kb_init T) passLN (pk_cons (pv 1) (pk_cons (pv 0) pk_nil))) (nomark _)) (pa_cons (pe_cmpR (op_eqF T.eqf (ok_eq T) (hr.mono (by decide)) T.m_eq.b pass0) (pv 2) (pe_make T.kSection.made (ok_init T) (hr.mono (by decide)) (by rfl) T.c_Section T.m_init.b .nil passLN (pa_cons (pv 0) (pa_cons (pe_op op_sub pe_int (pv 1)) pa_nil))) (nomark _)) (pa_cons (pe_cmpR (op_eqF T.eqf (ok_eq T) (hr.mono (by decide)) T.m_eq.b pass0) (pv 2) (pe_make T.kPlain.made (ok_init T) (hr.mono (by decide)) (by rfl) T.c_Plain T.m_init.b .nil passLN (pa_cons (pv 0) (pa_cons (pv 1) pa_nil))) (nomark _)) pa_nil)))))
      (pss_one (ps_ret (pe_and (pe_cmpR (op_eqD hr.units) (pv 4) (pe_lst (pa_cons pe_bl (pa_cons pe_bl (pa_cons pe_bl pa_nil)))) (nomark _)) (pe_one (pe_cmpR (op_neF T.fam T.eqf (ok_eq T) (hr.mono (by decide)) T.m_eq.b pass0) (pe_make T.kPlain.made (ok_init T) (hr.mono (by decide)) (by rfl) T.c_Plain T.m_init.b .nil passLN (pa_cons (pv 0) (pa_cons (pv 1) pa_nil))) (pv 2) (nomark _)))))))))), ?_⟩
    have hS : T.S T.aSection := .inl rfl
    have hP : T.S T.aPlain := .inr (.inl rfl)
    have hi2 := num50 hi
    refine q_set (b := b) hB (e_make hS (n_cons (e_var rfl rfl) (n_cons (e_var rfl rfl) n_nil)) hn hi) fun v2 H1 g1 i1 => ?_
    have e2 : Ev1 b (tVar 2) ((L2.start N_law_base_so [.str n, .int i]).set 2 (some v2)) H1 (.n T.aSection (secF (.str n) (.int i))) := e_var rfl i1
    refine q_set (b := b) g1.1 (e_lst (n_cons (e_name hS e2) (n_cons (e_len hS e2) (n_cons (e_kind hS (kind_sec T) e2) (n_cons (e_sides hS (kind_sec T) e2) (n_cons (e_ends hS (kind_sec T) e2) (n_cons (e_ways (k := 0) hS (kind_sec T) e2 e_c rfl (dat_s _) (shp_of (by decide +kernel))) (n_cons (e_ways (k := 0) hS (kind_sec T) e2 e_c rfl (dat_s _) (shp_of (by decide +kernel))) n_nil))))))) (Nat.le_of_ble_eq_true rfl)) fun v3 H2 g2 i2 => ?_
    have es : sidesOf "none" = [] := by decide +kernel
    have r1 : rawOf "none" (.str "a") = [] := by decide +kernel
    have r2 : rawOf "none" (.str "stem") = [] := by decide +kernel
    simp only [es, r1, r2, waySh, List.map_nil] at i2
    refine ⟨v3, rfl, ?_⟩
    refine ev_use (b := b) (s := .l [.c (.str n), .c (.int i), .c (.str "none"), .l [], .l [], .l [], .l []]) (e_lst (n_cons (e_var (by rfl) rfl) (n_cons (e_var (by rfl) rfl) (n_cons e_c (n_cons (e_lst n_nil (by decide)) (n_cons (e_lst n_nil (by decide)) (n_cons (e_lst n_nil (by decide)) (n_cons (e_lst n_nil (by decide)) n_nil))))))) (Nat.le_of_ble_eq_true rfl)) g2.1 fun u H3 g3 i3 => ?_
    refine ⟨v3, u, rfl, eqv_det (n := 3) rfl (i2.go g3) i3, fun H4 s4 => ⟨true, rfl, iteF ?_⟩⟩
    have g4 : Go b H1 H4 := (g2.trans g3).same s4
    have e2' := e_mono g4 (show Ev1 b (tVar 2) (((L2.start N_law_base_so [.str n, .int i]).set 2 (some v2)).set 3 (some v3)) H1 (.n T.aSection (secF (.str n) (.int i))) from e_var rfl i1)
    have q1 : sameSec T T.aSection n i T.aSection n i = true := by simp [sameSec]
    have q2 : sameSec T T.aSection n i T.aSection n (51 - i) = false := by
      unfold sameSec
      rw [decide_eq_false (show ¬ i = 51 - i by omega), Bool.and_false, Bool.and_false]
    have q3 : sameSec T T.aSection n i T.aPlain n i = false := by
      unfold sameSec
      rw [kind_sec, kind_plain, show decide (("none" : Str) = "plain") = false from by decide +kernel, Bool.false_and]
    have q4 : sameSec T T.aPlain n i T.aSection n i = false := by rw [sameSec_symm]; exact q3
    have h51 : isNum (.int (51 - i)) 1 50 = true := num50' (by omega)
    refine q_set (b := b) g4.1 (s := .l [.c (.bl true), .c (.bl false), .c (.bl false)]) (e_lst (n_cons (by rw [← q1]; exact e_eqS hS hS e2' (e_makeK hS (n_cons (e_var (i := 1) rfl rfl) (n_cons (e_var (i := 0) rfl rfl) n_nil)) hn hi)) (n_cons (by rw [← q2]; exact e_eqS hS hS e2' (e_make hS (n_cons (e_var (i := 0) rfl rfl) (n_cons (e_sub e_c (e_var (i := 1) rfl rfl)) n_nil)) hn h51)) (n_cons (by rw [← q3]; exact e_eqS hS hP e2' (e_make hP (n_cons (e_var (i := 0) rfl rfl) (n_cons (e_var (i := 1) rfl rfl) n_nil)) hn hi)) n_nil))) (Nat.le_of_ble_eq_true rfl)) fun v4 H5 g5 i5 => ?_
    have g45 := g4.trans g5
    have e5 := e_mono (g1.trans g45) (show Ev1 b (tVar 0) ((((L2.start N_law_base_so [.str n, .int i]).set 2 (some v2)).set 3 (some v3)).set 4 (some v4)) H (.c (.str n)) from e_var (i := 0) rfl rfl)
    have e2'' : Ev1 b (tVar 2) ((((L2.start N_law_base_so [.str n, .int i]).set 2 (some v2)).set 3 (some v3)).set 4 (some v4)) H5 (.n T.aSection (secF (.str n) (.int i))) := e_var (i := 2) rfl (i1.go g45)
    have e4 : Ev1 b (tVar 4) ((((L2.start N_law_base_so [.str n, .int i]).set 2 (some v2)).set 3 (some v3)).set 4 (some v4)) H5 (.l [.c (.bl true), .c (.bl false), .c (.bl false)]) := e_var (i := 4) rfl i5
    have hne : T.aPlain ≠ T.aSection := T.neP
    have q5 : PyData.eqv (.list [.bool true, .bool false, .bool false]) (.list [.bool true, .bool false, .bool false]) = true := by decide +kernel
    have k1 := e_eqD (K := K) (k1 := 1) (k2 := 1) e4 (e_lst (n_cons (e_c (v := .bl true)) (n_cons (e_c (v := .bl false)) (n_cons (e_c (v := .bl false)) n_nil))) (Nat.le_of_ble_eq_true rfl)) rfl rfl (bools_dat _ _ _) (bools_dat _ _ _) (bools_shp _ _ _) (bools_shp _ _ _)
    rw [q5] at k1
    have k2 := e_neS hP hS hne (e_make hP (n_cons (e_var (i := 0) (σ := (((L2.start N_law_base_so [.str n, .int i]).set 2 (some v2)).set 3 (some v3)).set 4 (some v4)) (H0 := H5) (b := b) rfl rfl) (n_cons (e_var (i := 1) rfl rfl) n_nil)) hn hi) e2''
    rw [q4] at k2
    refine q_ret (b := b) g5.1 (e_and k1 fun _ => k2) fun v6 H6 g6 i6 => ?_
    rw [show v6 = _ from i6]
    exact q H6 ((g1.trans g45).trans g6)
end
end Rd
set_option maxHeartbeats 4000000
namespace Rd
open PySem PySem.Spec PyProof.Rows L2 L2H HotX
/-! ## lists made by lists -/
mutual
/-- what two addresses are not in, a list at one of them may change -/
theorem Is.both {b c : Addr} {H H' : Hp} (g : ∀ a o, a ≠ c → H a = some o → H' a = some o) : ∀ {n : Nat} {s : Sh} {v : V}, det n s = true → Is b H s v → Is c H s v → Is b H' s v ∧ Is c H' s v
  | n, .c x, v, d, h, k => ⟨h, k⟩
  | n, .is p, v, d, h, k => ⟨h, k⟩
  | 0, .l xs, v, d, h, k => by cases d
  | 0, .t xs, v, d, h, k => by cases d
  | m + 1, .l xs, v, d, h, k => by
    obtain ⟨_, d2⟩ := Bool.and_eq_true_iff.mp (show (decide (xs.length ≤ 1000) && xs.all (det m)) = true from d)
    obtain ⟨p, vs, e, n, o, r⟩ := h
    obtain ⟨p', vs', e', n', o', r'⟩ := k
    cases e.symm.trans e'
    cases o.symm.trans o'
    obtain ⟨z1, z2⟩ := IsAll.both g d2 r r'
    exact ⟨⟨p, vs, e, n, g _ _ n' o, z1⟩, ⟨p, vs, e, n', g _ _ n' o, z2⟩⟩
  | m + 1, .t xs, v, d, h, k => by
    obtain ⟨_, d2⟩ := Bool.and_eq_true_iff.mp (show (decide (xs.length ≤ 1000) && xs.all (det m)) = true from d)
    obtain ⟨p, vs, e, n, o, r⟩ := h
    obtain ⟨p', vs', e', n', o', r'⟩ := k
    cases e.symm.trans e'
    cases o.symm.trans o'
    obtain ⟨z1, z2⟩ := IsAll.both g d2 r r'
    exact ⟨⟨p, vs, e, n, g _ _ n' o, z1⟩, ⟨p, vs, e, n', g _ _ n' o, z2⟩⟩
  | n, .o xs, v, d, h, k => by cases n <;> cases d
  | n, .n C fs, v, d, h, k => by cases n <;> cases d
theorem IsAll.both {b c : Addr} {H H' : Hp} (g : ∀ a o, a ≠ c → H a = some o → H' a = some o) : ∀ {n : Nat} {ss : List Sh} {vs : List V}, ss.all (det n) = true → IsAll b H ss vs → IsAll c H ss vs → IsAll b H' ss vs ∧ IsAll c H' ss vs
  | n, [], _, d, h, k => ⟨h, k⟩
  | n, s :: r, _, d, h, k => by
    obtain ⟨d1, d2⟩ := Bool.and_eq_true_iff.mp (show (det n s && r.all (det n)) = true from d)
    obtain ⟨v, ws, e, r, q⟩ := h
    obtain ⟨v', ws', e', r', q'⟩ := k
    subst e
    cases e'
    obtain ⟨z1, z2⟩ := Is.both g d1 r r'
    obtain ⟨z3, z4⟩ := IsAll.both g d2 q q'
    exact ⟨⟨v, ws, rfl, z1, z3⟩, ⟨v, ws, rfl, z2, z4⟩⟩
end
mutual
/-- a det value's addresses are what they are: by another heap -/
theorem is_other {b c : Addr} {H H' : Hp} : ∀ {n : Nat} {s : Sh} {v : V}, Is b H' s v → Is c H s v → det n s = true → (∀ a o, a ≠ b → H a = some o → H' a = some o) → Is b H s v → Is c H' s v
  | n, .c x, v, h, k, d, g, h0 => k
  | n, .is p, v, h, k, d, g, h0 => k
  | 0, .l xs, v, h, k, d, g, h0 => by cases d
  | 0, .t xs, v, h, k, d, g, h0 => by cases d
  | m + 1, .l xs, v, h, k, d, g, h0 => by
    obtain ⟨_, d2⟩ := Bool.and_eq_true_iff.mp (show (decide (xs.length ≤ 1000) && xs.all (det m)) = true from d)
    obtain ⟨p, vs, e, n, o, r⟩ := h
    obtain ⟨p', vs', e', n', o', r'⟩ := k
    obtain ⟨p2, vs2, e2, n2, o2, r2⟩ := h0
    cases e.symm.trans e'
    cases e.symm.trans e2
    cases o'.symm.trans o2
    cases o.symm.trans (g _ _ n2 o2)
    exact ⟨p, vs, e, n', o, isAll_other' r r' d2 g r2⟩
  | m + 1, .t xs, v, h, k, d, g, h0 => by
    obtain ⟨_, d2⟩ := Bool.and_eq_true_iff.mp (show (decide (xs.length ≤ 1000) && xs.all (det m)) = true from d)
    obtain ⟨p, vs, e, n, o, r⟩ := h
    obtain ⟨p', vs', e', n', o', r'⟩ := k
    obtain ⟨p2, vs2, e2, n2, o2, r2⟩ := h0
    cases e.symm.trans e'
    cases e.symm.trans e2
    cases o'.symm.trans o2
    cases o.symm.trans (g _ _ n2 o2)
    exact ⟨p, vs, e, n', o, isAll_other' r r' d2 g r2⟩
  | n, .o xs, v, h, k, d, g, h0 => by cases n <;> cases d
  | n, .n C fs, v, h, k, d, g, h0 => by cases n <;> cases d
theorem isAll_other' {b c : Addr} {H H' : Hp} : ∀ {n : Nat} {ss : List Sh} {vs : List V}, IsAll b H' ss vs → IsAll c H ss vs → ss.all (det n) = true → (∀ a o, a ≠ b → H a = some o → H' a = some o) → IsAll b H ss vs → IsAll c H' ss vs
  | n, [], _, h, k, d, g, h0 => k
  | n, s :: r, _, h, k, d, g, h0 => by
    obtain ⟨d1, d2⟩ := Bool.and_eq_true_iff.mp (show (det n s && r.all (det n)) = true from d)
    obtain ⟨v, ws, e, r, q⟩ := h
    obtain ⟨v', ws', e', r', q'⟩ := k
    obtain ⟨v2, ws2, e2, r2, q2⟩ := h0
    subst e
    cases e'
    cases e2
    exact ⟨v, ws, rfl, is_other r r' d1 g r2, isAll_other' q q' d2 g q2⟩
end
/-- an expression whose value holds nothing that was known before -/
def EvA (b : Addr) (te : TE) (σ : L2.St) (H : Hp) (s : Sh) : Prop := ∀ c o, H c = some o → c ≠ b → ∀ Q : VK, (∀ v H', Go b H H' → Is b H' s v → Is c H' s v → Q v H') → te σ H Q
section
variable {b : Addr} {σ : L2.St} {H0 : Hp} {te ta tb tl : TE} {tr : TA} {tt : TT} {s s' : Sh} {ss : List Sh} {K : PySem.W.Frag}
theorem all_map {f : Sh → V} (b : Addr) (H : Hp) : ∀ (l : List Sh), IsAll b H (l.map fun i => .c (f i)) (l.map f)
  | [] => rfl
  | i :: r => ⟨f i, r.map f, rfl, rfl, all_map b H r⟩
/-- [e for x in xs], constants -/
theorem e_lcL {v : Nat} (f : Sh → V) (hl : Ev1 b tl σ H0 (.l ss)) (hn : ss.length ≤ 1000) (el : ∀ (i : Nat) s, ss[i]? = some s → ∀ H x, Go b H0 H → Is b H s x → Ev1 b te ((wipe σ [v]).set v (some x)) H (.c (f s))) : Ev1 b (tLc (iList K tl) (gName v) tYes te [v]) σ H0 (.l (ss.map fun s => .c (f s))) := fun H g Q q =>
  hl H g _ fun u H1 g1 i1 => by
    obtain ⟨a, xs, rfl, na, o, r⟩ := i1
    refine ⟨a, rfl, ⟨_, SqL.of o⟩, fun D nD => ?_⟩
    have hB := g1.1
    have nb := hB.ne nD
    have lx := r.length
    refine lc_list (K := K) (a := a) (xs := xs) (fun i H5 => Go b H1 H5 ∧ H5 D = some (.lst ((ss.take i).map f))) ⟨(Go.refl hB).put hB nD, upd_same⟩ (fun i H5 _ h => SqL.of (h.1.2 _ _ na o)) ?_ ?_
    · rintro i x H5 hx ⟨g5, eD⟩
      have hi : i < xs.length := (List.getElem?_eq_some_iff.mp hx).1
      obtain ⟨s, hs, is⟩ := r.at hx
      refine ⟨by show (((σ.set v none).set v _).set v none) = σ.set v none; rw [List.set_set, List.set_set], ?_⟩
      show te _ H5 _
      refine el i s hs H5 x (g.trans (g1.trans g5)) (is.go g5) H5 (Go.refl g5.1) _ fun y H6 g6 i6 => ⟨_, g6.2 _ _ nb eD, ?_, (g5.trans g6).put hB nD, ?_⟩
      · rw [List.length_map, List.length_take]; exact small1000 (by omega)
      · rw [upd_same, show y = f s from i6, List.take_add_one, hs, List.map_append]; rfl
    · rintro H5 ⟨g5, eD⟩
      rw [lx, List.take_length] at eD
      exact q _ H5 (g1.trans g5) ⟨D, _, rfl, nb, eD, all_map b H5 _⟩
/-- [x for x in xs if p(x)], constants -/
theorem e_lcF {v : Nat} {xs : List V} (p : V → Bool) (hl : Ev1 b tl σ H0 (.l (xs.map Sh.c))) (hn : xs.length ≤ 1000) (hv : v < σ.length) (el : ∀ x, x ∈ xs → ∀ H, Go b H0 H → ∀ Q : Bool → Hp → Prop, (∀ H', Go b H H' → Q (p x) H') → tt ((wipe σ [v]).set v (some x)) H Q) : Ev1 b (tLc (iList K tl) (gName v) tt (tVar v) [v]) σ H0 (.l ((xs.filter p).map Sh.c)) := fun H g Q q =>
  hl H g _ fun u H1 g1 i1 => by
    obtain ⟨a, ys, rfl, na, o, r⟩ := i1
    have ey : ys = xs := by
      have go : ∀ {l m : List V}, IsAll b H1 (l.map Sh.c) m → m = l := by
        intro l
        induction l with
        | nil => exact fun h => h
        | cons z l ih =>
          rintro m ⟨w, ws, rfl, h1, h2⟩
          rw [show w = z from h1, ih h2]
      exact go r
    subst ey
    refine ⟨a, rfl, ⟨_, SqL.of o⟩, fun D nD => ?_⟩
    have hB := g1.1
    have nb := hB.ne nD
    refine lc_list (K := K) (a := a) (xs := ys) (fun i H5 => Go b H1 H5 ∧ H5 D = some (.lst ((ys.take i).filter p))) ⟨(Go.refl hB).put hB nD, upd_same⟩ (fun i H5 _ h => SqL.of (h.1.2 _ _ na o)) ?_ ?_
    · rintro i x H5 hx ⟨g5, eD⟩
      have hi : i < ys.length := (List.getElem?_eq_some_iff.mp hx).1
      refine ⟨by show (((σ.set v none).set v _).set v none) = σ.set v none; rw [List.set_set, List.set_set], ?_⟩
      have tk : ys.take (i + 1) = ys.take i ++ [x] := by rw [List.take_add_one, hx]; rfl
      refine el x (List.mem_of_getElem? hx) H5 (g.trans (g1.trans g5)) _ fun H6 g6 => ?_
      have eD6 := g6.2 _ _ nb eD
      cases e : p x with
      | true =>
        refine iteT ⟨x, ?_, _, eD6, ?_, (g5.trans g6).put hB nD, ?_⟩
        · show ((σ.set v none).set v (some x))[v]? = some (some x)
          rw [List.set_set, List.getElem?_set_self hv]
        · have := List.length_filter_le p (ys.take i)
          rw [List.length_take] at this
          exact small1000 (by omega)
        · rw [upd_same, tk, List.filter_append]
          simp [e]
      | false =>
        refine iteF ⟨g5.trans g6, ?_⟩
        rw [eD6, tk, List.filter_append]
        simp [e]
    · rintro H5 ⟨g5, eD⟩
      rw [List.take_of_length_le (Nat.le_refl _)] at eD
      exact q _ H5 (g1.trans g5) ⟨D, _, rfl, nb, eD, is_consts⟩
/-- [e for x in xs], new things -/
theorem e_lcA {v m : Nat} (f : Sh → Sh) (hf : ∀ s, s ∈ ss → det m (f s) = true) (hl : Ev1 b tl σ H0 (.l ss)) (hn : ss.length ≤ 1000) (el : ∀ (i : Nat) s, ss[i]? = some s → ∀ H x, Go b H0 H → Is b H s x → EvA b te ((wipe σ [v]).set v (some x)) H (f s)) : Ev1 b (tLc (iList K tl) (gName v) tYes te [v]) σ H0 (.l (ss.map f)) := fun H g Q q =>
  hl H g _ fun u H1 g1 i1 => by
    obtain ⟨a, xs, rfl, na, o, r⟩ := i1
    refine ⟨a, rfl, ⟨_, SqL.of o⟩, fun D nD => ?_⟩
    have hB := g1.1
    have nb := hB.ne nD
    have lx := r.length
    refine lc_list (K := K) (a := a) (xs := xs) (fun i H5 => Go b H1 H5 ∧ ∃ ys, H5 D = some (.lst ys) ∧ IsAll b H5 ((ss.take i).map f) ys ∧ IsAll D H5 ((ss.take i).map f) ys) ⟨(Go.refl hB).put hB nD, [], upd_same, rfl, rfl⟩ (fun i H5 _ h => SqL.of (h.1.2 _ _ na o)) ?_ ?_
    · rintro i x H5 hx ⟨g5, ys, eD, k1, k2⟩
      have hi : i < xs.length := (List.getElem?_eq_some_iff.mp hx).1
      obtain ⟨s, hs, is⟩ := r.at hx
      refine ⟨by show (((σ.set v none).set v _).set v none) = σ.set v none; rw [List.set_set, List.set_set], ?_⟩
      show te _ H5 _
      refine el i s hs H5 x (g.trans (g1.trans g5)) (is.go g5) D _ eD nb _ fun y H6 g6 i6 j6 => ?_
      have eD6 := g6.2 _ _ nb eD
      have dd : ((ss.take i).map f).all (det m) = true := List.all_eq_true.mpr fun s hs => by
        obtain ⟨j, hj, e⟩ := List.mem_map.mp hs
        rw [← e]; exact hf j (List.mem_of_mem_take hj)
      have gD : ∀ (ys' : List V) a o, a ≠ D → H6 a = some o → upd H6 D (.lst ys') a = some o := fun ys' a o n e => by rw [upd_ne n]; exact e
      -- D's own elements stand: from H5 to H6 the bag may move, but no element is the bag
      have k16 := k1.go g6
      have k26 : IsAll D H6 ((ss.take i).map f) ys := isAll_other' k16 k2 dd g6.2 k1
      obtain ⟨z1, z2⟩ := IsAll.both (gD (ys ++ [y])) dd k16 k26
      obtain ⟨z3, z4⟩ := Is.both (gD (ys ++ [y])) (hf s (List.mem_of_getElem? hs)) i6 j6
      refine ⟨ys, eD6, ?_, (g5.trans g6).put hB nD, ys ++ [y], upd_same, ?_, ?_⟩
      · have := k1.length
        rw [List.length_map, List.length_take] at this
        exact small1000 (by omega)
      · rw [List.take_add_one, hs, List.map_append]; exact isAll_snoc z1 z3
      · rw [List.take_add_one, hs, List.map_append]; exact isAll_snoc z2 z4
    · rintro H5 ⟨g5, ys, eD, k1, _⟩
      rw [lx, List.take_length] at k1
      exact q _ H5 (g1.trans g5) ⟨D, ys, rfl, nb, eD, k1⟩
end
end Rd
set_option maxHeartbeats 4000000
namespace Rd
open PySem PySem.Spec PyProof.Rows L2 L2H HotX
/-! ## the law's steps -/
section
variable {b : Addr} {σ : L2.St} {H0 : Hp} {te ta tb tl ti : TE} {tr : TA} {s s' : Sh} {ss : List Sh} {K : PySem.W.Frag} {mg : Str → Option Value} {T : Txt K mg}
theorem e_lsides {k : Str} (h : EvN b tr σ H0 [.c (.str k)]) (hk : k = "plain" ∨ k = "point" ∨ k = "crossing") : Ev1 b (tCall spLSides [] E0 tr) σ H0 (.l ((sidesOf k).map Sh.c)) :=
  e_call h fun vs H g i Q q => by
    obtain ⟨v, rfl, i1⟩ := is1 i
    rw [show v = _ from i1]
    exact ⟨k, rfl, hk, fun H' p sm np ep => q _ H' (Go.of_same g.1 sm) ⟨p, _, rfl, g.1.ne np, ep, is_consts⟩⟩
theorem e_sec {k n : Str} {i : Int} (h : EvN b tr σ H0 [.c (.str k), .c (.str n), .c (.int i)]) (hk : k = "plain" ∨ k = "point" ∨ k = "crossing") (hn : isNm (.str n) = true) (hi : isNum (.int i) 1 50 = true) : Ev1 b (tCall (spLSec T) [] E0 tr) σ H0 (.n (clsOf T k) (secF (.str n) (.int i))) :=
  e_call h fun vs H g i Q q => by
    obtain ⟨v, w, x, rfl, i1, i2, i3⟩ := is3 i
    rw [show v = _ from i1, show w = _ from i2, show x = _ from i3]
    exact ⟨b, k, n, _, rfl, g.1, hk, hn, hi, fun v H' g' i' => q v H' g' i'⟩
theorem e_ix {j : Nat} (h : Ev1 b ta σ H0 (.l ss)) (k : Ev1 b ti σ H0 (.c (.int (j : Nat)))) (n : ss[j]? = some s) : Ev1 b (tOp (rIxL K) ta ti) σ H0 s := fun H g Q q =>
  h H g _ fun v H1 g1 i1 => k H1 (g.trans g1) _ fun w H2 g2 i2 => by
    obtain ⟨p1, vs, rfl, n1, o1, r1⟩ := i1.go g2
    have hj : j < vs.length := by rw [r1.length]; exact (List.getElem?_eq_some_iff.mp n).1
    obtain ⟨s', hs, is⟩ := r1.at (List.getElem?_eq_getElem hj)
    cases n.symm.trans hs
    exact ⟨p1, vs, j, _, rfl, i2, SqL.of o1, atI_nat (List.getElem?_eq_getElem hj), q _ H2 (g1.trans g2) is⟩
theorem e_oneDraw (h : Ev1 b te σ H0 (.is fun v => ∃ d : Int, 0 ≤ d ∧ d < 50 ∧ v = .int d)) : Ev1 b (tOp (rI0 fun i j => .int (i + j)) (tC (.int 1)) te) σ H0 (.is fun v => ∃ d : Int, 1 ≤ d ∧ d ≤ 50 ∧ v = .int d) := fun H g Q q =>
  h H g _ fun v H1 g1 i1 => by
    obtain ⟨d, d0, d1, rfl⟩ := i1
    exact ⟨1, d, rfl, rfl, q _ H1 g1 ⟨1 + d, by omega, by omega, rfl⟩⟩
theorem e_isi {C : Addr} {fs : List (Str × V)} (hC : T.S C) (h : Ev1 b te σ H0 (.n C fs)) : Ev1 b (tCB (rIsi K) (tCons te (tCons (tC (.ref T.aSection)) tNil))) σ H0 (.c (.bl true)) := fun H g Q q =>
  h H g _ fun v H1 g1 i1 => by
    obtain ⟨a, d, rfl, n1, e⟩ := i1
    exact ⟨.ref a, .ref T.aSection, .ref C, .ref T.aSection, true, rfl, .own _, T.ins hC e, T.isS C hC, q _ H1 g1 rfl⟩
theorem e_anyL {bs : List Bool} (h : Ev1 b te σ H0 (.l (bs.map fun x => .c (.bl x)))) : Ev1 b (tCB (rAny K) (tCons te tNil)) σ H0 (.c (.bl (bs.any id))) := fun H g Q q =>
  h H g _ fun v H1 g1 i1 => by
    obtain ⟨p, vs, rfl, n1, o, r⟩ := i1
    have e : vs = bs.map V.bl := by
      have go : ∀ {l : List Bool} {m : List V}, IsAll b H1 (l.map fun x => .c (.bl x)) m → m = l.map V.bl := by
        intro l
        induction l with
        | nil => exact fun h => h
        | cons z l ih =>
          rintro m ⟨w, ws, rfl, h1, h2⟩
          rw [show w = _ from h1, ih h2]
          rfl
      exact go r
    subst e
    exact ⟨p, bs, rfl, SqL.of o, q _ H1 g1 rfl⟩
theorem e_orV {x y : Bool} (h : Ev1 b ta σ H0 (.c (.bl x))) (k : Ev1 b tb σ H0 (.c (.bl y))) : Ev1 b (tOrV ta tb) σ H0 (.c (.bl (x || y))) := fun H g Q q =>
  h H g _ fun v H1 g1 i1 => ⟨x, i1, by
    cases x with
    | true => exact iteT (q _ H1 g1 rfl)
    | false => exact iteF (k H1 (g.trans g1) _ fun w H2 g2 i2 => q w H2 (g1.trans g2) i2)⟩
/-! ### things that hold nothing known -/
theorem way_both {b c : Addr} {H : Hp} {zs : List (Str × Str)} {p : Addr} {xs : List V} (hb : H b = some (.lst xs)) (n : p ≠ b) (h : Is c H (waySh zs) (.ref p)) : Is b H (waySh zs) (.ref p) := by
  obtain ⟨p', vs, e, _, o, r⟩ := h
  cases e
  refine ⟨p, vs, rfl, n, o, ?_⟩
  have go : ∀ {l : List (Str × Str)} {m : List V}, IsAll c H (l.map fun z => .t [.c (.str z.1), .c (.str z.2)]) m → IsAll b H (l.map fun z => .t [.c (.str z.1), .c (.str z.2)]) m := by
    intro l
    induction l with
    | nil => exact fun h => h
    | cons z l ih =>
      rintro m ⟨w, ws, rfl, ⟨t, us, rfl, n1, o1, r1⟩, h2⟩
      obtain ⟨u1, u2, rfl, x1, x2⟩ := is2 r1
      exact ⟨_, ws, rfl, ⟨t, _, rfl, (fun z => by rw [z, hb] at o1; cases o1), o1, u1, _, rfl, x1, u2, _, rfl, x2, rfl⟩, ih h2⟩
  exact go r
theorem eA_tup2 {x y : V} (h : Ev1 b ta σ H0 (.c x)) (k : Ev1 b tb σ H0 (.c y)) (hB : Bag H0 b) : EvA b (tTup (tCons ta (tCons tb tNil))) σ H0 (.t [.c x, .c y]) := fun c o hc nc Q q =>
  h H0 (.refl hB) _ fun v H1 g1 i1 => k H1 g1 _ fun w H2 g2 i2 => by
    rw [show v = _ from i1, show w = _ from i2]
    refine ⟨by show 2 ≤ sizeLine; decide, fun p np => ?_⟩
    have g3 := g1.trans g2
    have pc : p ≠ c := (ne_of_none (g3.2 _ _ nc hc) np).symm
    have mk : ∀ d : Addr, p ≠ d → Is d (upd H2 p (.tup [x, y])) (.t [.c x, .c y]) (.ref p) := fun d hd => ⟨p, _, rfl, hd, upd_same, _, _, rfl, rfl, _, _, rfl, rfl, rfl⟩
    exact q _ _ (g3.new np) (mk b (g3.1.ne np)) (mk c pc)
theorem eA_ways {C : Addr} {x y : V} {s : Sh} {k : Nat} {dt : PyData} {z : Str} (hB : Bag H0 b) (hC : T.S C) (hz : kindOf T C = z) (h : Ev1 b te σ H0 (.n C (secF x y))) (h2 : Ev1 b ta σ H0 s) (hd : det k s = true) (ed : datOf s = dt) (hs : SeqAt.shaped dt = true) : EvA b (tMethF T.S "ways" (spWays T) te (tCons ta tNil)) σ H0 (waySh (rawOf z dt)) := fun c o hc nc Q q =>
  h H0 (.refl hB) _ fun v H1 g1 i1 => by
    subst hz
    obtain ⟨a, d, rfl, n, e⟩ := i1
    refine ⟨a, C, d, secF x y, rfl, hC, e, rfl, h2 H1 g1 _ fun w H2 g2 i2 => ?_⟩
    have g3 := g1.trans g2
    refine ⟨a, C, d, c, secF x y, w, dt, rfl, hC, g2.2 _ _ n e, rfl, by rw [← ed]; exact Is.dp hd i2, hs, ⟨_, g3.2 _ _ nc hc⟩, fun H' v sm ⟨p, ep, np⟩ iv => ?_⟩
    subst ep
    have hB' := g3.1.same sm
    obtain ⟨xs, eb⟩ := hB'.some
    exact q _ H' (g3.same sm) (way_both eb (g3.1.ne np) iv) iv
theorem eA_lways {k g' : Str} (hB : Bag H0 b) (h : EvN b tr σ H0 [.c (.str k), .c (.str g')]) (hg : gateOf k g') : EvA b (tCall spLWays [] E0 tr) σ H0 (waySh (rawOf k (.str g'))) := fun c o hc nc Q q =>
  h H0 (.refl hB) _ fun vs H1 g1 i1 => by
    obtain ⟨v, w, rfl, e1, e2⟩ := is2 i1
    rw [show v = _ from e1, show w = _ from e2]
    refine ⟨k, g', c, rfl, hg, ⟨_, g1.2 _ _ nc hc⟩, fun H' v sm ⟨p, ep, np⟩ iv => ?_⟩
    subst ep
    have hB' := g1.1.same sm
    obtain ⟨xs, eb⟩ := hB'.some
    exact q _ H' (g1.same sm) (way_both eb (g1.1.ne np) iv) iv
end
section
variable {b : Addr} {σ : L2.St} {H : Hp} {te ta : TE} {s : Sh} {D : Ends} {t1 t2 : TS} {K : PySem.W.Frag}
theorem q_ifn (hB : Bag H b) (h : Ev1 b te σ H (.c (.bl true))) (q : ∀ H', Go b H H' → t2 D σ H') : tSeq (tIfS (tNot (tB te)) t1 tNext) t2 D σ H :=
  h H (.refl hB) _ fun v H1 g1 i1 => ⟨true, i1, iteF (q H1 g1)⟩
theorem q_ifn1 (hB : Bag H b) (h : Ev1 b te σ H (.c (.bl true))) (q : ∀ H', Go b H H' → D.nx σ H') : tIfS (tNot (tB te)) t1 tNext D σ H :=
  h H (.refl hB) _ fun v H1 g1 i1 => ⟨true, i1, iteF (q H1 g1)⟩
theorem q_ifOrN (hB : Bag H b) (h : Ev1 b te σ H (.c (.bl true))) (k : Ev1 b ta σ H (.c (.bl true))) (q : ∀ H', Go b H H' → t2 D σ H') : tSeq (tIfS (tOr (tNot (tB te)) (tNot (tB ta))) t1 tNext) t2 D σ H :=
  h H (.refl hB) _ fun v H1 g1 i1 => ⟨true, i1, iteF (k H1 g1 _ fun w H2 g2 i2 => ⟨true, i2, iteF (q H2 (g1.trans g2))⟩)⟩
theorem q_ifOrA (hB : Bag H b) (h : Ev1 b te σ H (.c (.bl false))) (k : Ev1 b ta σ H (.c (.bl false))) (q : ∀ H', Go b H H' → t2 D σ H') : tSeq (tIfS (tOr (tTest te) (tB ta)) t1 tNext) t2 D σ H :=
  h H (.refl hB) _ fun v H1 g1 i1 => ⟨false, i1, iteF (k H1 g1 _ fun w H2 g2 i2 => ⟨false, i2, iteF (q H2 (g1.trans g2))⟩)⟩
theorem q_ifOr3 {tc : TE} (hB : Bag H b) (h : Ev1 b te σ H (.c (.bl false))) (k : Ev1 b ta σ H (.c (.bl false))) (l : Ev1 b tc σ H (.c (.bl false))) (q : ∀ H', Go b H H' → t2 D σ H') : tSeq (tIfS (tOr (tTest te) (tOr (tTest ta) (tTest tc))) t1 tNext) t2 D σ H :=
  h H (.refl hB) _ fun v H1 g1 i1 => ⟨false, i1, iteF (k H1 g1 _ fun w H2 g2 i2 => ⟨false, i2, iteF (l H2 (g1.trans g2) _ fun u H3 g3 i3 => ⟨false, i3, iteF (q H3 ((g1.trans g2).trans g3))⟩)⟩)⟩
end
end Rd
set_option maxHeartbeats 20000000
namespace Rd
open PySem PySem.Spec PyProof.Rows L2 L2H HotX
/-! ## the law -/
def kindSh : List Sh := [.c (.str "plain"), .c (.str "point"), .c (.str "crossing")]
theorem q_words {K : PySem.W.Frag} {b : Addr} {σ : L2.St} {H : Hp} {t2 : TS} {D : Ends} (hB : Bag H b) (h1 : σ[1]? = some (some (.ref b)))
    (q : ∀ (x : V) (k : Str) H' w0 w1, Go b H H' → Is b H' (.l [.c (.str w0), .c (.str w1)]) x → isNm (.str w0) = true → isNm (.str w1) = true → w0 ≠ w1 → (k = "plain" ∨ k = "point" ∨ k = "crossing") → t2 D ((σ.set 3 (some x)).set 4 (some (.str k))) H') :
    tSeq (tAsg (tTup (tCons (tCall spWords [] E0 (tCons (tVar 1) (tCons (tC (.int 2)) tNil))) (tCons (tCall spOfL [] E0 (tCons (tVar 1) (tCons (tLst (tCons (tC (.str "plain")) (tCons (tC (.str "point")) (tCons (tC (.str "crossing")) tNil)))) tNil))) tNil))) (gTup K 2 (gCons (gName 3) (gCons (gName 4) gNil)))) t2 D σ H := by
  refine ⟨.ref b, h1, b, 2, rfl, hB, by decide, fun p f H1 g1 np pb ep nm inj => ?_⟩
  show tCall spOfL _ _ _ _ _ _
  refine ev_use (b := b) (s := .o kindSh) (e_ofL (n_cons (e_var h1 rfl) (n_cons (e_lst (n_cons e_c (n_cons e_c (n_cons e_c n_nil))) (by decide)) n_nil)) (by decide) (by decide)) g1.1 fun y H2 g2 i2 => ?_
  obtain ⟨s, m, i3⟩ := IsOne.mem i2
  obtain ⟨k, rfl, hk⟩ : ∃ k : Str, y = .str k ∧ (k = "plain" ∨ k = "point" ∨ k = "crossing") := by
    simp only [kindSh, List.mem_cons, List.not_mem_nil, or_false] at m
    rcases m with rfl | rfl | rfl
    · exact ⟨_, i3, .inl rfl⟩
    · exact ⟨_, i3, .inr (.inl rfl)⟩
    · exact ⟨_, i3, .inr (.inr rfl)⟩
  refine ⟨by show 2 ≤ sizeLine; decide, fun pt nt => ⟨pt, _, rfl, SqT.of upd_same, rfl, .ref p, _, rfl, .str k, _, rfl, rfl, ?_⟩⟩
  have g3 := (g1.trans g2).new (o := .tup [.ref p, .str k]) nt
  refine q (.ref p) k _ (f 0) (f 1) g3 ⟨p, _, rfl, pb, ?_, is_consts (xs := [.str (f 0), .str (f 1)])⟩ (nm 0 (by decide)) (nm 1 (by decide)) (fun e => absurd (inj 0 1 (by decide) (by decide) e) (by decide)) hk
  have ep2 := g2.2 _ _ pb ep
  exact same_new nt _ _ ep2
theorem clsOf_S {K : PySem.W.Frag} {mg : Str → Option Value} (T : Txt K mg) (k : Str) : T.S (clsOf T k) := by
  unfold clsOf
  split
  · exact .inr (.inl rfl)
  split
  · exact .inr (.inr (.inl rfl))
  · exact .inr (.inr (.inr rfl))
theorem clsOf_kind {K : PySem.W.Frag} {mg : Str → Option Value} (T : Txt K mg) {k : Str} (hk : k = "plain" ∨ k = "point" ∨ k = "crossing") : kindOf T (clsOf T k) = k := by
  rcases hk with rfl | rfl | rfl
  · rw [show clsOf T "plain" = T.aPlain from if_pos rfl]; exact kind_plain T
  · rw [show clsOf T "point" = T.aPoint from (if_neg (by decide +kernel)).trans (if_pos rfl)]; exact kind_point T
  · rw [show clsOf T "crossing" = T.aCrossing from (if_neg (by decide +kernel)).trans (if_neg (by decide +kernel))]; exact kind_cross T
theorem clsOf_ne {K : PySem.W.Frag} {mg : Str → Option Value} (T : Txt K mg) (k : Str) : clsOf T k ≠ T.aSection := by
  unfold clsOf
  split
  · exact T.neP
  split
  · exact T.neT
  · exact T.neX
def ofC (f : V → Sh) : Sh → Sh
  | .c x => f x
  | s => s
theorem map_ofC (f : V → Sh) (xs : List V) : (xs.map Sh.c).map (ofC f) = xs.map f := by rw [List.map_map]; rfl
theorem e_lcC {b : Addr} {σ : L2.St} {H0 : Hp} {te tl : TE} {K : PySem.W.Frag} {xs : List V} {v m : Nat} (f : V → Sh) (hf : ∀ x, x ∈ xs → det m (f x) = true) (hl : Ev1 b tl σ H0 (.l (xs.map Sh.c))) (hn : xs.length ≤ 1000) (el : ∀ x, x ∈ xs → ∀ H, Go b H0 H → EvA b te ((wipe σ [v]).set v (some x)) H (f x)) : Ev1 b (tLc (iList K tl) (gName v) tYes te [v]) σ H0 (.l (xs.map f)) := by
  rw [← map_ofC]
  refine e_lcA (m := m) (ofC f) (fun s hs => ?_) hl (by rw [List.length_map]; exact hn) fun i s hs H x g is => ?_
  · obtain ⟨x, hx, rfl⟩ := List.mem_map.mp hs
    exact hf x hx
  · rw [List.getElem?_map] at hs
    cases e : xs[i]? with
    | none => rw [e] at hs; cases hs
    | some y =>
      rw [e] at hs
      cases hs
      obtain rfl : x = y := is
      exact el x (List.mem_of_getElem? e) H g
theorem sides_gate {k : Str} (hk : k = "plain" ∨ k = "point" ∨ k = "crossing") {x : V} (hx : x ∈ sidesOf k) : ∃ g : Str, x = .str g ∧ gateOf k g ∧ PyData.strOk g = true ∧ g.length ≤ 5 := by
  rcases hk with rfl | rfl | rfl
  · rw [show sidesOf "plain" = [.str "a", .str "b"] from by decide +kernel] at hx
    simp only [List.mem_cons, List.not_mem_nil, or_false] at hx
    rcases hx with rfl | rfl
    · exact ⟨"a", rfl, .inl ⟨rfl, .inl rfl⟩, by decide +kernel, by decide⟩
    · exact ⟨"b", rfl, .inl ⟨rfl, .inr rfl⟩, by decide +kernel, by decide⟩
  · rw [show sidesOf "point" = [.str "left", .str "right", .str "stem"] from by decide +kernel] at hx
    simp only [List.mem_cons, List.not_mem_nil, or_false] at hx
    rcases hx with rfl | rfl | rfl
    · exact ⟨"left", rfl, .inr (.inl ⟨rfl, .inl rfl⟩), by decide +kernel, by decide⟩
    · exact ⟨"right", rfl, .inr (.inl ⟨rfl, .inr (.inl rfl)⟩), by decide +kernel, by decide⟩
    · exact ⟨"stem", rfl, .inr (.inl ⟨rfl, .inr (.inr rfl)⟩), by decide +kernel, by decide⟩
  · rw [show sidesOf "crossing" = [.str "a", .str "b", .str "c", .str "d"] from by decide +kernel] at hx
    simp only [List.mem_cons, List.not_mem_nil, or_false] at hx
    rcases hx with rfl | rfl | rfl | rfl
    · exact ⟨"a", rfl, .inr (.inr ⟨rfl, .inl rfl⟩), by decide +kernel, by decide⟩
    · exact ⟨"b", rfl, .inr (.inr ⟨rfl, .inr (.inl rfl)⟩), by decide +kernel, by decide⟩
    · exact ⟨"c", rfl, .inr (.inr ⟨rfl, .inr (.inr (.inl rfl))⟩), by decide +kernel, by decide⟩
    · exact ⟨"d", rfl, .inr (.inr ⟨rfl, .inr (.inr (.inr rfl))⟩), by decide +kernel, by decide⟩
theorem sides_sc {k : Str} (hk : k = "plain" ∨ k = "point" ∨ k = "crossing") {x : V} (hx : x ∈ sidesOf k) : isSc x = true := by
  obtain ⟨g, rfl, _⟩ := sides_gate hk hx
  rfl
def toldSh (k w0 : Str) (m : Int) (z z2 : Str) : List Sh := [.c (.str w0), .c (.int m), .c (.str k), .c (.int 50), .l ((sidesOf k).map Sh.c), .l ((sidesOf k).map fun s => .t [.c (.str w0), .c s]), .c (.str z), .c (.str z2)]
theorem det_told {k w0 : Str} {m : Int} {z z2 : Str} (hk : k = "plain" ∨ k = "point" ∨ k = "crossing") : det 4 (.l (toldSh k w0 m z z2)) = true := by
  have l4 := sides_len k
  have h1 : det 3 (.l ((sidesOf k).map Sh.c)) = true := by
    show (decide (((sidesOf k).map Sh.c).length ≤ 1000) && ((sidesOf k).map Sh.c).all (det 2)) = true
    rw [List.length_map, decide_eq_true (by omega), Bool.true_and, List.all_map]
    exact List.all_eq_true.mpr fun x hx => sides_sc hk hx
  have h2 : det 3 (.l ((sidesOf k).map fun s => .t [.c (.str w0), .c s])) = true := by
    show (decide (((sidesOf k).map fun s => Sh.t [.c (.str w0), .c s]).length ≤ 1000) && ((sidesOf k).map fun s => Sh.t [.c (.str w0), .c s]).all (det 2)) = true
    rw [List.length_map, decide_eq_true (by omega), Bool.true_and, List.all_map]
    refine List.all_eq_true.mpr fun x hx => ?_
    show (true && (true && (isSc x && true))) = true
    rw [sides_sc hk hx]
    rfl
  show (decide ((toldSh k w0 m z z2).length ≤ 1000) && (true && (true && (true && (true && (det 3 (.l ((sidesOf k).map Sh.c)) && (det 3 (.l ((sidesOf k).map fun s => .t [.c (.str w0), .c s])) && (true && (true && true))))))))) = true
  rw [h1, h2]
  rfl
theorem det_way {n : Nat} {zs : List (Str × Str)} (h : zs.length ≤ 1000) : det (n + 2) (waySh zs) = true := by
  show (decide ((zs.map fun z => Sh.t [.c (.str z.1), .c (.str z.2)]).length ≤ 1000) && (zs.map fun z => Sh.t [.c (.str z.1), .c (.str z.2)]).all (det (n + 1))) = true
  rw [List.length_map, decide_eq_true h, Bool.true_and, List.all_map]
  exact List.all_eq_true.mpr fun z _ => by cases n <;> rfl
theorem raw_le (k : Str) (d : PyData) : (rawOf k d).length ≤ 1000 := by
  rcases raw_cases k d with h | ⟨z, h⟩ | h
  · rw [h]; exact Nat.zero_le _
  · rw [h]; exact Nat.le_of_ble_eq_true rfl
  · rw [h]; decide
section
variable {K : PySem.W.Frag} {mg : Str → Option Value} {T : Txt K mg} {b C : Addr} {σ : L2.St} {H : Hp} {te ta : TE} {t2 : TS} {D : Ends} {x y u : V} {k : Str}
theorem q_appSides (hB : Bag H b) (hC : T.S C) (h : Ev1 b te σ H (.n C (secF x y))) (q : ∀ H', Go b H H' → t2 D σ H') : tSeq (tDrop (tBM K "list" rAppend (tMethF T.S "sides" (spSides T) te tNil) (tCons (tC u) tNil))) t2 D σ H :=
  h H (.refl hB) _ fun v H1 g1 i1 => by
    obtain ⟨a, d, rfl, n, e⟩ := i1
    refine ⟨a, C, d, secF x y, rfl, hC, e, rfl, a, C, d, secF x y, rfl, hC, e, rfl, fun H' p sm np ep => ⟨.inl ⟨rfl, _, SqL.of ep⟩, p, _, u, rfl, rfl, ep, ?_, ?_⟩⟩
    · have := sides_len (kindOf T C); exact small1000 (by omega)
    · exact q _ (((g1.same sm)).put hB (g1.back hB np))
theorem q_clearEnds (hB : Bag H b) (hC : T.S C) (h : Ev1 b te σ H (.n C (secF x y))) (q : ∀ H', Go b H H' → t2 D σ H') : tSeq (tDrop (tBM0 K "list" rClear (tMethF T.S "ends" (spEnds T) te tNil))) t2 D σ H :=
  h H (.refl hB) _ fun v H1 g1 i1 => by
    obtain ⟨a, d, rfl, n, e⟩ := i1
    obtain ⟨xs, eb⟩ := g1.1.some
    refine ⟨a, C, d, secF x y, rfl, hC, e, rfl, a, C, d, b, secF x y, x, rfl, hC, e, rfl, rfl, ⟨_, eb⟩, fun H' v sm ⟨p, ep, np⟩ iv => ?_⟩
    subst ep
    obtain ⟨p', vs, e', _, o, _⟩ := iv
    cases e'
    exact ⟨.inl ⟨rfl, _, SqL.of o⟩, p, vs, rfl, rfl, o, q _ (((g1.same sm)).put hB (g1.back hB np))⟩
theorem s_appWays {s : Sh} {j : Nat} {dt : PyData} (hB : Bag H b) (hC : T.S C) (h : Ev1 b te σ H (.n C (secF x y))) (h2 : Ev1 b ta σ H s) (hd : det j s = true) (ed : datOf s = dt) (hs : SeqAt.shaped dt = true) (q : ∀ H', Go b H H' → D.nx σ H') : tDrop (tBM K "list" rAppend (tMethF T.S "ways" (spWays T) te (tCons ta tNil)) (tCons (tC u) tNil)) D σ H :=
  h H (.refl hB) _ fun v H1 g1 i1 => by
    obtain ⟨a, d, rfl, n, e⟩ := i1
    refine ⟨a, C, d, secF x y, rfl, hC, e, rfl, h2 H1 g1 _ fun w H2 g2 i2 => ?_⟩
    have g3 := g1.trans g2
    obtain ⟨xs, eb⟩ := g2.1.some
    refine ⟨a, C, d, b, secF x y, w, dt, rfl, hC, g2.2 _ _ n e, rfl, by rw [← ed]; exact Is.dp hd i2, hs, ⟨_, eb⟩, fun H' v sm ⟨p, ep, np⟩ iv => ?_⟩
    subst ep
    obtain ⟨p', vs, e', _, o, r⟩ := iv
    cases e'
    have l := r.length
    rw [List.length_map] at l
    have l2 : (rawOf (kindOf T C) dt).length ≤ 2 := by
      rcases raw_cases (kindOf T C) dt with h | ⟨z, h⟩ | h <;> rw [h]
      · exact Nat.zero_le _
      · exact Nat.le_of_ble_eq_true rfl
      · exact Nat.le_of_ble_eq_true rfl
    exact ⟨.inl ⟨rfl, _, SqL.of o⟩, p, vs, u, rfl, rfl, o, small1000 (by omega), q _ ((g3.same sm).put hB (g3.back hB np))⟩
end
/-! ### odd sides, other kinds -/
def kinds3 : List Str := ["plain", "point", "crossing"]
def seven : List Str := ["a", "b", "c", "d", "left", "right", "stem"]
theorem raw_foreign : ∀ k ∈ kinds3, ∀ g ∈ seven, inV (.str g) (sidesOf k) = false → rawOf k (.str g) = [] := by decide +kernel
theorem raw_more : ∀ k ∈ kinds3, rawOf k (.str "") = [] ∧ rawOf k (.str "up") = [] := by decide +kernel
theorem raw_not {k : Str} {d : PyData} (h : ∀ x, d ≠ .str x) : rawOf k d = [] := by
  have f : ∀ z, isD d z = false := fun z => by
    cases e : isD d z with
    | false => rfl
    | true => exact absurd (eqv_str e) (h z)
  unfold rawOf
  simp only [f, Bool.false_eq_true, if_false, List.append_nil]
  induction waysOf k with
  | nil => rfl
  | cons z l ih => rw [List.flatMap_cons, ih]; rfl
theorem seven_ok : ∀ g ∈ seven, PyData.strOk g = true := by decide +kernel
theorem nm_ok {z : Str} (h : isNm (.str z) = true) : PyData.strOk z = true := by
  rw [isNm_str, Bool.and_eq_true] at h
  unfold PyData.strOk
  rw [← Array.all_toList]
  refine List.all_eq_true.mpr fun c hc => ?_
  have hl := List.all_eq_true.mp h.2 c hc
  unfold low at hl
  rw [Bool.and_eq_true] at hl
  have h2 := of_decide_eq_true hl.2
  exact decide_eq_true (by omega)
/-- a side that a section doesn't have -/
def OddW (k : Str) (s : Sh) : Prop := det 2 s = true ∧ SeqAt.shaped (datOf s) = true ∧ rawOf k (datOf s) = []
theorem shp_tup {x y : Str} (h : PyData.strOk x = true) (h2 : PyData.strOk y = true) : SeqAt.shaped (.tuple [.str x, .str y]) = true := by
  unfold SeqAt.shaped
  simp [PyData.canLay0, PyData.canLayAll0, PyData.depth, PyData.depthAll, h, h2]
theorem odd_const {k : Str} (x : V) (h : isSc x = true) (hx : (∀ g, x = .str g → PyData.strOk g = true ∧ rawOf k (.str g) = [])) : OddW k (.c x) := by
  refine ⟨h, ?_, ?_⟩
  · cases x with
    | non => rw [dat_n]; decide +kernel
    | bl b => rw [dat_b]; cases b <;> decide +kernel
    | int i => rw [dat_i]; unfold SeqAt.shaped; simp [PyData.canLay0, PyData.depth]
    | str g => rw [dat_s]; exact shp_of (hx g rfl).1
    | _ => cases h
  · cases x with
    | non => rw [dat_n]; exact raw_not fun _ e => nomatch e
    | bl b => rw [dat_b]; exact raw_not fun _ e => nomatch e
    | int i => rw [dat_i]; exact raw_not fun _ e => nomatch e
    | str g => rw [dat_s]; exact (hx g rfl).2
    | _ => cases h
theorem odd_more {k w0 g0 : Str} (hk : k ∈ kinds3) (hw : PyData.strOk w0 = true) (hg : PyData.strOk g0 = true) : ∀ s ∈ ([.c .non, .c (.str ""), .c (.str "up"), .c (.int 3), .c (.bl true), .t [.c (.str "a")], .l [.c (.str "a")], .t [.c (.str w0), .c (.str g0)]] : List Sh), OddW k s := by
  obtain ⟨r1, r2⟩ := raw_more k hk
  intro s hs
  simp only [List.mem_cons, List.not_mem_nil, or_false] at hs
  rcases hs with rfl | rfl | rfl | rfl | rfl | rfl | rfl | rfl
  · exact odd_const _ rfl fun _ e => nomatch e
  · exact odd_const _ rfl fun _ e => by cases e; exact ⟨by decide +kernel, r1⟩
  · exact odd_const _ rfl fun _ e => by cases e; exact ⟨by decide +kernel, r2⟩
  · exact odd_const _ rfl fun _ e => nomatch e
  · exact odd_const _ rfl fun _ e => nomatch e
  · refine ⟨rfl, ?_, ?_⟩ <;> rw [datOf_t, List.map_cons, List.map_nil, dat_s]
    · unfold SeqAt.shaped
      simp [PyData.canLay0, PyData.canLayAll0, PyData.depth, PyData.depthAll]
      decide +kernel
    · exact raw_not fun _ e => nomatch e
  · refine ⟨rfl, ?_, ?_⟩ <;> rw [datOf_l, List.map_cons, List.map_nil, dat_s]
    · unfold SeqAt.shaped
      simp [PyData.canLay0, PyData.canLayAll0, PyData.depth, PyData.depthAll]
      decide +kernel
    · exact raw_not fun _ e => nomatch e
  · refine ⟨rfl, ?_, ?_⟩ <;> rw [datOf_t, List.map_cons, List.map_cons, List.map_nil, dat_s, dat_s]
    · exact shp_tup hw hg
    · exact raw_not fun _ e => nomatch e
theorem consts_eq {b : Addr} {H : Hp} : ∀ {l m : List V}, IsAll b H (l.map Sh.c) m → m = l
  | [], _, h => h
  | z :: l, _, h => by
    obtain ⟨w, ws, rfl, h1, h2⟩ := h
    rw [show w = z from h1, consts_eq h2]
section
variable {b : Addr} {σ : L2.St} {H : Hp} {tl : TE} {ss : List Sh} {K : PySem.W.Frag} {D : Ends} {t2 tbd : TS}
theorem q_forL {v : Nat} (hB : Bag H b) (h : Ev1 b tl σ H (.l ss)) (R : Nat → L2.St → Prop) (h0 : R 0 σ)
    (step : ∀ i s x σ' H', ss[i]? = some s → Go b H H' → Is b H' s x → R i σ' → ∀ N : L2.St → Hp → Prop, (∀ σ2 H2, Go b H' H2 → R (i + 1) σ2 → N σ2 H2) → tbd { D with nx := N, ct := N, bk := t2 D } (σ'.set v (some x)) H')
    (done : ∀ σ' H', Go b H H' → R ss.length σ' → t2 D σ' H') : tSeq (tFor (iList K tl) (gName v) tbd) t2 D σ H :=
  h H (.refl hB) _ fun u H6 g6 i6 => by
    obtain ⟨p, xs, rfl, np, o, r⟩ := i6
    refine ⟨p, rfl, ⟨_, SqL.of o⟩, for_list (K := K) (a := p) (xs := xs) (fun i σ' H' => Go b H6 H' ∧ R i σ') ⟨Go.refl g6.1, h0⟩ (fun i σ' H' _ k => SqL.of (k.1.2 _ _ np o)) ?_ ?_⟩
    · rintro i x σ' H' hx ⟨g', k⟩
      obtain ⟨s, hs, is⟩ := r.at hx
      exact step i s x σ' H' hs (g6.trans g') (is.go g') k _ fun σ2 H2 g2 k2 => ⟨g'.trans g2, k2⟩
    · rintro σ' H' ⟨g', k⟩
      exact done σ' H' (g6.trans g') (by rw [← r.length]; exact k)
end
theorem far_of : ∀ k ∈ kinds3, ∃ f0 f1, ((kinds3.map V.str).filter fun x => !decide (x = V.str k)) = [V.str f0, V.str f1] ∧ f0 ∈ kinds3 ∧ f1 ∈ kinds3 ∧ f0 ≠ k ∧ f1 ≠ k := by
  have a1 : ((kinds3.map V.str).filter fun x => !decide (x = V.str "plain")) = [V.str "point", V.str "crossing"] := by decide +kernel
  have a2 : ((kinds3.map V.str).filter fun x => !decide (x = V.str "point")) = [V.str "plain", V.str "crossing"] := by decide +kernel
  have a3 : ((kinds3.map V.str).filter fun x => !decide (x = V.str "crossing")) = [V.str "plain", V.str "point"] := by decide +kernel
  intro k hk
  simp only [kinds3, List.mem_cons, List.not_mem_nil, or_false] at hk
  rcases hk with rfl | rfl | rfl
  · exact ⟨"point", "crossing", a1, by decide, by decide, by decide +kernel, by decide +kernel⟩
  · exact ⟨"plain", "crossing", a2, by decide, by decide, by decide +kernel, by decide +kernel⟩
  · exact ⟨"plain", "point", a3, by decide, by decide, by decide +kernel, by decide +kernel⟩
theorem kinds3_or {k : Str} (h : k ∈ kinds3) : k = "plain" ∨ k = "point" ∨ k = "crossing" := by
  simpa only [kinds3, List.mem_cons, List.not_mem_nil, or_false] using h
theorem same_kind {K : PySem.W.Frag} {mg : Str → Option Value} {T : Txt K mg} {k f n1 n2 : Str} {i j : Int} (hk : k ∈ kinds3) (hf : f ∈ kinds3) (ne : f ≠ k) : sameSec T (clsOf T k) n1 i (clsOf T f) n2 j = false := by
  unfold sameSec
  rw [clsOf_kind T (kinds3_or hk), clsOf_kind T (kinds3_or hf), decide_eq_false (Ne.symm ne), Bool.false_and]
theorem same_base {K : PySem.W.Frag} {mg : Str → Option Value} {T : Txt K mg} {k n1 n2 : Str} {i j : Int} (hk : k ∈ kinds3) : sameSec T (clsOf T k) n1 i T.aSection n2 j = false := by
  unfold sameSec
  rw [clsOf_kind T (kinds3_or hk), kind_sec]
  rcases kinds3_or hk with rfl | rfl | rfl
  · rw [show decide (("plain" : Str) = "none") = false from by decide +kernel, Bool.false_and]
  · rw [show decide (("point" : Str) = "none") = false from by decide +kernel, Bool.false_and]
  · rw [show decide (("crossing" : Str) = "none") = false from by decide +kernel, Bool.false_and]
theorem same_name {K : PySem.W.Frag} {mg : Str → Option Value} {T : Txt K mg} {C n1 n2 : _} {i j : Int} (ne : n1 ≠ n2) : sameSec T C n1 i C n2 j = false := by
  unfold sameSec
  rw [decide_eq_false ne, Bool.false_and, Bool.and_false]
theorem same_size {K : PySem.W.Frag} {mg : Str → Option Value} {T : Txt K mg} {C n : _} {i j : Int} (ne : i ≠ j) : sameSec T C n i C n j = false := by
  unfold sameSec
  rw [decide_eq_false ne, Bool.and_false, Bool.and_false]
theorem same_self {K : PySem.W.Frag} {mg : Str → Option Value} {T : Txt K mg} {C n : _} {i : Int} : sameSec T C n i C n i = true := by simp [sameSec]
theorem bools2_shp (x y : Bool) : SeqAt.shaped (.list [.bool x, .bool y]) = true := by
  unfold SeqAt.shaped
  simp [PyData.canLay0, PyData.canLayAll0, PyData.depth, PyData.depthAll]
theorem bools2_dat (x y : Bool) : datOf (.l [.c (.bl x), .c (.bl y)]) = .list [.bool x, .bool y] := by
  rw [datOf_l]
  simp only [List.map_cons, List.map_nil, dat_b]
theorem e_cvK {K : PySem.W.Frag} {b : Addr} {σ : L2.St} {H0 : Hp} {C i : Addr} {kd : Str} (c : ClsD K C i kd) : Ev1 b (ClX.tCVal K (tC (.ref C)) "KIND") σ H0 (.c (.str kd)) := fun H g Q q => by
  obtain ⟨mc, cr, ⟨u, cv⟩, _⟩ := c.cv
  exact ⟨C, mc, _, u, rfl, cr, cv, q _ H (.refl g.1) rfl⟩
theorem e_cvM {K : PySem.W.Frag} {b : Addr} {σ : L2.St} {H0 : Hp} {C i : Addr} {kd : Str} (c : ClsD K C i kd) : Ev1 b (ClX.tCVal K (tC (.ref C)) "MOST") σ H0 (.c (.int 50)) := fun H g Q q => by
  obtain ⟨mc, cr, _, u, cv⟩ := c.cv
  exact ⟨C, mc, _, u, rfl, cr, cv, q _ H (.refl g.1) rfl⟩
theorem last_dat : datOf (.l [.c (.str "none"), .c (.str "plain"), .c (.str "point"), .c (.str "crossing"), .c (.int 50)]) = .list [.str "none", .str "plain", .str "point", .str "crossing", .int 50] := by
  rw [datOf_l]
  simp only [List.map_cons, List.map_nil, dat_s, dat_i]
theorem last_shp : SeqAt.shaped (.list [.str "none", .str "plain", .str "point", .str "crossing", .int 50]) = true := by
  unfold SeqAt.shaped
  simp [PyData.canLay0, PyData.canLayAll0, PyData.depth, PyData.depthAll]
  decide +kernel
theorem last_eq : PyData.eqv (.list [.str "none", .str "plain", .str "point", .str "crossing", .int 50]) (.list [.str "none", .str "plain", .str "point", .str "crossing", .int 50]) = true := by decide +kernel
def size50 : V → Prop := fun v => ∃ d : Int, 1 ≤ d ∧ d ≤ 50 ∧ v = .int d
section
variable {P : Program} {w : World} {K : PySem.W.Frag} {mg : Str → Option Value} {base : Heap}
def spLaw (K : PySem.W.Frag) (Pt : Addr) : Sp := fun vs H Q _ => ∃ (a : Addr) (ns : List Int), vs = [.ref a] ∧ SqL K H a (ns.map V.int) ∧ ns.length ≤ 63 ∧ TabF H Pt lamQ ∧ ∀ H', Q (.bl true) H'
theorem ok_law (T : Txt K mg) (U : TxW w T) {ct Pt : Addr} (TB : LamX.TabB base mg ct Pt) (hc : T.d__law_refused_so.fd.code = .ref ct) : FnOk P w K mg base CX0 11 T.d_law.f T.d_law.fd ["_law_script"] (spLaw K Pt) := by
  refine T.d_law.F.ok sc_law (fun vs H Q E h => ?_) (fun cdv A outer s H vs Q E hr h => ?_)
  · obtain ⟨a, ns, rfl, _⟩ := h
    rfl
  · obtain ⟨a, ns, rfl, hS, hl, hT, q⟩ := h
    refine ⟨_, (pss_cons (ps_set (i := 1) sc_law.nd rfl (Or.inl rfl) (pe_call (ok_law_bag T) (hr.mono (by decide)) (by rfl) T.d__law_bag.g T.d__law_bag.F.kp T.d__law_bag.b .nil pass0 (pa_cons (pv 0) pa_nil)))
      (pss_cons (ps_for PassesOwn.never rfl (pi_range1 (by rfl) T.z_range (pa_cons pe_int pa_nil)) (pg_name (i := 2) sc_law.nd rfl (Or.inl rfl)) (pss_cons (ps_asg (pe_tup (pa_cons (pe_call (ok_law_words T) (hr.mono (by decide)) (by rfl) T.d__law_words.g T.d__law_words.F.kp T.d__law_words.b .nil pass0 (pa_cons (pv 1) (pa_cons pe_int pa_nil))) (pa_cons (pe_call (ok_law_ofL T) (hr.mono (by decide)) (by rfl) T.d__law_of.g T.d__law_of.F.kp T.d__law_of.b .nil pass0 (pa_cons (pv 1) (pa_cons (pe_lst (pa_cons pe_str (pa_cons pe_str (pa_cons pe_str pa_nil)))) pa_nil))) pa_nil))) (pg_tup rfl (pgs_cons (pg_name (i := 3) sc_law.nd rfl (Or.inr rfl)) (pgs_cons (pg_name (i := 4) sc_law.nd rfl (Or.inr rfl)) pgs_nil))))
      (pss_cons (ps_asg (pe_tup (pa_cons (pe_call (ok_law_ofL T) (hr.mono (by decide)) (by rfl) T.d__law_of.g T.d__law_of.F.kp T.d__law_of.b .nil pass0 (pa_cons (pv 1) (pa_cons (pe_lst (pa_cons pe_int (pa_cons pe_int (pa_cons (pe_op op_add pe_int (pe_call (ok_law_draw T) (hr.mono (by decide)) (by rfl) T.d__law_draw.g T.d__law_draw.F.kp T.d__law_draw.b .nil pass0 (pa_cons (pv 1) (pa_cons pe_int pa_nil)))) pa_nil)))) pa_nil))) (pa_cons (pe_call (ok_law_sides T) (hr.mono (by decide)) (by rfl) T.d__law_sides.g T.d__law_sides.F.kp T.d__law_sides.b .nil pass0 (pa_cons (pv 4) pa_nil)) pa_nil))) (pg_tup rfl (pgs_cons (pg_name (i := 5) sc_law.nd rfl (Or.inl rfl)) (pgs_cons (pg_name (i := 6) sc_law.nd rfl (Or.inr rfl)) pgs_nil))))
      (pss_cons (ps_asg (pe_tup (pa_cons (pe_call (ok_law_section T) (hr.mono (by decide)) (by rfl) T.d__law_section.g T.d__law_section.F.kp T.d__law_section.b .nil pass0 (pa_cons (pv 4) (pa_cons (pe_ix ix_list (pv 3) pe_int (fun _ _ => rfl)) (pa_cons (pv 5) pa_nil)))) (pa_cons (pe_op op_add_str (pe_op op_add_str (pe_op op_add_str (pe_op op_add_str (pv 4) pe_str) (pe_ix ix_list (pv 3) pe_int (fun _ _ => rfl))) pe_str) (pe_callTy call_str_int (by rfl) T.z_str (by decide +kernel) (pa_cons (pv 5) pa_nil))) pa_nil))) (pg_tup rfl (pgs_cons (pg_name (i := 7) sc_law.nd rfl (Or.inr rfl)) (pgs_cons (pg_name (i := 8) sc_law.nd rfl (Or.inl rfl)) pgs_nil))))
      (pss_cons (ps_for PassesOwn.never rfl (pi_range1 (by rfl) T.z_range (pa_cons pe_int pa_nil)) (pg_name (i := 9) sc_law.nd rfl (Or.inl rfl)) (pss_cons (ps_set (i := 10) sc_law.nd rfl (Or.inl rfl) (pe_lst (pa_cons (pe_fld (pv 7) (by rfl)) (pa_cons (pe_fld (pv 7) (by rfl)) (pa_cons (pe_con (pv 7) (by rfl)) (pa_cons (pe_con (pv 7) (by rfl)) (pa_cons (pe_methF0 (pv 7) T.fam T.m_sides.M (ok_sides U) (hr.mono (by decide)) T.m_sides.b pass0) (pa_cons (pe_methF0 (pv 7) T.fam T.m_ends.M (ok_ends U) (hr.mono (by decide)) T.m_ends.b pass0) (pa_cons (pe_methF0 (pv 7) T.fam T.m_text.M (ok_text T) (hr.mono (by decide)) T.m_text.b pass0) (pa_cons (pe_callB (call_repF T.reps T.repf (ok_repr T) (hr.mono (by decide)) T.m_repr.b pass0) (by rfl) T.z_repr (by decide +kernel) (pa_cons (pv 7) pa_nil)) pa_nil))))))))))
      (pss_cons (ps_set (i := 11) sc_law.nd rfl (Or.inl rfl) (pe_lst (pa_cons (pe_ix ix_list (pv 3) pe_int (fun _ _ => rfl)) (pa_cons (pv 5) (pa_cons (pv 4) (pa_cons pe_int (pa_cons (pv 6) (pa_cons (pe_lc (own := [("_law_gate", 17)]) (g := gName 17) (tt := tYes) (te := tTup (tCons (tOp (rIxL K) (tVar 3) (tC (.int 0))) (tCons (tVar 17) tNil))) (by rfl) sc_law.nd (pi_list (pv 6)) (blkOk_by (own := [("_law_gate", 17)]) (N := N_law) (sc := defScope s_law) (by decide +kernel)) (fun _ _ _ _ _ => (pg_name (i := 17) sc_law.nd rfl (Or.inl rfl))) (fun _ _ _ _ _ => pts_nil) (fun _ _ _ _ _ => (pe_tup (pa_cons (pe_ix ix_list (pv 3) pe_int (fun _ _ => rfl)) (pa_cons (pv 17) pa_nil))))) (pa_cons (pv 8) (pa_cons (pe_op op_add_str (pe_op op_add_str pe_str (pv 8)) pe_str) pa_nil))))))))))
      (pss_cons (ps_if (PW.pt (pw_or (pt_not (pt_val (pe_call (ok_law_same T 4) (hr.mono (by decide)) (by rfl) T.d__law_same.g T.d__law_same.F.kp T.d__law_same.b .nil pass0 (pa_cons (pv 10) (pa_cons (pv 11) pa_nil))))) (pw_or1 (pt_not (pt_val (pe_callB call_isi (by rfl) T.z_isinstance (by decide +kernel) (pa_cons (pv 7) (pa_cons (pe_glob (v := .ref T.aSection) rfl T.c_Section rfl) pa_nil)))))))) (pss_one (ps_ret pe_bl)) pss_nil)
      (pss_cons (ps_if (pt_not (pt_val (pe_call (ok_law_same T 4) (hr.mono (by decide)) (by rfl) T.d__law_same.g T.d__law_same.F.kp T.d__law_same.b .nil pass0 (pa_cons (pe_lc (own := [("_law_gate", 17)]) (g := gName 17) (tt := tYes) (by rfl) sc_law.nd (pi_list (pv 6)) (blkOk_by (own := [("_law_gate", 17)]) (N := N_law) (sc := defScope s_law) (by decide +kernel)) (fun _ _ _ _ _ => (pg_name (i := 17) sc_law.nd rfl (Or.inl rfl))) (fun _ _ _ _ _ => pts_nil) (fun _ _ _ _ _ => (pe_methF (pv 7) T.fam T.m_ways.M (ok_ways U) (hr.mono (by decide)) T.m_ways.b pass0 (pa_cons (pv 17) pa_nil)))) (pa_cons (pe_lc (own := [("_law_gate", 17)]) (g := gName 17) (tt := tYes) (by rfl) sc_law.nd (pi_list (pv 6)) (blkOk_by (own := [("_law_gate", 17)]) (N := N_law) (sc := defScope s_law) (by decide +kernel)) (fun _ _ _ _ _ => (pg_name (i := 17) sc_law.nd rfl (Or.inl rfl))) (fun _ _ _ _ _ => pts_nil) (fun _ _ _ _ _ => (pe_call (ok_law_ways T) (hr.mono (by decide)) (by rfl) T.d__law_ways.g T.d__law_ways.F.kp T.d__law_ways.b .nil pass0 (pa_cons (pv 4) (pa_cons (pv 17) pa_nil))))) pa_nil))))) (pss_one (ps_ret pe_bl)) pss_nil)
      (pss_cons (ps_expr (pe_bm PySem.F.plainAttrs_list PySem.F.slot_list_append PySem.F.type_list_append mt_append (pe_methF0 (pv 7) T.fam T.m_sides.M (ok_sides U) (hr.mono (by decide)) T.m_sides.b pass0) (pa_cons pe_str pa_nil)))
      (pss_cons (ps_expr (pe_bm0 PySem.F.plainAttrs_list PySem.F.slot_list_clear PySem.F.type_list_clear mt_clear (pe_methF0 (pv 7) T.fam T.m_ends.M (ok_ends U) (hr.mono (by decide)) T.m_ends.b pass0)))
      (pss_one (ps_expr (pe_bm PySem.F.plainAttrs_list PySem.F.slot_list_append PySem.F.type_list_append mt_append (pe_methF (pv 7) T.fam T.m_ways.M (ok_ways U) (hr.mono (by decide)) T.m_ways.b pass0 (pa_cons (pe_ix ix_list (pv 6) pe_int (fun _ _ => rfl)) pa_nil)) (pa_cons pe_non pa_nil)))))))))))
      (pss_cons (ps_setLc (i := 12) (own := [("_law_gate", 17)]) (g := gName 17) (tt := tTest (tOp (rIn K true) (tVar 17) (tVar 6))) (by rfl) sc_law.nd rfl rfl (sw_true rfl rfl rfl (by decide +kernel)) (pi_list (pe_lst (pa_cons pe_str (pa_cons pe_str (pa_cons pe_str (pa_cons pe_str (pa_cons pe_str (pa_cons pe_str (pa_cons pe_str pa_nil))))))))) (blkOk_by (own := [("_law_gate", 17)]) (N := N_law) (sc := defScope s_law) (by decide +kernel)) (fun _ _ _ _ _ => (pg_name (i := 17) sc_law.nd rfl (Or.inl rfl))) (fun _ _ _ _ _ => pts_one (pt_cmpR op_notIn_seq (pv 17) (pv 6) (by rfl))) (fun _ _ _ _ _ => (pv 17)))
      (pss_cons (ps_for PassesOwn.never rfl (pi_list (pe_op op_cat (pv 12) (pe_lst (pa_cons pe_non (pa_cons pe_str (pa_cons pe_str (pa_cons pe_int (pa_cons pe_bl (pa_cons (pe_tup (pa_cons pe_str pa_nil)) (pa_cons (pe_lst (pa_cons pe_str pa_nil)) (pa_cons (pe_tup (pa_cons (pe_ix ix_list (pv 3) pe_int (fun _ _ => rfl)) (pa_cons (pe_ix ix_list (pv 6) pe_int (fun _ _ => rfl)) pa_nil))) pa_nil))))))))))) (pg_name (i := 13) sc_law.nd rfl (Or.inl rfl)) (pss_one (ps_if (pt_not (pt_val (pe_call (ok_law_same T 4) (hr.mono (by decide)) (by rfl) T.d__law_same.g T.d__law_same.F.kp T.d__law_same.b .nil pass0 (pa_cons (pe_methFK (pv 7) T.fam T.m_ways.M (ok_ways U) (hr.mono (by decide)) (kb_ways T) pass0 (pk_cons (pv 13) pk_nil)) (pa_cons (pe_lst pa_nil) pa_nil))))) (pss_one (ps_ret pe_bl)) pss_nil)))
      (pss_cons (ps_setLc (i := 14) (own := [("_law_other_z", 18)]) (g := gName 18) (by rfl) sc_law.nd rfl rfl (sw_true rfl rfl rfl (by decide +kernel)) (pi_list (pe_lst (pa_cons pe_str (pa_cons pe_str (pa_cons pe_str pa_nil))))) (blkOk_by (own := [("_law_other_z", 18)]) (N := N_law) (sc := defScope s_law) (by decide +kernel)) (fun _ _ _ _ _ => (pg_name (i := 18) sc_law.nd rfl (Or.inl rfl))) (fun _ _ _ _ _ => pts_one (pt_cmpR op_ne (pv 18) (pv 4) (nomark _))) (fun _ _ _ _ _ => (pv 18)))
      (pss_cons (ps_set (i := 15) sc_law.nd rfl (Or.inl rfl) (pe_lst (pa_cons (pe_call (ok_law_section T) (hr.mono (by decide)) (by rfl) T.d__law_section.g T.d__law_section.F.kp T.d__law_section.b .nil pass0 (pa_cons (pe_ix ix_list (pv 14) pe_int (fun _ _ => rfl)) (pa_cons (pe_ix ix_list (pv 3) pe_int (fun _ _ => rfl)) (pa_cons (pv 5) pa_nil)))) (pa_cons (pe_call (ok_law_section T) (hr.mono (by decide)) (by rfl) T.d__law_section.g T.d__law_section.F.kp T.d__law_section.b .nil pass0 (pa_cons (pe_ix ix_list (pv 14) pe_int (fun _ _ => rfl)) (pa_cons (pe_ix ix_list (pv 3) pe_int (fun _ _ => rfl)) (pa_cons (pv 5) pa_nil)))) (pa_cons (pe_call (ok_law_section T) (hr.mono (by decide)) (by rfl) T.d__law_section.g T.d__law_section.F.kp T.d__law_section.b .nil pass0 (pa_cons (pv 4) (pa_cons (pe_ix ix_list (pv 3) pe_int (fun _ _ => rfl)) (pa_cons (pv 5) pa_nil)))) pa_nil)))))
      (pss_cons (ps_set (i := 15) sc_law.nd rfl (Or.inl rfl) (pe_op op_cat (pv 15) (pe_lst (pa_cons (pe_call (ok_law_section T) (hr.mono (by decide)) (by rfl) T.d__law_section.g T.d__law_section.F.kp T.d__law_section.b .nil pass0 (pa_cons (pv 4) (pa_cons (pe_ix ix_list (pv 3) pe_int (fun _ _ => rfl)) (pa_cons (pe_op op_sub pe_int (pv 5)) pa_nil)))) (pa_cons (pe_make T.kSection.made (ok_init T) (hr.mono (by decide)) (by rfl) T.c_Section T.m_init.b .nil passLN (pa_cons (pe_ix ix_list (pv 3) pe_int (fun _ _ => rfl)) (pa_cons (pv 5) pa_nil))) pa_nil)))))
      (pss_cons (ps_set (i := 16) sc_law.nd rfl (Or.inl rfl) (pe_lst (pa_cons (pe_cmpR (op_eqF T.eqf (ok_eq T) (hr.mono (by decide)) T.m_eq.b pass0) (pv 7) (pe_call (ok_law_section T) (hr.mono (by decide)) (by rfl) T.d__law_section.g T.d__law_section.F.kp T.d__law_section.b .nil pass0 (pa_cons (pv 4) (pa_cons (pe_ix ix_list (pv 3) pe_int (fun _ _ => rfl)) (pa_cons (pv 5) pa_nil)))) (nomark _)) (pa_cons (pe_cmpR (op_neF T.fam T.eqf (ok_eq T) (hr.mono (by decide)) T.m_eq.b pass0) (pv 7) (pe_call (ok_law_section T) (hr.mono (by decide)) (by rfl) T.d__law_section.g T.d__law_section.F.kp T.d__law_section.b .nil pass0 (pa_cons (pv 4) (pa_cons (pe_ix ix_list (pv 3) pe_int (fun _ _ => rfl)) (pa_cons (pv 5) pa_nil)))) (nomark _)) pa_nil))))
      (pss_cons (ps_if (PW.pt (pw_or (pt_cmpR (op_neD hr.units) (pv 16) (pe_lst (pa_cons pe_bl (pa_cons pe_bl pa_nil))) (nomark _)) (pw_or1 (pt_val (pe_callB (cr_any rfl) (by rfl) T.z_any (by decide +kernel) (pa_cons (pe_lc (own := [("_law_row", 19)]) (g := gName 19) (tt := tYes) (te := tOrV (tOp (rEqF K (fun C => C = T.aSection ∨ C = T.aPlain ∨ C = T.aPoint ∨ C = T.aCrossing) (spEqS T)) (tVar 7) (tVar 19)) (tOp (rEqF K (fun C => C = T.aSection ∨ C = T.aPlain ∨ C = T.aPoint ∨ C = T.aCrossing) (spEqS T)) (tVar 19) (tVar 7))) (by rfl) sc_law.nd (pi_list (pv 15)) (blkOk_by (own := [("_law_row", 19)]) (N := N_law) (sc := defScope s_law) (by decide +kernel)) (fun _ _ _ _ _ => (pg_name (i := 19) sc_law.nd rfl (Or.inl rfl))) (fun _ _ _ _ _ => pts_nil) (fun _ _ _ _ _ => (pe_or (pe_cmpR (op_eqF T.eqf (ok_eq T) (hr.mono (by decide)) T.m_eq.b pass0) (pv 7) (pv 19) (nomark _)) (pe_one (pe_cmpR (op_eqF T.eqf (ok_eq T) (hr.mono (by decide)) T.m_eq.b pass0) (pv 19) (pv 7) (nomark _)))))) pa_nil)))))) (pss_one (ps_ret pe_bl)) pss_nil)
      (pss_cons (ps_if (PW.pt (pw_or (pt_cmpR (op_eqF T.eqf (ok_eq T) (hr.mono (by decide)) T.m_eq.b pass0) (pv 7) (pv 8) (nomark _)) (pw_or (pt_cmpR (op_eqF T.eqf (ok_eq T) (hr.mono (by decide)) T.m_eq.b pass0) (pv 7) pe_non (nomark _)) (pw_or1 (pt_cmpR (op_eqF T.eqf (ok_eq T) (hr.mono (by decide)) T.m_eq.b pass0) (pv 7) (pe_tup (pa_cons (pv 4) (pa_cons (pe_ix ix_list (pv 3) pe_int (fun _ _ => rfl)) (pa_cons (pv 5) pa_nil)))) (nomark _)))))) (pss_one (ps_ret pe_bl)) pss_nil)
      (pss_one (ps_if (PW.pt (pw_or (pt_not (pt_val (pe_call (ok_law_refused_so T TB hc) (hr.mono (by decide)) (by rfl) T.d__law_refused_so.g T.d__law_refused_so.F.kp T.d__law_refused_so.b .nil pass0 (pa_cons (pv 1) (pa_cons (pe_ix ix_list (pv 3) pe_int (fun _ _ => rfl)) pa_nil))))) (pw_or1 (pt_not (pt_val (pe_call (ok_law_base_so U) (hr.mono (by decide)) (by rfl) T.d__law_base_so.g T.d__law_base_so.F.kp T.d__law_base_so.b .nil pass0 (pa_cons (pe_ix ix_list (pv 3) pe_int (fun _ _ => rfl)) (pa_cons (pv 5) pa_nil)))))))) (pss_one (ps_ret pe_bl)) pss_nil)))))))))))))))
      (pss_one (ps_ret (pe_cmpR (op_eqD hr.units) (pe_lst (pa_cons (ClX.pe_cval (pe_glob (v := .ref T.aSection) rfl T.c_Section rfl)) (pa_cons (ClX.pe_cval (pe_glob (v := .ref T.aPlain) rfl T.c_Plain rfl)) (pa_cons (ClX.pe_cval (pe_glob (v := .ref T.aPoint) rfl T.c_Point rfl)) (pa_cons (ClX.pe_cval (pe_glob (v := .ref T.aCrossing) rfl T.c_Crossing rfl)) (pa_cons (ClX.pe_cval (pe_glob (v := .ref T.aSection) rfl T.c_Section rfl)) pa_nil)))))) (pe_lst (pa_cons pe_str (pa_cons pe_str (pa_cons pe_str (pa_cons pe_str (pa_cons pe_int pa_nil)))))) (nomark _)))))), ?_⟩
    refine ⟨.ref a, rfl, a, ns, rfl, hS, hl, fun b H1 nb s1 hB => ?_⟩
    dsimp only [gName]
    refine ⟨5, rfl, by decide, by decide, for_range (n := 5) (fun i σ H3 => Bag H3 b ∧ TabF H3 Pt lamQ ∧ ∃ v2 v3 v4 v5 v6 v7 v8 v9 v10 v11 v12 v13 v14 v15 v16 v17 v18 v19, σ = [some (.ref a), some (.ref b), v2, v3, v4, v5, v6, v7, v8, v9, v10, v11, v12, v13, v14, v15, v16, v17, v18, v19]) ⟨hB, hT.same s1, none, none, none, none, none, none, none, none, none, none, none, none, none, none, none, none, none, none, rfl⟩ ?_ ?_⟩
    · rintro i σ H3 hi ⟨hB3, hT3, v2, v3, v4, v5, v6, v7, v8, v9, v10, v11, v12, v13, v14, v15, v16, v17, v18, v19, rfl⟩
      dsimp only [gName]
      refine q_words (b := b) hB3 rfl fun v3 k H4 w0 w1 g4 i4 n0 n1 nw hk => ?_
      have lk : k.length ≤ 8 := by rcases hk with rfl | rfl | rfl <;> decide
      have lw : w0.length ≤ 6 := goodName n0
      have e1 : ∀ {σ : L2.St} {H' : Hp}, σ[1]? = some (some (.ref b)) → Ev1 b (tVar 1) σ H' (.c (.ref b)) := fun h => e_var h rfl
      refine q_tup2 (b := b) (s1 := .o [.c (.int 1), .c (.int 50), .is size50]) (s2 := .l ((sidesOf k).map Sh.c)) g4.1 (e_tup (n_cons (e_ofL (n_cons (e1 rfl) (n_cons (e_lst (n_cons e_c (n_cons e_c (n_cons (e_oneDraw (e_draw (n_cons (e1 rfl) (n_cons e_c n_nil)) (by decide) (by decide))) n_nil))) (by decide)) n_nil)) (by decide) (by decide)) (n_cons (e_lsides (n_cons (e_var (i := 4) rfl rfl) n_nil) hk) n_nil)) (Nat.le_of_ble_eq_true rfl)) fun sz gt H5 g5 isz ig => ?_
      obtain ⟨m, rfl, hm⟩ : ∃ m : Int, sz = .int m ∧ (1 ≤ m ∧ m ≤ 50) := by
        obtain ⟨s', ms, i'⟩ := IsOne.mem isz
        simp only [List.mem_cons, List.not_mem_nil, or_false] at ms
        rcases ms with rfl | rfl | rfl
        · exact ⟨1, i', by decide, by decide⟩
        · exact ⟨50, i', by decide, by decide⟩
        · obtain ⟨d, d0, d1, e⟩ := i'
          exact ⟨d, e, d0, d1⟩
      clear isz
      have hm' := num50' hm
      have lm : ((toString m : String) : Str).length ≤ 5 := str_int_len m (by omega)
      have hC := clsOf_S T k
      have hK := clsOf_kind T hk
      have i45 := i4.go g5
      have ls : (" " : Str).length = 1 := by decide +kernel
      refine q_tup2 (b := b) (s1 := .n (clsOf T k) (secF (.str w0) (.int m))) (s2 := .c (.str (k ++ " " ++ w0 ++ " " ++ (toString m : String)))) g5.1 (e_tup (n_cons (e_sec (n_cons (e_var (i := 4) rfl rfl) (n_cons (e_ix (j := 0) (e_var (i := 3) rfl i45) e_c rfl) (n_cons (e_var (i := 5) rfl rfl) n_nil))) hk n0 hm')
        (n_cons (e_cats (e_cats (e_cats (e_cats (e_var (i := 4) rfl rfl) e_c (by omega)) (e_ix (j := 0) (e_var (i := 3) rfl i45) e_c rfl) (by simp only [app_len]; omega)) e_c (by simp only [app_len]; omega)) (e_strI (e_var (i := 5) rfl rfl) (by omega)) (by simp only [app_len]; omega)) n_nil)) (Nat.le_of_ble_eq_true rfl)) fun md sh H6 g6 im ish => ?_
      obtain rfl : sh = .str (k ++ " " ++ w0 ++ " " ++ (toString m : String)) := ish
      have lz : (k ++ " " ++ w0 ++ " " ++ (toString m : String)).length ≤ 30 := by simp only [app_len]; omega
      have hz : shown k w0 m = k ++ " " ++ w0 ++ " " ++ (toString m : String) := rfl
      have i46 := i45.go g6
      have ig6 := ig.go g6
      generalize k ++ " " ++ w0 ++ " " ++ (toString m : String) = z at lz hz
      refine ⟨2, rfl, by decide, by decide, for_range (n := 2) (fun i' σ H7 => Go b H6 H7 ∧ ∃ v9 v10 v11 v12 v13 v14 v15 v16 v17 v18 v19, σ = [some (.ref a), some (.ref b), some (.int (0 + (i : Nat))), some v3, some (.str k), some (.int m), some gt, some md, some (.str z), v9, v10, v11, v12, v13, v14, v15, v16, v17, v18, v19]) ⟨.refl g6.1, _, _, _, _, _, _, _, _, _, _, _, rfl⟩ ?_ ?_⟩
      · rintro i2 σ H7 hi2 ⟨g7, v9, v10, v11, v12, v13, v14, v15, v16, v17, v18, v19, rfl⟩
        dsimp only [gName]
        have em : ∀ {σ : L2.St} {H' : Hp}, Go b H7 H' → σ[7]? = some (some md) → Ev1 b (tVar 7) σ H' (.n (clsOf T k) (secF (.str w0) (.int m))) := fun g h => e_var h ((im.go g7).go g)
        have eg : ∀ {σ : L2.St} {H' : Hp}, Go b H7 H' → σ[6]? = some (some gt) → Ev1 b (tVar 6) σ H' (.l ((sidesOf k).map Sh.c)) := fun g h => e_var h ((ig6.go g7).go g)
        have ew : ∀ {σ : L2.St} {H' : Hp}, Go b H7 H' → σ[3]? = some (some v3) → Ev1 b (tVar 3) σ H' (.l [.c (.str w0), .c (.str w1)]) := fun g h => e_var h ((i46.go g7).go g)
        have r7 := Go.refl g7.1
        have ma : m.natAbs ≤ 1000 := by omega
        have lw' : w0.length ≤ 1000 := by omega
        refine q_set (b := b) (s := .l (toldSh k w0 m z ("Section(" ++ z ++ ")"))) g7.1 ?_ fun v10 H8 g8 i10 => ?_
        · rw [← hz]
          exact e_lst (n_cons (e_name hC (em r7 rfl)) (n_cons (e_len hC (em r7 rfl)) (n_cons (e_kind hC hK (em r7 rfl)) (n_cons (e_most hC (em r7 rfl)) (n_cons (e_sides hC hK (em r7 rfl)) (n_cons (e_ends hC hK (em r7 rfl)) (n_cons (e_text hC hK lw' ma (em r7 rfl)) (n_cons (e_repr hC hK lw' ma (em r7 rfl)) n_nil)))))))) (Nat.le_of_ble_eq_true rfl)
        have gg8 := r7.trans g8
        have lS : ("Section(" : Str).length = 8 := by decide +kernel
        have lR : (")" : Str).length = 1 := by decide +kernel
        refine q_set (b := b) (s := .l (toldSh k w0 m z ("Section(" ++ z ++ ")"))) g8.1 (e_lst (n_cons (e_ix (j := 0) (ew gg8 rfl) e_c rfl) (n_cons (e_var (i := 5) rfl rfl) (n_cons (e_var (i := 4) rfl rfl) (n_cons e_c (n_cons (eg gg8 rfl)
          (n_cons (e_lcC (m := 1) (fun x => .t [.c (.str w0), .c x]) (fun x hx => by show (true && (true && (isSc x && true))) = true; rw [sides_sc hk hx]; rfl) (eg gg8 rfl) (by have := sides_len k; omega) fun x hx H' g => eA_tup2 (e_ix (j := 0) (ew (gg8.trans g) rfl) e_c rfl) (e_var (i := 17) rfl rfl) g.1)
          (n_cons (e_var (i := 8) rfl rfl) (n_cons (e_cats (e_cats e_c (e_var (i := 8) rfl rfl) (by omega)) e_c (by simp only [app_len]; omega)) n_nil)))))))) (Nat.le_of_ble_eq_true rfl)) fun v11 H9 g9 i11 => ?_
        have gg9 := gg8.trans g9
        refine q_ifOrN (b := b) g9.1 (e_same (n_cons (e_var (i := 10) rfl (i10.go g9)) (n_cons (e_var (i := 11) rfl i11) n_nil)) (det_told hk)) (e_isi hC (em gg9 rfl)) fun H10 g10 => ?_
        have gg10 := gg9.trans g10
        have fway : ∀ x, x ∈ sidesOf k → det 3 (waySh (rawOf k (datOf (.c x)))) = true := fun x _ => det_way (raw_le _ _)
        have dways : det 4 (.l ((sidesOf k).map fun x => waySh (rawOf k (datOf (.c x))))) = true := by
          show (decide (((sidesOf k).map fun x => waySh (rawOf k (datOf (.c x)))).length ≤ 1000) && ((sidesOf k).map fun x => waySh (rawOf k (datOf (.c x)))).all (det 3)) = true
          have := sides_len k
          rw [List.length_map, decide_eq_true (by omega), Bool.true_and, List.all_map]
          exact List.all_eq_true.mpr fun x hx => fway x hx
        refine q_ifn (b := b) g10.1 (e_same (n_cons (e_lcC (m := 3) (fun x => waySh (rawOf k (datOf (.c x)))) fway (eg gg10 rfl) (by have := sides_len k; omega) fun x hx H' g => ?_) (n_cons (e_lcC (m := 3) (fun x => waySh (rawOf k (datOf (.c x)))) fway (eg gg10 rfl) (by have := sides_len k; omega) fun x hx H' g => ?_) n_nil)) dways) fun H11 g11 => ?_
        · obtain ⟨g', rfl, hg, so, _⟩ := sides_gate hk hx
          exact eA_ways (k := 0) g.1 hC hK (em (gg10.trans g) rfl) (e_var (s := .c (.str g')) (i := 17) rfl rfl) rfl rfl (by rw [dat_s]; exact shp_of so)
        · obtain ⟨g', rfl, hg, so, _⟩ := sides_gate hk hx
          rw [dat_s]
          exact eA_lways g.1 (n_cons (e_var (i := 4) rfl rfl) (n_cons (e_var (i := 17) rfl rfl) n_nil)) hg
        have gg11 := gg10.trans g11
        refine q_appSides (b := b) g11.1 hC (em gg11 rfl) fun H12 g12 => ?_
        have gg12 := gg11.trans g12
        refine q_clearEnds (b := b) g12.1 hC (em gg12 rfl) fun H13 g13 => ?_
        have gg13 := gg12.trans g13
        obtain ⟨x0, hx0, mx0⟩ : ∃ x0, ((sidesOf k).map Sh.c)[0]? = some (.c x0) ∧ x0 ∈ sidesOf k := by
          rcases hk with rfl | rfl | rfl
          · exact ⟨.str "a", by rw [show sidesOf "plain" = [.str "a", .str "b"] from by decide +kernel]; rfl, by decide +kernel⟩
          · exact ⟨.str "left", by rw [show sidesOf "point" = [.str "left", .str "right", .str "stem"] from by decide +kernel]; rfl, by decide +kernel⟩
          · exact ⟨.str "a", by rw [show sidesOf "crossing" = [.str "a", .str "b", .str "c", .str "d"] from by decide +kernel]; rfl, by decide +kernel⟩
        obtain ⟨g0, rfl, _, so0, _⟩ := sides_gate hk mx0
        refine s_appWays (b := b) (j := 0) g13.1 hC (em gg13 rfl) (e_ix (j := 0) (eg gg13 rfl) e_c hx0) rfl (dat_s _) (shp_of so0) fun H14 g14 => ?_
        exact ⟨g7.trans (gg13.trans g14), _, _, _, _, _, _, _, _, _, _, _, rfl⟩
      · rintro σ H7 ⟨g7, v9, v10, v11, v12, v13, v14, v15, v16, v17, v18, v19, rfl⟩
        have em : ∀ {σ : L2.St} {H' : Hp}, Go b H7 H' → σ[7]? = some (some md) → Ev1 b (tVar 7) σ H' (.n (clsOf T k) (secF (.str w0) (.int m))) := fun g h => e_var h ((im.go g7).go g)
        have eg : ∀ {σ : L2.St} {H' : Hp}, Go b H7 H' → σ[6]? = some (some gt) → Ev1 b (tVar 6) σ H' (.l ((sidesOf k).map Sh.c)) := fun g h => e_var h ((ig6.go g7).go g)
        have ew : ∀ {σ : L2.St} {H' : Hp}, Go b H7 H' → σ[3]? = some (some v3) → Ev1 b (tVar 3) σ H' (.l [.c (.str w0), .c (.str w1)]) := fun g h => e_var h ((i46.go g7).go g)
        have r7 := Go.refl g7.1
        have hk3 : k ∈ kinds3 := by rcases hk with rfl | rfl | rfl <;> decide
        have flS : (sidesOf k).all flatV = true := by rcases hk with rfl | rfl | rfl <;> decide +kernel
        refine q_set (b := b) (s := .l (((seven.map V.str).filter (fun x => !inV x (sidesOf k))).map Sh.c)) g7.1 (e_lcF (xs := seven.map V.str) (fun x => !inV x (sidesOf k)) (e_lst (n_cons e_c (n_cons e_c (n_cons e_c (n_cons e_c (n_cons e_c (n_cons e_c (n_cons e_c n_nil))))))) (Nat.le_of_ble_eq_true rfl)) (by decide) (Nat.le_of_ble_eq_true rfl) fun x hx H' g Q' q' => ?_) fun v12 H8 g8 i12 => ?_
        · obtain ⟨p, xs, ep, _, o, r⟩ := (ig6.go g7).go g
          rw [consts_eq r] at o
          obtain ⟨g', _, rfl⟩ := List.mem_map.mp hx
          exact ⟨.str g', rfl, gt, rfl, p, sidesOf k, ep, .inl (SqL.of o), rfl, flS, _, rfl, q' H' (.refl g.1)⟩
        have gg8 := r7.trans g8
        obtain ⟨x0, hx0, mx0⟩ : ∃ x0, ((sidesOf k).map Sh.c)[0]? = some (.c x0) ∧ x0 ∈ sidesOf k := by
          rcases hk with rfl | rfl | rfl
          · exact ⟨.str "a", by rw [show sidesOf "plain" = [.str "a", .str "b"] from by decide +kernel]; rfl, by decide +kernel⟩
          · exact ⟨.str "left", by rw [show sidesOf "point" = [.str "left", .str "right", .str "stem"] from by decide +kernel]; rfl, by decide +kernel⟩
          · exact ⟨.str "a", by rw [show sidesOf "crossing" = [.str "a", .str "b", .str "c", .str "d"] from by decide +kernel]; rfl, by decide +kernel⟩
        obtain ⟨g0, rfl, _, so0, _⟩ := sides_gate hk mx0
        have lf : (((seven.map V.str).filter (fun x => !inV x (sidesOf k))).map Sh.c).length ≤ 7 := by
          rw [List.length_map]
          exact Nat.le_trans (List.length_filter_le _ _) (by decide)
        refine q_forL (b := b) (ss := ((seven.map V.str).filter (fun x => !inV x (sidesOf k))).map Sh.c ++ [.c .non, .c (.str ""), .c (.str "up"), .c (.int 3), .c (.bl true), .t [.c (.str "a")], .l [.c (.str "a")], .t [.c (.str w0), .c (.str g0)]]) g8.1
          (e_cat (e_var (i := 12) rfl i12) (e_lst (n_cons e_c (n_cons e_c (n_cons e_c (n_cons e_c (n_cons e_c (n_cons (e_tup (n_cons e_c n_nil) (by decide)) (n_cons (e_lst (n_cons e_c n_nil) (by decide)) (n_cons (e_tup (n_cons (e_ix (j := 0) (ew gg8 rfl) e_c rfl) (n_cons (e_ix (j := 0) (eg gg8 rfl) e_c hx0) n_nil)) (Nat.le_of_ble_eq_true rfl)) n_nil)))))))) (Nat.le_of_ble_eq_true rfl)) (by show _ + 8 ≤ 1000; omega))
          (fun _ σ' => ∃ v13 v14 v15 v16 v17 v18 v19, σ' = [some (.ref a), some (.ref b), some (.int (0 + (i : Nat))), some v3, some (.str k), some (.int m), some gt, some md, some (.str z), v9, v10, v11, some v12, v13, v14, v15, v16, v17, v18, v19]) ⟨_, _, _, _, _, _, _, rfl⟩ ?_ ?_
        · rintro j s' x σ' H9 hs g9 ix ⟨v13, v14, v15, v16, v17, v18, v19, rfl⟩ N hN
          have ho : OddW k s' := by
            rcases List.mem_append.mp (List.mem_of_getElem? hs) with h | h
            · obtain ⟨y, hy, rfl⟩ := List.mem_map.mp h
              obtain ⟨hy1, hy2⟩ := List.mem_filter.mp hy
              obtain ⟨g', hg', rfl⟩ := List.mem_map.mp hy1
              exact odd_const _ rfl fun _ e => by cases e; exact ⟨seven_ok _ hg', raw_foreign k hk3 _ hg' (by simpa using hy2)⟩
            · exact odd_more hk3 (nm_ok n0) so0 _ h
          have ew0 : Ev1 b (tMethFK T.S "ways" 1 (spWays T) (fun vs zs => vs ++ zs.reverse) (tVar 7) (tCons (tVar 13) tNil)) (List.set [some (.ref a), some (.ref b), some (.int (0 + (i : Nat))), some v3, some (.str k), some (.int m), some gt, some md, some (.str z), v9, v10, v11, some v12, v13, v14, v15, v16, v17, v18, v19] 13 (some x)) H9 (.l []) := by
            have h := e_waysK (k := 2) (σ := List.set [some (.ref a), some (.ref b), some (.int (0 + (i : Nat))), some v3, some (.str k), some (.int m), some gt, some md, some (.str z), v9, v10, v11, some v12, v13, v14, v15, v16, v17, v18, v19] 13 (some x)) hC hK (em (gg8.trans g9) rfl) (e_var (i := 13) rfl ix) ho.1 rfl ho.2.1
            rw [ho.2.2] at h
            exact h
          exact q_ifn1 (b := b) g9.1 (e_same (s := .l []) (n_cons ew0 (n_cons (e_lst n_nil (by decide)) n_nil)) rfl) fun H10 g10 => hN _ H10 g10 ⟨_, _, _, _, _, _, _, rfl⟩
        · rintro σ' H9 g9 ⟨v13, v14, v15, v16, v17, v18, v19, rfl⟩
          have gg9 := gg8.trans g9
          refine q_set (b := b) (s := .l (((kinds3.map V.str).filter (fun x => !decide (x = V.str k))).map Sh.c)) g9.1 (e_lcF (xs := kinds3.map V.str) (fun x => !decide (x = V.str k)) (e_lst (n_cons e_c (n_cons e_c (n_cons e_c n_nil))) (Nat.le_of_ble_eq_true rfl)) (by decide) (Nat.le_of_ble_eq_true rfl) fun x hx H' g Q' q' => ?_) fun v14 H10 g10 i14 => ?_
          · obtain ⟨g', _, rfl⟩ := List.mem_map.mp hx
            exact ⟨.str g', rfl, .str k, rfl, rfl, _, rfl, q' H' (.refl g.1)⟩
          have gg10 := gg9.trans g10
          obtain ⟨f0, f1, ef, hf0, hf1, nf0, nf1⟩ := far_of k hk3
          rw [ef] at i14
          have i14 : Is b H10 (.l [.c (.str f0), .c (.str f1)]) v14 := i14
          have h51 : isNum (.int (51 - m)) 1 50 = true := num50' (by omega)
          have eW0 : ∀ {σ : L2.St} {H' : Hp}, Go b H7 H' → σ[3]? = some (some v3) → Ev1 b (tOp (rIxL K) (tVar 3) (tC (.int 0))) σ H' (.c (.str w0)) := fun g h => e_ix (j := 0) (ew g h) e_c rfl
          have eW1 : ∀ {σ : L2.St} {H' : Hp}, Go b H7 H' → σ[3]? = some (some v3) → Ev1 b (tOp (rIxL K) (tVar 3) (tC (.int 1))) σ H' (.c (.str w1)) := fun g h => e_ix (j := 1) (ew g h) e_c rfl
          refine q_set (b := b) g10.1 (e_lst (n_cons (e_sec (T := T) (n_cons (e_ix (j := 0) (e_var (i := 14) rfl i14) e_c rfl) (n_cons (eW0 gg10 rfl) (n_cons (e_var (i := 5) rfl rfl) n_nil))) (kinds3_or hf0) n0 hm') (n_cons (e_sec (T := T) (n_cons (e_ix (j := 1) (e_var (i := 14) rfl i14) e_c rfl) (n_cons (eW0 gg10 rfl) (n_cons (e_var (i := 5) rfl rfl) n_nil))) (kinds3_or hf1) n0 hm') (n_cons (e_sec (T := T) (n_cons (e_var (i := 4) rfl rfl) (n_cons (eW1 gg10 rfl) (n_cons (e_var (i := 5) rfl rfl) n_nil))) hk n1 hm') n_nil))) (Nat.le_of_ble_eq_true rfl)) fun v15 H11 g11 i15 => ?_
          have gg11 := gg10.trans g11
          refine q_set (b := b) (s := .l [.n (clsOf T f0) (secF (.str w0) (.int m)), .n (clsOf T f1) (secF (.str w0) (.int m)), .n (clsOf T k) (secF (.str w1) (.int m)), .n (clsOf T k) (secF (.str w0) (.int (51 - m))), .n T.aSection (secF (.str w0) (.int m))]) g11.1 (e_cat (e_var (i := 15) rfl i15) (e_lst (n_cons (e_sec (T := T) (n_cons (e_var (i := 4) rfl rfl) (n_cons (eW0 gg11 rfl) (n_cons (e_sub e_c (e_var (i := 5) rfl rfl)) n_nil))) hk n0 h51) (n_cons (e_make (T := T) (.inl rfl) (n_cons (eW0 gg11 rfl) (n_cons (e_var (i := 5) rfl rfl) n_nil)) n0 hm') n_nil)) (Nat.le_of_ble_eq_true rfl)) (Nat.le_of_ble_eq_true rfl)) fun v15 H12 g12 i15 => ?_
          have gg12 := gg11.trans g12
          have q1 := same_self (T := T) (C := clsOf T k) (n := w0) (i := m)
          have eqT := e_eqS hC hC (em (σ := [some (.ref a), some (.ref b), some (.int (0 + (i : Nat))), some v3, some (.str k), some (.int m), some gt, some md, some (.str z), v9, v10, v11, some v12, v13, some v14, some v15, v16, v17, v18, v19]) gg12 rfl) (e_sec (T := T) (n_cons (e_var (i := 4) rfl rfl) (n_cons (eW0 gg12 rfl) (n_cons (e_var (i := 5) rfl rfl) n_nil))) hk n0 hm')
          rw [q1] at eqT
          have neF := e_neS hC hC (clsOf_ne T k) (em (σ := [some (.ref a), some (.ref b), some (.int (0 + (i : Nat))), some v3, some (.str k), some (.int m), some gt, some md, some (.str z), v9, v10, v11, some v12, v13, some v14, some v15, v16, v17, v18, v19]) gg12 rfl) (e_sec (T := T) (n_cons (e_var (i := 4) rfl rfl) (n_cons (eW0 gg12 rfl) (n_cons (e_var (i := 5) rfl rfl) n_nil))) hk n0 hm')
          rw [q1] at neF
          refine q_set (b := b) (s := .l [.c (.bl true), .c (.bl false)]) g12.1 (e_lst (n_cons eqT (n_cons neF n_nil)) (Nat.le_of_ble_eq_true rfl)) fun v16 H13 g13 i16 => ?_
          have gg13 := gg12.trans g13
          have i15' := i15.go g13
          have ssv : ∀ (i : Nat) (s : Sh), ([.n (clsOf T f0) (secF (.str w0) (.int m)), .n (clsOf T f1) (secF (.str w0) (.int m)), .n (clsOf T k) (secF (.str w1) (.int m)), .n (clsOf T k) (secF (.str w0) (.int (51 - m))), .n T.aSection (secF (.str w0) (.int m))] : List Sh)[i]? = some s →
              ∃ D n j, s = .n D (secF (.str n) (.int j)) ∧ T.S D ∧ sameSec T (clsOf T k) w0 m D n j = false := fun i s h => by
            match i, h with
            | 0, h => exact ⟨_, _, _, (Option.some.inj h).symm, clsOf_S T f0, same_kind hk3 hf0 nf0⟩
            | 1, h => exact ⟨_, _, _, (Option.some.inj h).symm, clsOf_S T f1, same_kind hk3 hf1 nf1⟩
            | 2, h => exact ⟨_, _, _, (Option.some.inj h).symm, hC, same_name nw⟩
            | 3, h => exact ⟨_, _, _, (Option.some.inj h).symm, hC, same_size (by omega)⟩
            | 4, h => exact ⟨_, _, _, (Option.some.inj h).symm, .inl rfl, same_base hk3⟩
            | n + 5, h => cases h
          have q5 : PyData.eqv (.list [.bool true, .bool false]) (.list [.bool true, .bool false]) = true := by decide +kernel
          have k1 := e_neD (K := K) (k1 := 1) (k2 := 1) (e_var (σ := [some (.ref a), some (.ref b), some (.int (0 + (i : Nat))), some v3, some (.str k), some (.int m), some gt, some md, some (.str z), v9, v10, v11, some v12, v13, some v14, some v15, some v16, v17, v18, v19]) (i := 16) rfl i16) (e_lst (n_cons (e_c (v := .bl true)) (n_cons (e_c (v := .bl false)) n_nil)) (Nat.le_of_ble_eq_true rfl)) rfl rfl (bools2_dat _ _) (bools2_dat _ _) (bools2_shp _ _) (bools2_shp _ _)
          rw [q5] at k1
          refine q_ifOrA (b := b) g13.1 k1 (e_anyL (bs := [false, false, false, false, false]) (e_lcL (fun _ => .bl false) (e_var (i := 15) rfl i15') (Nat.le_of_ble_eq_true rfl) fun i s hs H' x g ix => ?_)) fun H14 g14 => ?_
          · obtain ⟨D, n, j, rfl, hD, e⟩ := ssv i s hs
            have h1 := e_eqS hC hD (em (σ := List.set [some (.ref a), some (.ref b), some (.int (0 + (i : Nat))), some v3, some (.str k), some (.int m), some gt, some md, some (.str z), v9, v10, v11, some v12, v13, some v14, some v15, some v16, v17, v18, none] 19 (some x)) (gg13.trans g) rfl) (e_var (i := 19) rfl ix)
            rw [e] at h1
            have h2 := e_eqS hD hC (e_var (σ := List.set [some (.ref a), some (.ref b), some (.int (0 + (i : Nat))), some v3, some (.str k), some (.int m), some gt, some md, some (.str z), v9, v10, v11, some v12, v13, some v14, some v15, some v16, v17, v18, none] 19 (some x)) (i := 19) rfl ix) (em (gg13.trans g) rfl)
            rw [sameSec_symm, e] at h2
            exact e_orV h1 h2
          have gg14 := gg13.trans g14
          refine q_ifOr3 (b := b) g14.1 (e_eqX hC (.inl ⟨_, rfl, rfl⟩) (em gg14 rfl) (e_var (s := .c (.str z)) (i := 8) rfl rfl)) (e_eqX hC (.inl ⟨_, rfl, rfl⟩) (em gg14 rfl) e_c) (e_eqX hC (.inr ⟨_, rfl⟩) (em gg14 rfl) (e_tup (n_cons (e_var (s := .c (.str k)) (i := 4) rfl rfl) (n_cons (e_ix (j := 0) (ew gg14 rfl) e_c rfl) (n_cons (e_var (s := .c (.int m)) (i := 5) rfl rfl) n_nil))) (Nat.le_of_ble_eq_true rfl))) fun H15 g15 => ?_
          have gg15 := gg14.trans g15
          have gA : Go b H3 H15 := g4.trans (g5.trans (g6.trans (g7.trans gg15)))
          refine ⟨.ref b, rfl, ?_⟩
          show tOp (rIxL K) _ _ _ _ _
          refine ev_use (b := b) (e_ix (j := 0) (ew gg15 rfl) e_c rfl) g15.1 fun y H16 g16 iy => ?_
          obtain rfl : y = .str w0 := iy
          refine ⟨b, w0, rfl, g16.1, n0, hT3.go hB3 (gA.trans g16), fun H17 hB17 hT17 kb => ⟨true, rfl, iteF ?_⟩⟩
          have ew17 : Ev1 b (tVar 3) [some (.ref a), some (.ref b), some (.int (0 + (i : Nat))), some v3, some (.str k), some (.int m), some gt, some md, some (.str z), v9, v10, v11, some v12, v13, some v14, some v15, some v16, v17, v18, v19] H17 (.l [.c (.str w0), .c (.str w1)]) := e_var (i := 3) rfl ((((i46.go g7).go gg15).go g16).keepT kb)
          show tOp (rIxL K) _ _ _ _ _
          refine ev_use (b := b) (e_ix (j := 1) ew17 e_c rfl) hB17 fun y H18 g18 iy => ?_
          obtain rfl : y = .str w1 := iy
          refine ⟨.int m, rfl, b, w1, m, rfl, g18.1, n1, hm', fun H19 g19 => ⟨true, rfl, iteF ?_⟩⟩
          exact ⟨g19.1, (hT17.go hB17 g18).go g18.1 g19, _, _, _, _, _, _, _, _, _, _, _, _, _, _, _, _, _, _, rfl⟩
    · rintro σ H3 ⟨hB3, hT3, v2, v3, v4, v5, v6, v7, v8, v9, v10, v11, v12, v13, v14, v15, v16, v17, v18, v19, rfl⟩
      have h := e_eqD (K := K) (k1 := 1) (k2 := 1) (e_lst (n_cons (e_cvK (σ := [some (.ref a), some (.ref b), v2, v3, v4, v5, v6, v7, v8, v9, v10, v11, v12, v13, v14, v15, v16, v17, v18, v19]) (H0 := H3) (b := b) T.kSection) (n_cons (e_cvK T.kPlain) (n_cons (e_cvK T.kPoint) (n_cons (e_cvK T.kCrossing) (n_cons (e_cvM T.kSection) n_nil))))) (Nat.le_of_ble_eq_true rfl))
        (e_lst (n_cons (e_c (v := .str "none")) (n_cons (e_c (v := .str "plain")) (n_cons (e_c (v := .str "point")) (n_cons (e_c (v := .str "crossing")) (n_cons (e_c (v := .int 50)) n_nil))))) (Nat.le_of_ble_eq_true rfl)) rfl rfl last_dat last_dat last_shp last_shp
      rw [last_eq] at h
      refine q_ret (b := b) hB3 h fun v H4 g4 i4 => ?_
      rw [show v = _ from i4]
      exact q H4
end
end Rd
set_option maxHeartbeats 0
namespace Rd
open PySem PySem.Spec PyProof.Rows L2
theorem excB_ok {K : PySem.W.Frag} {D : Addr} (h : excB K D = true) : ExcC K D := by
  obtain ⟨h1, h⟩ := Bool.and_eq_true_iff.mp h
  obtain ⟨h2, h⟩ := Bool.and_eq_true_iff.mp h
  obtain ⟨h3, h⟩ := Bool.and_eq_true_iff.mp h
  obtain ⟨h4, h⟩ := Bool.and_eq_true_iff.mp h
  obtain ⟨h5, h⟩ := Bool.and_eq_true_iff.mp h
  obtain ⟨h6, h⟩ := Bool.and_eq_true_iff.mp h
  obtain ⟨h7, h8⟩ := Bool.and_eq_true_iff.mp h
  exact ⟨of_decide_eq_true h1, of_decide_eq_true h2, of_decide_eq_true h3, h4, of_decide_eq_true h5, of_decide_eq_true h6, of_decide_eq_true h7, of_decide_eq_true h8⟩
def mkDX {K : PySem.W.Frag} {mg : Str → Option Value} {x qual : Str} {st : Stmt} {ps nm : List Str} {B newId initId : String} {bmB : List Value} {C f : Addr} {fd : FuncData}
    (FB : ExcBaseFacts B newId initId bmB) (S : StoreFacts B bmB "object.__setattr__" "object") (g : mg x = some (.ref C)) (i : PySem.W.findIn K (.ref C) "__init__" = some (some (.ref f))) (F : L2.Fun K "__init__" qual st f fd) (b : Binds K fd ps [])
    (hx : xB K C f bmB newId nm = true) : DX K mg x qual st ps nm B newId initId bmB :=
  have h1 := (Bool.and_eq_true_iff.mp hx).1
  have r1 := (Bool.and_eq_true_iff.mp hx).2
  have h2 := (Bool.and_eq_true_iff.mp r1).1
  have r2 := (Bool.and_eq_true_iff.mp r1).2
  have h3 := (Bool.and_eq_true_iff.mp r2).1
  have r3 := (Bool.and_eq_true_iff.mp r2).2
  have h4 := (Bool.and_eq_true_iff.mp r3).1
  have r4 := (Bool.and_eq_true_iff.mp r3).2
  have h5 := (Bool.and_eq_true_iff.mp r4).1
  have r5 := (Bool.and_eq_true_iff.mp r4).2
  have h6 := (Bool.and_eq_true_iff.mp r5).1
  have r6 := (Bool.and_eq_true_iff.mp r5).2
  have h7 := (Bool.and_eq_true_iff.mp r6).1
  have r7 := (Bool.and_eq_true_iff.mp r6).2
  have h8 := (Bool.and_eq_true_iff.mp r7).1
  have r8 := (Bool.and_eq_true_iff.mp r7).2
  have h9 := (Bool.and_eq_true_iff.mp r8).1
  have h10 := (Bool.and_eq_true_iff.mp r8).2
  { C := C, f := f, fd := _, g := g, T := ⟨FB, S, h1, h2, h3, of_decide_eq_true h4, h5⟩, iC := i, tI := of_decide_eq_true h8, F := F, b := b,
    xf := ⟨xfB_ok h6, excB_ok h7⟩, no := fun n hn => of_decide_eq_true (List.all_eq_true.mp h9 n (List.elem_iff.mp hn)), ty := of_decide_eq_true h10 }
theorem fun_of {K : PySem.W.Frag} {x qual : Str} {st : Stmt} {f : Addr} {fd : FuncData} (F : FunD K x qual (defArgs st) (defBody st) (defScope st) [] [] f fd) : L2.Fun K x qual st f fd := by
  obtain ⟨oc, od, dV, kV, doc, pm, an, cdv, ct, osl, e, lk, hcd, hd, hk⟩ := F.ex
  rcases hd with ⟨_, rfl⟩ | ⟨n, _⟩
  · exact ⟨⟨oc, od, kV, doc, pm, an, cdv, ct, osl, e, lk, hcd⟩, F.kp⟩
  · exact absurd rfl n
theorem four {p : Addr → Prop} {a b c d : Addr} (h1 : p a) (h2 : p b) (h3 : p c) (h4 : p d) : ∀ C, (C = a ∨ C = b ∨ C = c ∨ C = d) → p C := by
  intro C h
  rcases h with h | h | h | h <;> rw [h] <;> assumption
theorem mkCls {K : PySem.W.Frag} {x kind : Str} (f : ClsF K x kind) (hc : Cls K (He.ga K x)) (mk : Mk K (He.ga K x) (He.ma K (He.ga K x) "__init__")) (n1 : NoAttr K (He.ga K x) "name") (n2 : NoAttr K (He.ga K x) "length") :
    ClsD K (He.ga K x) (He.ma K (He.ga K "Section") "__init__") kind :=
  ⟨hc, by rw [← f.mt "__init__" (List.elem_iff.mp (by decide +kernel))]; exact mk, f.kd, f.ms, n1, n2, f.ha, f.mo, f.cv, f.nt⟩
theorem meth4 {K : PySem.W.Frag} {m : Str} (hm : methN.contains m = true) (f0 : ClsF K "Section" "none") (f1 : ClsF K "Plain" "plain") (f2 : ClsF K "Point" "point") (f3 : ClsF K "Crossing" "crossing")
    (m0 : Meth K (He.ga K "Section") m (He.ma K (He.ga K "Section") m)) (m1 : Meth K (He.ga K "Plain") m (He.ma K (He.ga K "Plain") m)) (m2 : Meth K (He.ga K "Point") m (He.ma K (He.ga K "Point") m)) (m3 : Meth K (He.ga K "Crossing") m (He.ma K (He.ga K "Crossing") m)) :
    MethF K (fun C => C = He.ga K "Section" ∨ C = He.ga K "Plain" ∨ C = He.ga K "Point" ∨ C = He.ga K "Crossing") m (He.ma K (He.ga K "Section") m) := by
  have h := List.elem_iff.mp hm
  rw [f1.mt m h] at m1
  rw [f2.mt m h] at m2
  rw [f3.mt m h] at m3
  exact four m0 m1 m2 m3
theorem pair_of {K : PySem.W.Frag} : ∀ {ts : List Addr} {zs : List (Str × Str × Str)}, pairB K ts zs = true → Paired (fun t z => ∀ H, SqT K H t [.str z.1, .str z.2.1, .str z.2.2]) ts zs
  | [], [], _ => .nil
  | [], _ :: _, h => by cases h
  | _ :: _, [], h => by cases h
  | t :: ts, z :: zs, h => by
    obtain ⟨h1, h2⟩ := He.ba (show (atT K t (vw z) && pairB K ts zs) = true from h)
    exact .cons (fun H => atT_ok h1 H) (pair_of h2)
theorem sd_of {K : PySem.W.Frag} {w : World} {es : Array DictEntry} {n : Nat} (D : KDict K w (He.ga K "SIDES_OF") es n) {r : Str × List V} (h : sdB K r = true) : ∃ p, KDct K w (He.ga K "SIDES_OF") r.1 (.ref p) ∧ ∀ H, SqT K H p r.2 := by
  unfold sdB at h
  split at h
  · rename_i p e
    exact ⟨p, ⟨es, n, _, D.at_, D.lit, e, rfl⟩, fun H => atT_ok h H⟩
  · cases h
theorem wd_of {K : PySem.W.Frag} {w : World} {es : Array DictEntry} {n : Nat} (D : KDict K w (He.ga K "WAYS_OF") es n) {r : Str × List (Str × Str × Str)} (h : wdB K r = true) :
    ∃ p ts, KDct K w (He.ga K "WAYS_OF") r.1 (.ref p) ∧ (∀ H, SqT K H p (ts.map V.ref)) ∧ Paired (fun t z => ∀ H, SqT K H t [.str z.1, .str z.2.1, .str z.2.2]) ts r.2 := by
  unfold wdB at h
  split at h
  · rename_i p e
    split at h
    · split at h
      · rename_i ts _
        obtain ⟨h1, h2⟩ := He.ba (show (atT K p (ts.map V.ref) && pairB K ts r.2) = true from h)
        exact ⟨p, ts, ⟨es, n, _, D.at_, D.lit, e, rfl⟩, fun H => atT_ok h1 H, pair_of h2⟩
      · cases h
    · cases h
  · cases h
theorem code_of {K : PySem.W.Frag} {x qual : Str} {st : Stmt} {fd : FuncData} {p : Str × Option Str} (F : L2.Fun K x qual st (He.fAd K p) fd) : fd.code = .ref (He.codeOf K p) := by
  obtain ⟨oc, od, kV, doc, pm, an, cdv, ct, osl, e, lk, hcd⟩ := F.ex
  obtain ⟨c, hc⟩ := He.codeIn_ref hcd
  have e2 : fd.code = .ref c := by rw [e]; exact hc
  rw [He.codeOf_eq lk e2]
  exact e2
theorem kind_inZ {k : Str} (h : (["none", "plain", "point", "crossing"] : List Str).contains k = true) : k = "none" ∨ k = "plain" ∨ k = "point" ∨ k = "crossing" := by
  have := List.elem_iff.mp h
  simpa using this
theorem factsB {w : World} {K : PySem.W.Frag} {h : Heap} {mg : Str → Option Value} {fa : Addr} (X : K.In h) (G : h.Ns mainGlobals mg) (hfa : mg ("law" : Str) = some (.ref fa)) (c : He.SaysX faL fnL tsL tfL exB w h K) :
    LamX.LawAtS PySem.Challenge.rw_ringlessday_k02_sections_told w K CX0 11 63 "_law_script" mg fa h := by
  obtain ⟨e1, e23⟩ := He.ba c.more
  obtain ⟨e2, e3⟩ := He.ba e23
  obtain ⟨eX, e1b⟩ := He.ba e1
  obtain ⟨eO, eS⟩ := He.ba e1b
  obtain ⟨eSd, eWd⟩ := He.ba e3
  have c0 : ClsF K "Section" "none" := clsB_ok (List.all_eq_true.mp e2 _ (List.mem_of_getElem? (i := 0) rfl))
  have c1 : ClsF K "Plain" "plain" := clsB_ok (List.all_eq_true.mp e2 _ (List.mem_of_getElem? (i := 1) rfl))
  have c2 : ClsF K "Point" "point" := clsB_ok (List.all_eq_true.mp e2 _ (List.mem_of_getElem? (i := 2) rfl))
  have c3 : ClsF K "Crossing" "crossing" := clsB_ok (List.all_eq_true.mp e2 _ (List.mem_of_getElem? (i := 3) rfl))
  obtain ⟨o1, eO⟩ := He.ba eO
  obtain ⟨o2, eO⟩ := He.ba eO
  obtain ⟨o3, eO⟩ := He.ba eO
  obtain ⟨o4, o5⟩ := He.ba eO
  obtain ⟨sA, eS⟩ := He.ba eS
  obtain ⟨sB, eS⟩ := He.ba eS
  obtain ⟨s4, eS⟩ := He.ba eS
  obtain ⟨s5, s6⟩ := He.ba eS
  have s0 := He.ba (List.all_eq_true.mp sA "Plain" (List.mem_of_getElem? (i := 0) rfl))
  have s1 := He.ba (List.all_eq_true.mp sA "Point" (List.mem_of_getElem? (i := 1) rfl))
  have s2 := He.ba (List.all_eq_true.mp sA "Crossing" (List.mem_of_getElem? (i := 2) rfl))
  have ap : ∀ (i j : Nat) (x : Str) (y : Str × Str), subN[i]? = some x → kindN[j]? = some y → PySem.W.notFirst K (He.ga K x) (.ref (He.ga K y.1)) = true := fun i j x y hx hy => List.all_eq_true.mp (List.all_eq_true.mp sB x (List.mem_of_getElem? hx)) y (List.mem_of_getElem? hy)
  have D : He.SaysD faL fnL K := c.t.d
  obtain ⟨tL, hL⟩ := He.str_ok X G (D.fact 29 (f := .str "LETTERS" "abcdefghijklmnopqrstuvwxyz") rfl)
  obtain ⟨tM, hM⟩ := He.int_ok X G (D.fact 30 (f := .int "MOST_LETTERS" 6) rfl)
  obtain ⟨esS, nS, dS⟩ := c.t.tab 0 (t := (fun K => He.ga K "SIDES_OF", ["none", "plain", "point", "crossing"])) rfl
  obtain ⟨esW, nW, dW⟩ := c.t.tab 1 (t := (fun K => He.ga K "WAYS_OF", ["none", "plain", "point", "crossing"])) rfl
  obtain ⟨fd0, F0'⟩ := D.def_ 0 (d := dd0) rfl
  have F0 : L2.Fun K "is_name" "is_name" s_is_name (He.fAd K ("is_name", none)) fd0 := fun_of F0'
  obtain ⟨fd1, F1'⟩ := D.def_ 1 (d := dd1) rfl
  have F1 : L2.Fun K "is_integer" "is_integer" s_is_integer (He.fAd K ("is_integer", none)) fd1 := fun_of F1'
  obtain ⟨fd2, F2'⟩ := D.def_ 2 (d := dd2) rfl
  have F2 : L2.Fun K "is_number" "is_number" s_is_number (He.fAd K ("is_number", none)) fd2 := fun_of F2'
  obtain ⟨fd3, F3'⟩ := D.def_ 3 (d := dd3) rfl
  have F3 : L2.Fun K "_law_bag" "_law_bag" s_law_bag (He.fAd K ("_law_bag", none)) fd3 := fun_of F3'
  obtain ⟨fd4, F4'⟩ := D.def_ 4 (d := dd4) rfl
  have F4 : L2.Fun K "_law_draw" "_law_draw" s_law_draw (He.fAd K ("_law_draw", none)) fd4 := fun_of F4'
  obtain ⟨fd5, F5'⟩ := D.def_ 5 (d := dd5) rfl
  have F5 : L2.Fun K "_law_of" "_law_of" s_law_of (He.fAd K ("_law_of", none)) fd5 := fun_of F5'
  obtain ⟨fd6, F6'⟩ := D.def_ 6 (d := dd6) rfl
  have F6 : L2.Fun K "_law_same" "_law_same" s_law_same (He.fAd K ("_law_same", none)) fd6 := fun_of F6'
  obtain ⟨fd7, F7'⟩ := D.def_ 7 (d := dd7) rfl
  have F7 : L2.Fun K "_law_fields" "_law_fields" s_law_fields (He.fAd K ("_law_fields", none)) fd7 := fun_of F7'
  obtain ⟨fd8, F8'⟩ := D.def_ 8 (d := dd8) rfl
  have F8 : L2.Fun K "_law_try" "_law_try" s_law_try (He.fAd K ("_law_try", none)) fd8 := fun_of F8'
  obtain ⟨fd9, F9'⟩ := D.def_ 9 (d := dd9) rfl
  have F9 : L2.Fun K "_law_tries" "_law_tries" s_law_tries (He.fAd K ("_law_tries", none)) fd9 := fun_of F9'
  obtain ⟨fd10, F10'⟩ := D.def_ 10 (d := dd10) rfl
  have F10 : L2.Fun K "_law_words" "_law_words" s_law_words (He.fAd K ("_law_words", none)) fd10 := fun_of F10'
  obtain ⟨fd11, F11'⟩ := D.def_ 11 (d := dd11) rfl
  have F11 : L2.Fun K "_law_odd" "_law_odd" s_law_odd (He.fAd K ("_law_odd", none)) fd11 := fun_of F11'
  obtain ⟨fd12, F12'⟩ := D.def_ 12 (d := dd12) rfl
  have F12 : L2.Fun K "_law_sides" "_law_sides" s_law_sides (He.fAd K ("_law_sides", none)) fd12 := fun_of F12'
  obtain ⟨fd13, F13'⟩ := D.def_ 13 (d := dd13) rfl
  have F13 : L2.Fun K "_law_ways" "_law_ways" s_law_ways (He.fAd K ("_law_ways", none)) fd13 := fun_of F13'
  obtain ⟨fd14, F14'⟩ := D.def_ 14 (d := dd14) rfl
  have F14 : L2.Fun K "_law_section" "_law_section" s_law_section (He.fAd K ("_law_section", none)) fd14 := fun_of F14'
  obtain ⟨fd15, F15'⟩ := D.def_ 15 (d := dd15) rfl
  have F15 : L2.Fun K "_law_refused_so" "_law_refused_so" s_law_refused_so (He.fAd K ("_law_refused_so", none)) fd15 := fun_of F15'
  obtain ⟨fd16, F16'⟩ := D.def_ 16 (d := dd16) rfl
  have F16 : L2.Fun K "_law_base_so" "_law_base_so" s_law_base_so (He.fAd K ("_law_base_so", none)) fd16 := fun_of F16'
  obtain ⟨fd17, F17'⟩ := D.def_ 17 (d := dd17) rfl
  have F17 : L2.Fun K "law" "law" s_law (He.fAd K ("law", none)) fd17 := fun_of F17'
  obtain ⟨fd18, F18'⟩ := D.def_ 18 (d := dd18) rfl
  have F18 : L2.Fun K "__init__" "InvalidName.__init__" (inS 2 0) (He.fAd K ("InvalidName", some "__init__")) fd18 := fun_of F18'
  have r18 := He.ba (List.all_eq_true.mp eX _ (List.mem_of_getElem? (i := 0) rfl))
  obtain ⟨fd19, F19'⟩ := D.def_ 19 (d := dd19) rfl
  have F19 : L2.Fun K "__init__" "InvalidNumber.__init__" (inS 3 0) (He.fAd K ("InvalidNumber", some "__init__")) fd19 := fun_of F19'
  have r19 := He.ba (List.all_eq_true.mp eX _ (List.mem_of_getElem? (i := 1) rfl))
  obtain ⟨fd20, F20'⟩ := D.def_ 20 (d := dd20) rfl
  have F20 : L2.Fun K "__init__" "Section.__init__" (inS 15 2) (He.fAd K ("Section", some "__init__")) fd20 := fun_of F20'
  obtain ⟨fd21, F21'⟩ := D.def_ 21 (d := dd21) rfl
  have F21 : L2.Fun K "sides" "Section.sides" (inS 15 3) (He.fAd K ("Section", some "sides")) fd21 := fun_of F21'
  obtain ⟨fd22, F22'⟩ := D.def_ 22 (d := dd22) rfl
  have F22 : L2.Fun K "ends" "Section.ends" (inS 15 4) (He.fAd K ("Section", some "ends")) fd22 := fun_of F22'
  obtain ⟨fd23, F23'⟩ := D.def_ 23 (d := dd23) rfl
  have F23 : L2.Fun K "ways" "Section.ways" (inS 15 5) (He.fAd K ("Section", some "ways")) fd23 := fun_of F23'
  obtain ⟨fd24, F24'⟩ := D.def_ 24 (d := dd24) rfl
  have F24 : L2.Fun K "text" "Section.text" (inS 15 6) (He.fAd K ("Section", some "text")) fd24 := fun_of F24'
  obtain ⟨fd25, F25'⟩ := D.def_ 25 (d := dd25) rfl
  have F25 : L2.Fun K "__eq__" "Section.__eq__" (inS 15 7) (He.fAd K ("Section", some "__eq__")) fd25 := fun_of F25'
  obtain ⟨fd26, F26'⟩ := D.def_ 26 (d := dd26) rfl
  have F26 : L2.Fun K "__repr__" "Section.__repr__" (inS 15 8) (He.fAd K ("Section", some "__repr__")) fd26 := fun_of F26'
  have mEq := meth4 (by decide +kernel) c0 c1 c2 c3 (He.meth_ok (D.fact 39 (f := .meth "Section" "__eq__") rfl)) (He.meth_ok (D.fact 49 (f := .meth "Plain" "__eq__") rfl)) (He.meth_ok (D.fact 59 (f := .meth "Point" "__eq__") rfl)) (He.meth_ok (D.fact 69 (f := .meth "Crossing" "__eq__") rfl))
  have mRep := meth4 (by decide +kernel) c0 c1 c2 c3 (He.meth_ok (D.fact 40 (f := .meth "Section" "__repr__") rfl)) (He.meth_ok (D.fact 50 (f := .meth "Plain" "__repr__") rfl)) (He.meth_ok (D.fact 60 (f := .meth "Point" "__repr__") rfl)) (He.meth_ok (D.fact 70 (f := .meth "Crossing" "__repr__") rfl))
  have e := hfa.symm.trans (He.glo_ok X G (D.fact 17 (f := .glo "law") rfl))
  cases e
  let T : Txt K mg := {
    d_is_name := ⟨_, fd0, F0, He.glo_ok X G (D.fact 0 (f := .glo "is_name") rfl), F0.binds fun _ _ _ _ _ _ us hl => match us, hl with | [_], _ => rfl⟩,
    d_is_integer := ⟨_, fd1, F1, He.glo_ok X G (D.fact 1 (f := .glo "is_integer") rfl), F1.binds fun _ _ _ _ _ _ us hl => match us, hl with | [_], _ => rfl⟩,
    d_is_number := ⟨_, fd2, F2, He.glo_ok X G (D.fact 2 (f := .glo "is_number") rfl), F2.binds fun _ _ _ _ _ _ us hl => match us, hl with | [_, _, _], _ => rfl⟩,
    d__law_bag := ⟨_, fd3, F3, He.glo_ok X G (D.fact 3 (f := .glo "_law_bag") rfl), F3.binds fun _ _ _ _ _ _ us hl => match us, hl with | [_], _ => rfl⟩,
    d__law_draw := ⟨_, fd4, F4, He.glo_ok X G (D.fact 4 (f := .glo "_law_draw") rfl), F4.binds fun _ _ _ _ _ _ us hl => match us, hl with | [_, _], _ => rfl⟩,
    d__law_of := ⟨_, fd5, F5, He.glo_ok X G (D.fact 5 (f := .glo "_law_of") rfl), F5.binds fun _ _ _ _ _ _ us hl => match us, hl with | [_, _], _ => rfl⟩,
    d__law_same := ⟨_, fd6, F6, He.glo_ok X G (D.fact 6 (f := .glo "_law_same") rfl), F6.binds fun _ _ _ _ _ _ us hl => match us, hl with | [_, _], _ => rfl⟩,
    d__law_fields := ⟨_, fd7, F7, He.glo_ok X G (D.fact 7 (f := .glo "_law_fields") rfl), F7.binds fun _ _ _ _ _ _ us hl => match us, hl with | [_], _ => rfl⟩,
    d__law_try := ⟨_, fd8, F8, He.glo_ok X G (D.fact 8 (f := .glo "_law_try") rfl), F8.binds fun _ _ _ _ _ _ us hl => match us, hl with | [_], _ => rfl⟩,
    d__law_tries := ⟨_, fd9, F9, He.glo_ok X G (D.fact 9 (f := .glo "_law_tries") rfl), F9.binds fun _ _ _ _ _ _ us hl => match us, hl with | [_], _ => rfl⟩,
    d__law_words := ⟨_, fd10, F10, He.glo_ok X G (D.fact 10 (f := .glo "_law_words") rfl), F10.binds fun _ _ _ _ _ _ us hl => match us, hl with | [_, _], _ => rfl⟩,
    d__law_odd := ⟨_, fd11, F11, He.glo_ok X G (D.fact 11 (f := .glo "_law_odd") rfl), F11.binds fun _ _ _ _ _ _ us hl => match us, hl with | [_], _ => rfl⟩,
    d__law_sides := ⟨_, fd12, F12, He.glo_ok X G (D.fact 12 (f := .glo "_law_sides") rfl), F12.binds fun _ _ _ _ _ _ us hl => match us, hl with | [_], _ => rfl⟩,
    d__law_ways := ⟨_, fd13, F13, He.glo_ok X G (D.fact 13 (f := .glo "_law_ways") rfl), F13.binds fun _ _ _ _ _ _ us hl => match us, hl with | [_, _], _ => rfl⟩,
    d__law_section := ⟨_, fd14, F14, He.glo_ok X G (D.fact 14 (f := .glo "_law_section") rfl), F14.binds fun _ _ _ _ _ _ us hl => match us, hl with | [_, _, _], _ => rfl⟩,
    d__law_refused_so := ⟨_, fd15, F15, He.glo_ok X G (D.fact 15 (f := .glo "_law_refused_so") rfl), F15.binds fun _ _ _ _ _ _ us hl => match us, hl with | [_, _], _ => rfl⟩,
    d__law_base_so := ⟨_, fd16, F16, He.glo_ok X G (D.fact 16 (f := .glo "_law_base_so") rfl), F16.binds fun _ _ _ _ _ _ us hl => match us, hl with | [_, _], _ => rfl⟩,
    d_law := ⟨_, fd17, F17, He.glo_ok X G (D.fact 17 (f := .glo "law") rfl), F17.binds fun _ _ _ _ _ _ us hl => match us, hl with | [_], _ => rfl⟩,
    x_InvalidName := mkDX (nm := ["value", "code"]) PySem.F.excBase_ValueError PySem.F.store_ValueError (He.glo_ok X G (D.fact 18 (f := .glo "InvalidName") rfl)) (He.eqO_ok r18.1) F18 (F18.binds fun _ _ _ _ _ _ us hl => match us, hl with | [_, _], _ => rfl) r18.2,
    x_InvalidNumber := mkDX (nm := ["value", "code"]) PySem.F.excBase_ValueError PySem.F.store_ValueError (He.glo_ok X G (D.fact 19 (f := .glo "InvalidNumber") rfl)) (He.eqO_ok r19.1) F19 (F19.binds fun _ _ _ _ _ _ us hl => match us, hl with | [_, _], _ => rfl) r19.2,
    m_init := ⟨_, fd20, F20, F20.binds fun _ _ _ _ _ _ us hl => match us, hl with | [_, _, _], _ => rfl⟩,
    m_sides := ⟨⟨_, fd21, F21, F21.binds fun _ _ _ _ _ _ us hl => match us, hl with | [_], _ => rfl⟩, meth4 (by decide +kernel) c0 c1 c2 c3 (He.meth_ok (D.fact 35 (f := .meth "Section" "sides") rfl)) (He.meth_ok (D.fact 45 (f := .meth "Plain" "sides") rfl)) (He.meth_ok (D.fact 55 (f := .meth "Point" "sides") rfl)) (He.meth_ok (D.fact 65 (f := .meth "Crossing" "sides") rfl))⟩,
    m_ends := ⟨⟨_, fd22, F22, F22.binds fun _ _ _ _ _ _ us hl => match us, hl with | [_], _ => rfl⟩, meth4 (by decide +kernel) c0 c1 c2 c3 (He.meth_ok (D.fact 36 (f := .meth "Section" "ends") rfl)) (He.meth_ok (D.fact 46 (f := .meth "Plain" "ends") rfl)) (He.meth_ok (D.fact 56 (f := .meth "Point" "ends") rfl)) (He.meth_ok (D.fact 66 (f := .meth "Crossing" "ends") rfl))⟩,
    m_ways := ⟨⟨_, fd23, F23, F23.binds fun _ _ _ _ _ _ us hl => match us, hl with | [_, _], _ => rfl⟩, meth4 (by decide +kernel) c0 c1 c2 c3 (He.meth_ok (D.fact 37 (f := .meth "Section" "ways") rfl)) (He.meth_ok (D.fact 47 (f := .meth "Plain" "ways") rfl)) (He.meth_ok (D.fact 57 (f := .meth "Point" "ways") rfl)) (He.meth_ok (D.fact 67 (f := .meth "Crossing" "ways") rfl))⟩,
    m_text := ⟨⟨_, fd24, F24, F24.binds fun _ _ _ _ _ _ us hl => match us, hl with | [_], _ => rfl⟩, meth4 (by decide +kernel) c0 c1 c2 c3 (He.meth_ok (D.fact 38 (f := .meth "Section" "text") rfl)) (He.meth_ok (D.fact 48 (f := .meth "Plain" "text") rfl)) (He.meth_ok (D.fact 58 (f := .meth "Point" "text") rfl)) (He.meth_ok (D.fact 68 (f := .meth "Crossing" "text") rfl))⟩,
    m_eq := ⟨⟨_, fd25, F25, F25.binds fun _ _ _ _ _ _ us hl => match us, hl with | [_, _], _ => rfl⟩, meth4 (by decide +kernel) c0 c1 c2 c3 (He.meth_ok (D.fact 39 (f := .meth "Section" "__eq__") rfl)) (He.meth_ok (D.fact 49 (f := .meth "Plain" "__eq__") rfl)) (He.meth_ok (D.fact 59 (f := .meth "Point" "__eq__") rfl)) (He.meth_ok (D.fact 69 (f := .meth "Crossing" "__eq__") rfl))⟩,
    m_repr := ⟨⟨_, fd26, F26, F26.binds fun _ _ _ _ _ _ us hl => match us, hl with | [_], _ => rfl⟩, meth4 (by decide +kernel) c0 c1 c2 c3 (He.meth_ok (D.fact 40 (f := .meth "Section" "__repr__") rfl)) (He.meth_ok (D.fact 50 (f := .meth "Plain" "__repr__") rfl)) (He.meth_ok (D.fact 60 (f := .meth "Point" "__repr__") rfl)) (He.meth_ok (D.fact 70 (f := .meth "Crossing" "__repr__") rfl))⟩,
    z_abs := He.free_ok X G (D.fact 71 (f := .free "abs") rfl),
    z_all := He.free_ok X G (D.fact 72 (f := .free "all") rfl),
    z_any := He.free_ok X G (D.fact 73 (f := .free "any") rfl),
    z_bool := He.free_ok X G (D.fact 74 (f := .free "bool") rfl),
    z_int := He.free_ok X G (D.fact 75 (f := .free "int") rfl),
    z_isinstance := He.free_ok X G (D.fact 76 (f := .free "isinstance") rfl),
    z_len := He.free_ok X G (D.fact 77 (f := .free "len") rfl),
    z_list := He.free_ok X G (D.fact 78 (f := .free "list") rfl),
    z_range := He.free_ok X G (D.fact 79 (f := .free "range") rfl),
    z_repr := He.free_ok X G (D.fact 80 (f := .free "repr") rfl),
    z_sorted := He.free_ok X G (D.fact 81 (f := .free "sorted") rfl),
    z_str := He.free_ok X G (D.fact 82 (f := .free "str") rfl),
    z_tuple := He.free_ok X G (D.fact 83 (f := .free "tuple") rfl),
    z_zip := He.free_ok X G (D.fact 84 (f := .free "zip") rfl),
    tL := tL, c_LETTERS := hL, tM := tM, c_MOST_LETTERS := hM,
    aSides := He.ga K "SIDES_OF", c_SIDES_OF := He.glo_ok X G (D.fact 27 (f := .glo "SIDES_OF") rfl), aWays := He.ga K "WAYS_OF", c_WAYS_OF := He.glo_ok X G (D.fact 28 (f := .glo "WAYS_OF") rfl),
    aDayError := He.ga K "DayError", c_DayError := He.glo_ok X G (D.fact 20 (f := .glo "DayError") rfl),
    aMissing := He.ga K "Missing", c_Missing := He.glo_ok X G (D.fact 21 (f := .glo "Missing") rfl),
    aNothingLeft := He.ga K "NothingLeft", c_NothingLeft := He.glo_ok X G (D.fact 22 (f := .glo "NothingLeft") rfl),
    aSection := He.ga K "Section", c_Section := He.glo_ok X G (D.fact 23 (f := .glo "Section") rfl),
    aPlain := He.ga K "Plain", c_Plain := He.glo_ok X G (D.fact 24 (f := .glo "Plain") rfl),
    aPoint := He.ga K "Point", c_Point := He.glo_ok X G (D.fact 25 (f := .glo "Point") rfl),
    aCrossing := He.ga K "Crossing", c_Crossing := He.glo_ok X G (D.fact 26 (f := .glo "Crossing") rfl),
    kSection := mkCls c0 (He.cls_ok (D.fact 31 (f := .cls "Section") rfl)) (He.mkr_ok (D.fact 32 (f := .mkr "Section") rfl)) (He.noat_ok (D.fact 33 (f := .noat "Section" "name") rfl)) (He.noat_ok (D.fact 34 (f := .noat "Section" "length") rfl)),
    kPlain := mkCls c1 (He.cls_ok (D.fact 41 (f := .cls "Plain") rfl)) (He.mkr_ok (D.fact 42 (f := .mkr "Plain") rfl)) (He.noat_ok (D.fact 43 (f := .noat "Plain" "name") rfl)) (He.noat_ok (D.fact 44 (f := .noat "Plain" "length") rfl)),
    kPoint := mkCls c2 (He.cls_ok (D.fact 51 (f := .cls "Point") rfl)) (He.mkr_ok (D.fact 52 (f := .mkr "Point") rfl)) (He.noat_ok (D.fact 53 (f := .noat "Point" "name") rfl)) (He.noat_ok (D.fact 54 (f := .noat "Point" "length") rfl)),
    kCrossing := mkCls c3 (He.cls_ok (D.fact 61 (f := .cls "Crossing") rfl)) (He.mkr_ok (D.fact 62 (f := .mkr "Crossing") rfl)) (He.noat_ok (D.fact 63 (f := .noat "Crossing" "name") rfl)) (He.noat_ok (D.fact 64 (f := .noat "Crossing" "length") rfl)),
    fam := ⟨four (He.cls_ok (D.fact 31 (f := .cls "Section") rfl)) (He.cls_ok (D.fact 41 (f := .cls "Plain") rfl)) (He.cls_ok (D.fact 51 (f := .cls "Point") rfl)) (He.cls_ok (D.fact 61 (f := .cls "Crossing") rfl)), four c0.mo c1.mo c2.mo c3.mo⟩,
    eqf := ⟨fun C h => (mEq C h).at_, four c0.ne c1.ne c2.ne c3.ne, (mEq _ (Or.inl rfl)).fn⟩,
    reps := fun C h => (mRep C h).at_, repf := (mRep _ (Or.inl rfl)).fn,
    hn := He.eqO_ok o1, htk := of_decide_eq_true o2, self := o3,
    neP := of_decide_eq_true s0.2, neT := of_decide_eq_true s1.2, neX := of_decide_eq_true s2.2, nePT := of_decide_eq_true s4, nePX := of_decide_eq_true s5, neTX := of_decide_eq_true s6,
    below := fun C h hne => by
      rcases h with h | h | h | h
      · exact absurd h hne
      · rw [h]; exact of_decide_eq_true s0.1
      · rw [h]; exact of_decide_eq_true s1.1
      · rw [h]; exact of_decide_eq_true s2.1,
    apart := fun C E h h2 hne => by
      rcases h with h | h | h | h
      · exact absurd h hne
      · rw [h]; exact four (p := fun E => PySem.W.notFirst K (He.ga K "Plain") (.ref E) = true) (ap 0 0 _ _ rfl rfl) (ap 0 1 _ _ rfl rfl) (ap 0 2 _ _ rfl rfl) (ap 0 3 _ _ rfl rfl) E h2
      · rw [h]; exact four (p := fun E => PySem.W.notFirst K (He.ga K "Point") (.ref E) = true) (ap 1 0 _ _ rfl rfl) (ap 1 1 _ _ rfl rfl) (ap 1 2 _ _ rfl rfl) (ap 1 3 _ _ rfl rfl) E h2
      · rw [h]; exact four (p := fun E => PySem.W.notFirst K (He.ga K "Crossing") (.ref E) = true) (ap 2 0 _ _ rfl rfl) (ap 2 1 _ _ rfl rfl) (ap 2 2 _ _ rfl rfl) (ap 2 3 _ _ rfl rfl) E h2,
    isS := four c0.isS c1.isS c2.isS c3.isS,
    nis := fun t ht => of_decide_eq_true (List.all_eq_true.mp o4 t (List.elem_iff.mp ht)),
    exN := ⟨true, of_decide_eq_true (List.all_eq_true.mp o5 _ (List.mem_of_getElem? (i := 0) rfl)), rfl⟩,
    exI := ⟨true, of_decide_eq_true (List.all_eq_true.mp o5 _ (List.mem_of_getElem? (i := 1) rfl)), rfl⟩ }
  have U : TxW w T := ⟨fun k hk => by
      rcases kind_inZ hk with rfl | rfl | rfl | rfl
      · exact sd_of dS (r := ("none", [])) (List.all_eq_true.mp eSd _ (List.mem_of_getElem? (i := 0) rfl))
      · exact sd_of dS (r := ("plain", [.str "a", .str "b"])) (List.all_eq_true.mp eSd _ (List.mem_of_getElem? (i := 1) rfl))
      · exact sd_of dS (r := ("point", [.str "left", .str "right", .str "stem"])) (List.all_eq_true.mp eSd _ (List.mem_of_getElem? (i := 2) rfl))
      · exact sd_of dS (r := ("crossing", [.str "a", .str "b", .str "c", .str "d"])) (List.all_eq_true.mp eSd _ (List.mem_of_getElem? (i := 3) rfl)), fun k hk => by
      rcases kind_inZ hk with rfl | rfl | rfl | rfl
      · exact wd_of dW (r := ("none", [])) (List.all_eq_true.mp eWd _ (List.mem_of_getElem? (i := 0) rfl))
      · exact wd_of dW (r := ("plain", [("a", "b", "")])) (List.all_eq_true.mp eWd _ (List.mem_of_getElem? (i := 1) rfl))
      · exact wd_of dW (r := ("point", [("left", "stem", "left"), ("right", "stem", "right")])) (List.all_eq_true.mp eWd _ (List.mem_of_getElem? (i := 2) rfl))
      · exact wd_of dW (r := ("crossing", [("a", "b", ""), ("c", "d", "")])) (List.all_eq_true.mp eWd _ (List.mem_of_getElem? (i := 3) rfl))⟩
  have b := FunD.bindsA (ps := ["_law_script"]) F17' fun _ _ _ _ _ _ us hl => match us, hl with | [_], _ => rfl
  have hp : (("_law_refused_so", none) : He.Defn) ∈ tfL := List.mem_cons_self
  refine ⟨fd17, [He.cT K ("_law_refused_so", none)], spLaw K (He.cT K ("_law_refused_so", none)).2, fun p hm => ?_, fun p hm => ?_, fun p hm => ?_, fun s v => b s [v] rfl, fun H a ns hl _ hH hS => ⟨a, ns, rfl, hS, hl, TabF.nil (hH _ List.mem_cons_self), fun _ => rfl⟩, fun base _ _ hT => ok_law T U (hT _ List.mem_cons_self) (code_of F15)⟩
  · rw [List.mem_singleton.mp hm]; exact c.empty _ hp
  · rw [List.mem_singleton.mp hm]; exact c.out _ hp
  · rw [List.mem_singleton.mp hm]; exact PySem.W.codeHd_of_K X (c.hd _ hp)
end Rd
open PySem PySem.W PySem.Calls PyProof.Rows
theorem PySem.Challenge.cw_ringlessday_k02_sections_told_holds : PySem.Challenge.rw_ringlessday_k02_sections_told.Holds := by
  w_on; o_law
  refine HandSHeadRun.head_any (r := OpenLaw.row PySem.Challenge.rw_ringlessday_k02_sections_told) (q := Rd.qv) (H := Rd.hkB) (ob := Rd.obB) (M := 10600) (loose := Rd.looseL) (d := HandSHeadRun.topDef (OpenLaw.row PySem.Challenge.rw_ringlessday_k02_sections_told).prog 34) (kwd := []) Rd.obB_eq
    (by kernel_rfl) (fun s => by kernel_rfl) Rd.runB (by kernel_rfl) (by kernel_rfl) (by kernel_rfl) (by rfl) (by first | assumption | decide +kernel) (by decide +kernel) ⟨rfl, rfl, rfl, rfl, rfl, by decide +kernel⟩ ?hw ?hc
  case hw => w_witness2
  case hc =>
    refine LamX.walk_ofTsE (l := PySem.Challenge.rw_ringlessday_k02_sections_told) (n := 63) (k := 11) (x := "_law_script") (CX := fun _ => L2.CX0) rfl (by decide) (by kernel_rfl) ⟨rfl, by decide, by decide⟩ ?F (fun _ _ _ _ _ z => z)
    intro w mg fa h Y G hmg0
    obtain ⟨K, KX, c⟩ := Y
    have hmg : mg ("law" : PySem.Str) = some (.ref fa) := by
      have e : (HandSHeadRun.topDef (OpenLaw.row PySem.Challenge.rw_ringlessday_k02_sections_told).prog 34).name = ("law" : PySem.Str) := by kernel_rfl
      rw [← e]
      exact hmg0
    exact ⟨K, KX, Rd.factsB KX G hmg c⟩
