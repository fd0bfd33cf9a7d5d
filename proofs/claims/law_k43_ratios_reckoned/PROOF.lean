import PyProof.Rows.All
import Wide.All
import OpenK.AllK
import Wide.FinOn
import HandS.ForMost
import HandS.IsInst
import HandS.Style
import HandS.Flow
import HandS.Codes
import HandS.Walk
import HandS.TupAny
import HandS.Dict
import HandS.FStr
import HandS.ClsMeth
import HandS.Gcd
import HandS.WideBits
import HandS.MakeKwOnly
import HandS.RaiseMore
import HandS.Property
import PySem.Challenge.RW_ringlessday_k43_ratios_reckoned
import KE.KStateDown
import HandS.Exc
import HandS.ExcInit
import HandS.ExcField
import HandS.HeadNt
import HandS.Head0
import HandS.Head1
import HandS.Head2
import HandS.HeadEnd
import HandS.HeadWalk
import HandS.HeadHook1
import HandS.HeadHook2
import HandS.HeadHook3
import HandS.Head3
import HandS.HeadHook4
import Wide.Once
import HandS.OwnEq
import HandS.Defaults
import KE.KFmtOwn
import PyProof.InstEq
import HandS.ExcIs
import HandS.TryMany
import KE.KExcInit
import KE.KExcIs
import PyProof.Rows.Range3
import HandS.Small
import HandS.Star
import PyProof.NeKinds
import HandS.TupSets
import HandS.Lambda
import HandS.ExcCtx
import KE.KDflt
import HandS.HotCalls
import KE.KTryMore
import KE.KOpsOwn
import PyProof.TwoTypes
import PyProof.MeetsIn
import PyProof.FactsAll.int_0
import PyProof.FactsAll.int_1
import PyProof.FactsAll.int_2
import PyProof.FactsAll.int_3
import KE.KCallOwn
import HandS.RaiseOp
import HandS.ExcBuiltin
import PyProof.Rows.StrIntSpec
import PyProof.FString3
import KE.KxField
import HandS.Text
import KE.KIntText
import HandS.Zip
import HandS.Comp
import HandS.Nested
set_option Elab.async false
set_option linter.all false
set_option maxRecDepth 100000
namespace Rd
open PySem PySem.Spec PyProof.Rows L2
def topS (i : Nat) : Stmt := PySem.Challenge.pw_ringlessday_k43_ratios_reckoned.main.body.getD i (.Pass ⟨0, 0, 0, 0⟩)
def inS (i k : Nat) : Stmt := match topS i with
  | .ClassDef (body := b) .. => b.getD k (.Pass ⟨0, 0, 0, 0⟩)
  | s => s
end Rd
set_option maxHeartbeats 0
namespace Rd
open PySem PySem.Spec PyProof.Rows L2
abbrev sq_is_integer : Stmt := topS 7
abbrev sq_number_word : Stmt := topS 11
abbrev sq_word_of_number : Stmt := topS 12
abbrev sq_is_term : Stmt := topS 15
abbrev sq_as_ratio : Stmt := topS 16
abbrev sq_terms_of : Stmt := topS 17
abbrev sq_law_bag : Stmt := topS 19
abbrev sq_law_pull : Stmt := topS 20
abbrev sq_law_of : Stmt := topS 21
abbrev sq_law_like : Stmt := topS 22
abbrev sq_law_field : Stmt := topS 23
abbrev sq_law_try : Stmt := topS 24
abbrev sq_law_plain : Stmt := topS 25
abbrev sq_law_number : Stmt := topS 26
abbrev sq_law_so : Stmt := topS 27
abbrev sq_law_zero : Stmt := topS 28
abbrev sq_law : Stmt := topS 29
def excB (K : PySem.W.Frag) (D : Addr) : Bool := decide (PySem.W.findIn K (.ref D) "__getattribute__" = some (some (.builtin "BaseException.__getattribute__"))) && (decide (PySem.W.findIn K (.ref D) "__getattr__" = some none) && (decide (PySem.W.subIn K (.ref D) (.type "BaseException") = some true) && (PySem.W.hasDictIn K D &&
  (decide (PySem.W.findIn K (.ref D) "__class__" = some (some (.builtin "object.__class__"))) && (decide (PySem.W.specialIn K (.builtin "object.__class__") "__get__" = some (some (.builtin "getset_descriptor.__get__"))) && (decide (PySem.W.takesIn K (.builtin "object.__class__") = some true) && decide (PySem.W.mroIn K D (.type "object") = some true)))))))
def xB (K : PySem.W.Frag) (C f : Addr) (bmB : List Value) (newId : String) (nm : List Str) : Bool := PySem.W.excInitIn K C bmB newId && (PySem.W.excOver K C bmB && (PySem.W.hasDictIn K C && (decide (PySem.W.findIn K (.ref C) "__setattr__" = some (some (.builtin "object.__setattr__"))) && (PySem.W.keepIn K (.ref C) &&
  (xfB K C && (excB K C && (decide (PySem.W.typeIn K (.ref f) = some (.type "function")) && (nm.all (fun n => decide (PySem.W.findIn K (.ref C) n = some none)) && decide (PySem.W.typeIn K (.ref C) = some (.type "type"))))))))))
def xB2 (K : PySem.W.Frag) (r : Str × List Value × String × List Str) : Bool := He.eqO (PySem.W.findIn K (.ref (He.ga K r.1)) "__init__") (some (some (.ref (He.ma K (He.ga K r.1) "__init__")))) && xB K (He.ga K r.1) (He.ma K (He.ga K r.1) "__init__") r.2.1 r.2.2.1 r.2.2.2
def exR : List (Str × List Value × String × List Str) := [("InvalidText", [.type "ValueError", .type "Exception", .type "BaseException", .type "object"], "ValueError.__new__", ["line", "code"])]
def typN : List String := ["NoneType", "str", "int", "bool", "tuple", "list"]
def ownN : List Str := ["Ratio"]
def excN : List Str := ["InvalidText"]
/-- an own class -/
def clsB (K : PySem.W.Frag) (x : Str) : Bool :=
  He.eqO (PySem.W.findIn K (.ref (He.ga K x)) "__class__") (some (some (.builtin "object.__class__"))) &&
  (decide (PySem.W.mroIn K (He.ga K x) (.type "object") = some true) &&
  ((typN.all fun t => PySem.W.notFirst K (He.ga K x) (.type t)) &&
  (PySem.W.notFirst K (He.ga K x) (.ref (He.ga K x)) &&
  (decide (PySem.W.kitOne K (.ref (He.ga K x)) (.ref (He.ga K x)) = some true) &&
  ((typN.all fun t => decide (PySem.W.kitOne K (.type t) (.ref (He.ga K x)) = some false)) &&
  He.eqO (PySem.W.findIn K (.ref (He.ga K x)) "__ne__") (some (some (.builtin "object.__ne__"))))))))
def oneB (K : PySem.W.Frag) : Bool := He.eqO (PySem.W.specialIn K (.builtin "object.__class__") "__get__") (some (some (.builtin "getset_descriptor.__get__"))) &&
  (decide (PySem.W.takesIn K (.builtin "object.__class__") = some true) && (He.eqO (PySem.W.nsIn K mainGlobals "gcd") (some (some (.builtin "math.gcd"))) &&
  (excN.all fun x => decide (PySem.W.exmAny K (.ref (He.ga K x)) [.ref (He.ga K "DayError"), .ref (He.ga K "Missing"), .ref (He.ga K "NothingLeft")] = some true))))
/-- what the operators ask of the class -/
def ratB (K : PySem.W.Frag) : Bool := PySem.W.selfFirst K (He.ga K "Ratio") && (decide (PySem.W.subIn K (.type "int") (.ref (He.ga K "Ratio")) = some false) && (decide (PySem.W.subIn K (.ref (He.ga K "Ratio")) (.type "int") = some false) &&
  He.eqO (PySem.W.findIn K (.ref (He.ga K "Ratio")) "__rfloordiv__") (some none)))
/-- its classmethod -/
def dRd : He5.DefA := { at_ := fun K => He5.wf K (He.ga K "Ratio") "classmethod" "read", name := "read", qual := "Ratio.read", params := defArgs (inS 14 1), body := defBody (inS 14 1), scope := defScope (inS 14 1) }
def rdB (K : PySem.W.Frag) : Bool := PySem.W.readsIn K (He.ga K "Ratio") (.type "type") && (He.eqO (PySem.W.specialIn K (.ref (He.ga K "Ratio")) "__getattribute__") (some (some (.builtin "type.__getattribute__"))) &&
  (He5.wrapB K (He.ga K "Ratio") "classmethod" "classmethod.__get__" "read" && (PySem.W.fnIn K (He5.wf K (He.ga K "Ratio") "classmethod" "read") && dRd.ok K)))
def faL : List He.Fa := ([.glo "is_integer", .glo "number_word", .glo "word_of_number", .glo "is_term", .glo "as_ratio", .glo "terms_of", .glo "_law_bag", .glo "_law_pull", .glo "_law_of", .glo "_law_like"] : List He.Fa) ++ (([.glo "_law_field", .glo "_law_try", .glo "_law_plain", .glo "_law_number", .glo "_law_so", .glo "_law_zero", .glo "law", .glo "InvalidText", .glo "DayError", .glo "Missing"] : List He.Fa) ++ (([.glo "NothingLeft", .glo "Ratio", .str "DIGITS" "0123456789", .int "PART" 1000000000, .cls "Ratio", .mkr "Ratio", .noat "Ratio" "top", .noat "Ratio" "bottom", .meth "Ratio" "over", .meth "Ratio" "compare"] : List He.Fa) ++ (([.meth "Ratio" "floor", .meth "Ratio" "ceiling", .meth "Ratio" "__add__", .meth "Ratio" "__radd__", .meth "Ratio" "__sub__", .meth "Ratio" "__rsub__", .meth "Ratio" "__mul__", .meth "Ratio" "__rmul__", .meth "Ratio" "__floordiv__", .meth "Ratio" "__neg__"] : List He.Fa) ++ (([.meth "Ratio" "__abs__", .meth "Ratio" "__bool__", .meth "Ratio" "__eq__", .meth "Ratio" "__str__", .meth "Ratio" "__repr__", .free "ZeroDivisionError", .free "abs", .free "all", .free "bool", .free "divmod"] : List He.Fa) ++ (([.free "int", .free "isinstance", .free "len", .free "list", .free "range", .free "repr", .free "str", .free "tuple", .free "zip"] : List He.Fa))))))
def dd0 : He.DefD := ⟨("is_integer", none), "is_integer", "is_integer", defArgs sq_is_integer, defBody sq_is_integer, defScope sq_is_integer, [], []⟩
def dd1 : He.DefD := ⟨("number_word", none), "number_word", "number_word", defArgs sq_number_word, defBody sq_number_word, defScope sq_number_word, [], []⟩
def dd2 : He.DefD := ⟨("word_of_number", none), "word_of_number", "word_of_number", defArgs sq_word_of_number, defBody sq_word_of_number, defScope sq_word_of_number, [], []⟩
def dd3 : He.DefD := ⟨("is_term", none), "is_term", "is_term", defArgs sq_is_term, defBody sq_is_term, defScope sq_is_term, [], []⟩
def dd4 : He.DefD := ⟨("as_ratio", none), "as_ratio", "as_ratio", defArgs sq_as_ratio, defBody sq_as_ratio, defScope sq_as_ratio, [], []⟩
def dd5 : He.DefD := ⟨("terms_of", none), "terms_of", "terms_of", defArgs sq_terms_of, defBody sq_terms_of, defScope sq_terms_of, [], []⟩
def dd6 : He.DefD := ⟨("_law_bag", none), "_law_bag", "_law_bag", defArgs sq_law_bag, defBody sq_law_bag, defScope sq_law_bag, [], []⟩
def dd7 : He.DefD := ⟨("_law_pull", none), "_law_pull", "_law_pull", defArgs sq_law_pull, defBody sq_law_pull, defScope sq_law_pull, [], []⟩
def dd8 : He.DefD := ⟨("_law_of", none), "_law_of", "_law_of", defArgs sq_law_of, defBody sq_law_of, defScope sq_law_of, [], []⟩
def dd9 : He.DefD := ⟨("_law_like", none), "_law_like", "_law_like", defArgs sq_law_like, defBody sq_law_like, defScope sq_law_like, [], []⟩
def dd10 : He.DefD := ⟨("_law_field", none), "_law_field", "_law_field", defArgs sq_law_field, defBody sq_law_field, defScope sq_law_field, [], []⟩
def dd11 : He.DefD := ⟨("_law_try", none), "_law_try", "_law_try", defArgs sq_law_try, defBody sq_law_try, defScope sq_law_try, [], []⟩
def dd12 : He.DefD := ⟨("_law_plain", none), "_law_plain", "_law_plain", defArgs sq_law_plain, defBody sq_law_plain, defScope sq_law_plain, [], []⟩
def dd13 : He.DefD := ⟨("_law_number", none), "_law_number", "_law_number", defArgs sq_law_number, defBody sq_law_number, defScope sq_law_number, [], []⟩
def dd14 : He.DefD := ⟨("_law_so", none), "_law_so", "_law_so", defArgs sq_law_so, defBody sq_law_so, defScope sq_law_so, [], []⟩
def dd15 : He.DefD := ⟨("_law_zero", none), "_law_zero", "_law_zero", defArgs sq_law_zero, defBody sq_law_zero, defScope sq_law_zero, [], []⟩
def dd16 : He.DefD := ⟨("law", none), "law", "law", defArgs sq_law, defBody sq_law, defScope sq_law, [], []⟩
def dd17 : He.DefD := ⟨("InvalidText", some "__init__"), "__init__", "InvalidText.__init__", defArgs (inS 3 0), defBody (inS 3 0), defScope (inS 3 0), [], []⟩
def dd18 : He.DefD := ⟨("Ratio", some "__init__"), "__init__", "Ratio.__init__", defArgs (inS 14 0), defBody (inS 14 0), defScope (inS 14 0), [.int 1], []⟩
def dd19 : He.DefD := ⟨("Ratio", some "over"), "over", "Ratio.over", defArgs (inS 14 2), defBody (inS 14 2), defScope (inS 14 2), [], []⟩
def dd20 : He.DefD := ⟨("Ratio", some "compare"), "compare", "Ratio.compare", defArgs (inS 14 3), defBody (inS 14 3), defScope (inS 14 3), [], []⟩
def dd21 : He.DefD := ⟨("Ratio", some "floor"), "floor", "Ratio.floor", defArgs (inS 14 4), defBody (inS 14 4), defScope (inS 14 4), [], []⟩
def dd22 : He.DefD := ⟨("Ratio", some "ceiling"), "ceiling", "Ratio.ceiling", defArgs (inS 14 5), defBody (inS 14 5), defScope (inS 14 5), [], []⟩
def dd23 : He.DefD := ⟨("Ratio", some "__add__"), "__add__", "Ratio.__add__", defArgs (inS 14 6), defBody (inS 14 6), defScope (inS 14 6), [], []⟩
def dd24 : He.DefD := ⟨("Ratio", some "__radd__"), "__radd__", "Ratio.__radd__", defArgs (inS 14 7), defBody (inS 14 7), defScope (inS 14 7), [], []⟩
def dd25 : He.DefD := ⟨("Ratio", some "__sub__"), "__sub__", "Ratio.__sub__", defArgs (inS 14 8), defBody (inS 14 8), defScope (inS 14 8), [], []⟩
def dd26 : He.DefD := ⟨("Ratio", some "__rsub__"), "__rsub__", "Ratio.__rsub__", defArgs (inS 14 9), defBody (inS 14 9), defScope (inS 14 9), [], []⟩
def dd27 : He.DefD := ⟨("Ratio", some "__mul__"), "__mul__", "Ratio.__mul__", defArgs (inS 14 10), defBody (inS 14 10), defScope (inS 14 10), [], []⟩
def dd28 : He.DefD := ⟨("Ratio", some "__rmul__"), "__rmul__", "Ratio.__rmul__", defArgs (inS 14 11), defBody (inS 14 11), defScope (inS 14 11), [], []⟩
def dd29 : He.DefD := ⟨("Ratio", some "__floordiv__"), "__floordiv__", "Ratio.__floordiv__", defArgs (inS 14 12), defBody (inS 14 12), defScope (inS 14 12), [], []⟩
def dd30 : He.DefD := ⟨("Ratio", some "__neg__"), "__neg__", "Ratio.__neg__", defArgs (inS 14 13), defBody (inS 14 13), defScope (inS 14 13), [], []⟩
def dd31 : He.DefD := ⟨("Ratio", some "__abs__"), "__abs__", "Ratio.__abs__", defArgs (inS 14 14), defBody (inS 14 14), defScope (inS 14 14), [], []⟩
def dd32 : He.DefD := ⟨("Ratio", some "__bool__"), "__bool__", "Ratio.__bool__", defArgs (inS 14 15), defBody (inS 14 15), defScope (inS 14 15), [], []⟩
def dd33 : He.DefD := ⟨("Ratio", some "__eq__"), "__eq__", "Ratio.__eq__", defArgs (inS 14 16), defBody (inS 14 16), defScope (inS 14 16), [], []⟩
def dd34 : He.DefD := ⟨("Ratio", some "__str__"), "__str__", "Ratio.__str__", defArgs (inS 14 17), defBody (inS 14 17), defScope (inS 14 17), [], []⟩
def dd35 : He.DefD := ⟨("Ratio", some "__repr__"), "__repr__", "Ratio.__repr__", defArgs (inS 14 18), defBody (inS 14 18), defScope (inS 14 18), [], []⟩
def fnL : List He.DefD := ([dd0, dd1, dd2, dd3, dd4, dd5, dd6, dd7, dd8, dd9] : List He.DefD) ++ (([dd10, dd11, dd12, dd13, dd14, dd15, dd16, dd17, dd18, dd19] : List He.DefD) ++ (([dd20, dd21, dd22, dd23, dd24, dd25, dd26, dd27, dd28, dd29] : List He.DefD) ++ (([dd30, dd31, dd32, dd33, dd34, dd35] : List He.DefD))))
def tsL : List He.Tab := []
def tfL : List He.Defn := [("law", none)]
def exB1 (K : PySem.W.Frag) : Bool := exR.all (xB2 K) && oneB K
def exB2 (K : PySem.W.Frag) : Bool := ownN.all (clsB K)
def exB3 (K : PySem.W.Frag) : Bool := ratB K && rdB K
def exB (K : PySem.W.Frag) : Bool := exB1 K && (exB2 K && exB3 K)
abbrev Seen : Type := He5.FnW
def seenL (K : PySem.W.Frag) : Seen := He5.fnA K (dRd.at_ K)
def seenV : Seen := dRd.val
abbrev Rr : PySem.W.OpenRow := PySem.W.OpenLaw.row PySem.Challenge.rw_ringlessday_k43_ratios_reckoned
def kW (g : Addr → Option Obj) : PySem.W.Frag := He.frT g (He.asD g 5 ++ [cStatics])
abbrev Al : Type := He.AlX × Seen
def lookB (g : Addr → Option Obj) (K : PySem.W.Frag) : Al := ((He.obsT faL fnL tsL K, exB K && He.tabsB g tfL K), seenL K)
def valB (w : World) : Al := ((He.valT fnL tsL w, true), seenV)
theorem tab_got {g : Addr → Option Obj} {K : PySem.W.Frag} (e : He.tabsB g tfL K = true) {p : He.Defn} (hp : p ∈ tfL) :
    PySem.W.codeHdIn K (He.cT K p).1 (He.cT K p).2 = true ∧ g (He.cT K p).2 = some ⟨.none, none, .fields #[], #[]⟩ := by
  obtain ⟨u, v⟩ := Bool.and_eq_true_iff.mp (List.all_eq_true.mp e p hp)
  refine And.intro u ?_
  generalize g (He.cT K p).2 = r at v
  match r, v with
  | some ob, v => exact congrArg some (He.emptyTab_eq v)
theorem look_says {w : World} {h : Heap} (e : lookB h.get? (kW h.get?) = valB w) : He.SaysX faL fnL tsL tfL exB w h (kW h.get?) := by
  have e0 := (Prod.mk.inj e).1
  have a := (Prod.mk.inj e0).1
  obtain ⟨b, d⟩ := Bool.and_eq_true_iff.mp (Prod.mk.inj e0).2
  refine { t := a, more := b, hd := fun p hp => (tab_got d hp).1, out := fun p hp => ?_, empty := fun p hp => (tab_got d hp).2 }
  exact He.frT_none (tab_got d hp).2 rfl
def hkB : PySem.W.Hook where
  α := Al
  obs := fun s => lookB s.heap.get? (kW s.heap.get?)
  val := valB
  says := fun w h => ∃ K : PySem.W.Frag, K.In h ∧ He.SaysX faL fnL tsL tfL exB w h K ∧ seenL K = seenV
  of := fun _ s e => Exists.intro (kW s.heap.get?) (And.intro (fun _ _ z => (He.frT_mem z).1) (And.intro (look_says e) (Prod.mk.inj e).2))
  keeps := fun _ _ _ ⟨K, i, c, v⟩ k => ⟨K, PySem.W.Frag.In.keeps i k, { c with empty := fun p hp => k _ _ (c.empty p hp) }, v⟩
def obB (s : PySem.W.SharedT) : Al := lookB (HandSHeadRun.getT s) (kW (HandSHeadRun.getT s))
theorem obB_eq (s : PySem.W.SharedT) : obB s = hkB.obs s.abs := by
  have e : HandSHeadRun.getT s = s.abs.heap.get? := funext fun a => HandSHeadRun.getT_eq s a
  show lookB _ (kW _) = lookB _ (kW _)
  rw [e]
def looseL : List Str := ["Ratio"]
abbrev qv : Program := PySem.W.view Rr.prog (([0, 2, 3, 4, 5, 7, 9, 10, 11, 12] : List Nat) ++ (([15, 16, 17, 19, 20, 21, 22, 23, 24, 25] : List Nat) ++ (([26, 27, 28, 29] : List Nat))))
section
open HandSHeadRun PySem.W
noncomputable abbrev oB (w : World) := wholeF (fun p => stepQ (denQ tabQ) p w) fenceQ 12000 Rr.prog
abbrev kOf (s : SharedT) : Frag := kW (getT s)
theorem run1 (w : World) : (oB w).map (fun x => (looksF Rr.prog x.1.heap x.2.abs, seenQ qv looseL (importedModules Rr.prog.main.body) (fun s => xlAt qv [] s && recOk Rr.toRowW.records s) x.2.abs)) = some (true, openGood qv looseL) := by kernel_rfl
theorem run2 (w : World) : (oB w).map (fun x => (He.obsT faL fnL tsL (kOf x.2), seenL (kOf x.2))) = some (He.valT fnL tsL w, seenV) := by kernel_rfl
theorem run3 (w : World) : (oB w).map (fun x => exB1 (kOf x.2) && He.tabsB (getT x.2) tfL (kOf x.2)) = some true := by kernel_rfl
theorem run4 (w : World) : (oB w).map (fun x => exB2 (kOf x.2) && exB3 (kOf x.2)) = some true := by kernel_rfl
theorem runB (w : World) : HandSHeadRun.RunEqI Rr qv hkB obB 12000 looseL w := by
  have h1 := run1 w
  have h2 := run2 w
  have h3 := run3 w
  have h4 := run4 w
  show (oB w).map _ = _
  generalize oB w = o at h1 h2 h3 h4
  cases o with
  | none => cases h1
  | some y =>
    obtain ⟨s0, s⟩ := y
    have e1 : (looksF Rr.prog s0.heap s.abs, seenQ qv looseL (importedModules Rr.prog.main.body) (fun s => xlAt qv [] s && recOk Rr.toRowW.records s) s.abs) = (true, openGood qv looseL) := Option.some.inj h1
    have e2 : (He.obsT faL fnL tsL (kOf s), seenL (kOf s)) = (He.valT fnL tsL w, seenV) := Option.some.inj h2
    have e3 : (exB1 (kOf s) && He.tabsB (getT s) tfL (kOf s)) = true := Option.some.inj h3
    have e4 : (exB2 (kOf s) && exB3 (kOf s)) = true := Option.some.inj h4
    obtain ⟨e31, e32⟩ := Bool.and_eq_true_iff.mp e3
    obtain ⟨e21, e22⟩ := Prod.mk.inj e2
    have e5 : obB s = ((He.valT fnL tsL w, true), seenV) := by
      show ((He.obsT faL fnL tsL (kOf s), (exB1 (kOf s) && (exB2 (kOf s) && exB3 (kOf s))) && He.tabsB (getT s) tfL (kOf s)), seenL (kOf s)) = _
      rw [e21, e22, e4, e31, e32]; rfl
    obtain ⟨a, b⟩ := Prod.mk.inj e1
    have e6 : (looksF Rr.prog s0.heap s.abs, seenQ qv looseL (importedModules Rr.prog.main.body) (fun s => xlAt qv [] s && recOk Rr.toRowW.records s) s.abs, obB s) = (true, openGood qv looseL, ((He.valT fnL tsL w, true), seenV)) := by rw [a, b, e5]
    exact congrArg some e6
end
end Rd
set_option maxHeartbeats 2000000
namespace PySem.W
open PySem PySem.Spec PySem.Calls PyProof.Rows
section
variable {prog : Program} {w : World} {A : Around} {E : Value → Shared → Prop} {s : Shared} {K : Frag} {x y C D f : Addr} {ox oy : Obj} {od od' : Option Obj} {b tb : Value}
/-- an own comparison of x is asked first -/
theorem cmp_own {op : CmpOp} {Q : Value → Shared → Prop} (hu : A.units < cLine) (X : K.In s.heap) (I : InstAt s.heap x ox C od) (hb : Looks (model prog w) s.heap (typeOf b) tb) (hn : notFirst K C tb = true)
    (h : wpAny (model prog w) A (callSpecialIfBound? (.ref x) (cmpInfo op).2.1 [b]) (fun r s' => ∃ v, r = some v ∧ CmpBack Q v s') E s) : wpAny (model prog w) A (richCompare op (.ref x) b) Q E s := by
  have one : wpAny (model prog w) A (tryCompare (.ref x) (cmpInfo op).2.1 b) (fun r s' => ∃ v, r = some v ∧ Q v s') E s := by
    unfold tryCompare
    refine wpAny_bind (wpAny_mono h (fun r s' hr => ?_) fun _ _ e => e)
    obtain ⟨v, rfl, hv⟩ := hr
    cases v <;> first | exact hv.elim | exact wpAny_pure ⟨_, rfl, hv⟩
  unfold richCompare
  simp only [oneThing_ref]
  refine wpAny_holding (wpAny_bind (wpAny_cRoomFor hu ?_))
  refine wpAny_bind (I.type.here (wpAny_bind (hb.here ?_)))
  have fin : wpAny (model prog w) A (tryCompare (.ref x) (cmpInfo op).2.1 b) (fun r s' => ∃ v, r = some v ∧ Q v s') E s := one
  split
  · rename_i q
    have e : subIn K tb (.ref C) = some false := by
      rcases Bool.or_eq_true_iff.mp hn with e | e
      · rw [beq_iff_eq.mp e] at q; simp at q
      · exact beq_iff_eq.mp e
    refine wpAny_bind ((looks_subIn X e).here ?_)
    simp only [Bool.false_eq_true, if_false]
    refine wpAny_bind (wpAny_mono fin (fun r s' z => ?_) fun _ _ e => e)
    obtain ⟨v, rfl, hq⟩ := z
    exact wpAny_pure hq
  · refine wpAny_bind (wpAny_pure ?_)
    simp only [Bool.false_eq_true, if_false]
    refine wpAny_bind (wpAny_mono fin (fun r s' z => ?_) fun _ _ e => e)
    obtain ⟨v, rfl, hq⟩ := z
    exact wpAny_pure hq
/-- x == y where y's class lies below x's: y is asked first -/
theorem cmp_below {Q : Value → Shared → Prop} (hu : A.units < cLine) (X : K.In s.heap) (I : InstAt s.heap x ox C od) (J : InstAt s.heap y oy D od') (hne : D ≠ C) (hsub : subIn K (.ref D) (.ref C) = some true)
    (hs : findIn K (.ref D) "__eq__" = some (some (.ref f))) (hf : isFn K (.ref f) = true) (h : wpAny (model prog w) A (call (.ref f) [.ref y, .ref x]) (CmpBack Q) E s) : wpAny (model prog w) A (richCompare .Eq (.ref x) (.ref y)) Q E s := by
  have one : wpAny (model prog w) A (tryCompare (.ref y) (cmpInfo .Eq).2.2 (.ref x)) (fun r s' => ∃ v, r = some v ∧ Q v s') E s := by
    unfold tryCompare
    refine wpAny_bind (ifBound_K X J hs hf (wpAny_mono h (fun v s' hv => ?_) fun _ _ e => e))
    cases v <;> first | exact hv.elim | exact wpAny_pure ⟨_, rfl, hv⟩
  unfold richCompare
  simp only [oneThing_ref]
  refine wpAny_holding (wpAny_bind (wpAny_cRoomFor hu ?_))
  refine wpAny_bind (I.type.here (wpAny_bind (J.type.here ?_)))
  have q : (Value.ref C != Value.ref D) = true := by
    rw [bne_iff_ne]
    intro z
    cases z
    exact hne rfl
  rw [if_pos q]
  refine wpAny_bind ((looks_subIn X hsub).here ?_)
  simp only [if_true]
  refine wpAny_bind (wpAny_mono one (fun r s' z => ?_) fun _ _ e => e)
  obtain ⟨v, rfl, hq⟩ := z
  first
    | exact wpAny_pure hq
    | exact wpAny_bind (wpAny_pure (wpAny_pure hq))
    | (wp_walk; exact hq)
open Builtin in
/-- x != b of an own == (object.__ne__ turns it round) -/
theorem cmp_ne {Q : Value → Shared → Prop} (hu : A.units < cLine) (hu1 : A.in1.units < cLine) (X : K.In s.heap) (I : InstAt s.heap x ox C od) (hm : mroIn K C (.type "object") = some true) (hb : Looks (model prog w) s.heap (typeOf b) tb) (hn : notFirst K C tb = true)
    (hne : findIn K (.ref C) "__ne__" = some (some (.builtin "object.__ne__"))) (hs : findIn K (.ref C) "__eq__" = some (some (.ref f))) (hf : isFn K (.ref f) = true)
    (h : wpAny (model prog w) A.in1 (call (.ref f) [.ref x, b]) (fun v s' => ∃ r, v = .bool r ∧ Q (.bool (!r)) s') E s) : wpAny (model prog w) A (richCompare .NotEq (.ref x) b) Q E s := by
  refine cmp_own (op := .NotEq) hu X I hb hn ?_
  show wpAny (model prog w) A (callSpecialIfBound? (.ref x) "__ne__" [b]) _ E s
  simp only [callSpecialIfBound?, bindSpecialIfBound?]
  refine wpAny_holding (wpAny_bind (wpAny_bind (wpAny_bind (I.type.here ((looks_findIn X hne).here ?_)))))
  refine wpAny_bind (wpAny_askSetting (wpAny_ite ?_))
  have go : wpAny (model prog w) A (call (.builtin "object.__ne__") [.ref x, b]) (fun v s' => CmpBack Q v s') E s := by
    refine wpAny_call (codeAny_call_builtin PySem.F.cmp_object.ne.plain PySem.F.cmpEntry_ne (check_slot (i := "object.__ne__") (owner := "object") (n := "__ne__") PySem.F.cmpKind_ne PySem.F.cmpSplit_ne (I.type.andThen (looks_mroIn X hm)) (PySem.F.cmpArgs_ne _ _) ?_))
    unfold Builtin.«object.__ne__»
    refine wpAny_bind (m := slotArgs "__ne__" 1 _) (wpAny_pure ?_)
    refine wpAny_bind (m := cRoomFor _ _) (wpAny_cRoomFor hu1 ?_)
    refine wpAny_bind (m := callSpecialIfBound? (.ref x) (Str.ofString "__eq__") _) (ifBound_K X I hs hf (wpAny_mono h (fun r s' hq => ?_) fun _ _ y => y))
    obtain ⟨r, rfl, hq⟩ := hq
    refine wpAny_bind (wpAny_truthy_bool ?_)
    exact wpAny_pure hq
  have fin : wpAny (model prog w) A (call (.builtin "object.__ne__") ([.ref x] ++ [b]) >>= fun v => pure (some v)) (fun r s' => ∃ v, r = some v ∧ CmpBack Q v s') E s :=
    wpAny_bind (wpAny_mono go (fun v s' h' => wpAny_pure ⟨v, rfl, h'⟩) fun _ _ h' => h')
  simp only [PySem.F.cmp_object.ne.bind]
  split
  · exact wpAny_bind (wpAny_pure (wpAny_pure fin))
  · exact wpAny_tryCatch (wpAny_bind (wpAny_pure (wpAny_pure fin)))
end
end PySem.W
set_option maxHeartbeats 4000000
namespace Rd
open PySem PySem.Spec PyProof.Rows L2
/-! ## own exceptions over any base, as values -/
/-- what the top says of such a class -/
structure XC (K : PySem.W.Frag) (C : Addr) (B newId initId : String) (bmB : List Value) : Prop where
  F : ExcBaseFacts B newId initId bmB
  S : StoreFacts B bmB "object.__setattr__" "object"
  ini : PySem.W.excInitIn K C bmB newId = true
  ovr : PySem.W.excOver K C bmB = true
  hasd : PySem.W.hasDictIn K C = true
  sa : PySem.W.findIn K (.ref C) "__setattr__" = some (some (.builtin "object.__setattr__"))
  kC : PySem.W.keepIn K (.ref C) = true
section
variable {X : Cx} {pins : List (Addr × Obj)} {σ : L2.St} {H : Hp} {s : Shared} {a C dx : Addr} {f : Str} {y : V} {u : Value} {fs : List (Str × V)} {Q : Unit → Shared → Prop} {E : Value → Shared → Prop} {A : Around} {B newId initId : String} {bmB : List Value}
theorem cls_of (T : XC X.K C B newId initId bmB) : ∃ cd, PySem.W.clsIn X.K C = some cd ∧ cd.hasDict = true := by
  have h : (PySem.W.clsIn X.K C).any (·.hasDict) = true := T.hasd
  cases e : PySem.W.clsIn X.K C with
  | none => rw [e] at h; cases h
  | some cd => rw [e] at h; exact ⟨cd, rfl, h⟩
theorem gst_new (T : XC X.K C B newId initId bmB) (I : Inv X pins σ H s) (e : H a = some (exo a C none)) (hno : PySem.W.findIn X.K (.ref C) f = some none) (ry : RelV y u)
    (h : ∀ dx s', H dx = none → dx ≠ a → Inv X pins σ (upd (upd H dx (exd dx [(f, y)])) a (exo a C (some dx))) s' → Q () s') : wpAny (model X.prog X.w) A (setAttr (.ref a) f u) Q E s := by
  obtain ⟨cd, hcl, hdc⟩ := cls_of T
  obtain ⟨t1, ho⟩ := exo_at I.hok e
  obtain ⟨hp, g, d, t, os⟩ := s
  have hcls : PySem.W.Looks (model X.prog X.w) hp (classData C) cd := PySem.W.looks_clsIn I.kIn hcl
  have IA : PySem.W.InstAt hp a { cls := .ref C, dict := none, data := .fields #[.ref t1, .none, .none, .none, .bool false, .none] } C none := ⟨ho, rfl, rfl, trivial⟩
  refine PySem.W.set_plain I.kIn IA T.sa ?_
  refine PySem.W.osa_openX T.S I.kIn IA T.ovr (r := none) (by unfold PySem.W.takerIn; rw [hno]; rfl) fun b => ?_
  show wpAny _ _ (Builtin.ObjectAttr.storeInOwnDict (.ref a) (.ref C) (.str f _) f u b) _ _ _
  obtain ⟨nm, bs, mro, ns, qn, hd, sn, sb, ab, col, del⟩ := cd
  dsimp only at hdc
  subst hdc
  have ha : a ≠ hp.objs.size := Nat.ne_of_lt (Heap.lt_size ho)
  unfold Builtin.ObjectAttr.storeInOwnDict Builtin.ObjectAttr.ownDictForStores
  repeat (first | with_reducible refine PySem.HandSPX.store_in_new ?_ ?_ | with_reducible refine wpAny_loadPart_at ho ?_ | with_reducible refine hcls.at ?_ | wp_step)
  · exact ⟨_, #[], _, (Heap.get?_update_ne _ _ _ _ ha.symm).trans (Heap.get?_push_at rfl rfl), rfl, fun e he => absurd he (by simp), fun _ => rfl⟩
  · intro h' tk' hn' hs
    have h1 : (hp.push { cls := .type "dict", data := .dict #[] }).get? a = some { cls := .ref C, dict := none, data := .fields #[.ref t1, .none, .none, .none, .bool false, .none] } := Heap.get?_push_of_some _ ho
    have ha' : h'.get? a = some { cls := .ref C, dict := some hp.objs.size, data := .fields #[.ref t1, .none, .none, .none, .bool false, .none] } := (hs.2 a ha).trans (Heap.get?_update_self _ h1 rfl)
    have keep : ∀ b o, b ≠ a → hp.get? b = some o → h'.get? b = some o := fun b o hb hob => (hs.2 b (Nat.ne_of_lt (Heap.lt_size hob))).trans ((Heap.get?_update_ne _ _ _ _ hb).trans (Heap.get?_push_of_some _ hob))
    -- the dict alone, then the exception's own object
    have g1 : ∀ b, b ≠ a → (h'.update a fun _ => ({ cls := .ref C, dict := none, data := .fields #[.ref t1, .none, .none, .none, .bool false, .none] } : Obj)).get? b = h'.get? b := fun b hb => Heap.get?_update_other _ _ (Ne.symm hb)
    have g2 := Heap.get?_update_self (fun _ => ({ cls := .ref C, dict := none, data := .fields #[.ref t1, .none, .none, .none, .bool false, .none] } : Obj)) ha' rfl
    have J1 := I.laid (t' := tk') (a := hp.objs.size) (o := exd hp.objs.size [(f, y)]) (h' := h'.update a fun _ => ({ cls := .ref C, dict := none, data := .fields #[.ref t1, .none, .none, .none, .bool false, .none] } : Obj))
      (fun b o hob => by
        by_cases hb : b = a
        · subst hb
          rw [ho] at hob
          cases hob
          exact g2
        · exact (g1 b hb).trans (keep b o hb hob)) (Nat.le_refl _)
      (exd_ok (hn'.at fun o q => (g1 _ ha.symm).trans q) (relO_put (fs := []) ry fun g => True.intro))
    have ea : upd H hp.objs.size (exd hp.objs.size [(f, y)]) a = some (exo a C none) := by rw [upd_ne ha]; exact e
    have J2 := J1.write (t' := tk') (x := a) (e := a) (h' := h') (o := exo a C (some hp.objs.size)) (by rw [ea]; exact True.intro) (.inl rfl) (fun b o hb hob => (g1 b hb).symm.trans hob) ⟨_, ha'⟩ (exo_ok ha')
    exact h _ _ (I.hok.fresh (Nat.le_refl _)) ha.symm J2
theorem gst_old (T : XC X.K C B newId initId bmB) (I : Inv X pins σ H s) (e : H a = some (exo a C (some dx))) (ed : H dx = some (exd dx fs)) (hl : fs.length ≤ 900) (hno : PySem.W.findIn X.K (.ref C) f = some none) (ry : RelV y u)
    (h : ∀ s', Inv X pins σ (upd H dx (exd dx ((f, y) :: fs))) s' → Q () s') : wpAny (model X.prog X.w) A (setAttr (.ref a) f u) Q E s := by
  obtain ⟨cd, hcl, hdc⟩ := cls_of T
  obtain ⟨t1, ho⟩ := exo_at I.hok e
  obtain ⟨mA, hns, rel⟩ := exd_at I.hok ed
  have hw := within_of rel
  obtain ⟨hp, g, d, t, os⟩ := s
  obtain ⟨oD, _, _, hoD, _, _⟩ := hns.count hw
  have hcls : PySem.W.Looks (model X.prog X.w) hp (classData C) cd := PySem.W.looks_clsIn I.kIn hcl
  have IA : PySem.W.InstAt hp a { cls := .ref C, dict := some dx, data := .fields #[.ref t1, .none, .none, .none, .bool false, .none] } C (some oD) := ⟨ho, rfl, rfl, hoD⟩
  refine PySem.W.set_plain I.kIn IA T.sa ?_
  refine PySem.W.osa_openX T.S I.kIn IA T.ovr (r := none) (by unfold PySem.W.takerIn; rw [hno]; rfl) fun b => ?_
  show wpAny _ _ (Builtin.ObjectAttr.storeInOwnDict (.ref a) (.ref C) (.str f _) f u b) _ _ _
  obtain ⟨nm, bs, mro, ns, qn, hd, sn, sb, ab, col, del⟩ := cd
  dsimp only at hdc
  subst hdc
  unfold Builtin.ObjectAttr.storeInOwnDict Builtin.ObjectAttr.ownDictForStores
  have hz : (fs.map (·.1)).length ≤ 1000 := by rw [List.length_map]; omega
  repeat (first | with_reducible refine PySem.OEX.store_in_old hns hw hz ?_ | with_reducible refine wpAny_loadPart_at ho ?_ | with_reducible refine hcls.at ?_ | wp_step)
  intro h' tk' hn' hs
  have hd : ∃ o, h'.get? dx = some o := by
    obtain ⟨o, _, _, e', _⟩ := hn'
    exact ⟨o, e'⟩
  exact h _ (I.write (t' := tk') (x := dx) (e := dx) (o := exd dx ((f, y) :: fs)) (by rw [ed]; exact True.intro) (.inl rfl) (fun b o hb hob => (hs.2 b hb).trans hob) hd (exd_ok hn' (relO_put ry rel)))
end
/-! ### readings and rules -/
/-- self.f = e, self an exception that is made or stands -/
def tGst (K : PySem.W.Frag) (f : Str) (to te : TE) : TS := fun D σ H => te σ H fun y H1 => to σ H1 fun x H2 => ∃ (a C : Addr) (B newId initId : String) (bmB : List Value), x = .ref a ∧ XC K C B newId initId bmB ∧ PySem.W.findIn K (.ref C) f = some none ∧
  ((H2 a = some (exo a C none) ∧ ∀ dx, H2 dx = none → dx ≠ a → D.nx σ (upd (upd H2 dx (exd dx [(f, y)])) a (exo a C (some dx)))) ∨
    ∃ (dx : Addr) (fs : List (Str × V)), H2 a = some (exo a C (some dx)) ∧ H2 dx = some (exd dx fs) ∧ fs.length ≤ 900 ∧ D.nx σ (upd H2 dx (exd dx ((f, y) :: fs))))
/-- C(e, ..) as a value -/
def tGmk (C : Addr) (sp : Sp) (gV : List V → List V) (ta : TA) : TE := fun σ H Q => ta σ H fun vs H1 => vs.length ≤ 1000 ∧ ∀ a, H1 a = none → sp (.ref a :: gV vs) (upd H1 a (exo a C none)) (fun v H2 => v = .non ∧ Q (.ref a) H2) E0
/-- e.f of an exception that is tracked -/
structure XF (K : PySem.W.Frag) (C : Addr) : Prop where
  x : XfC K C
  i : ExcC K C
def tGf (K : PySem.W.Frag) (f : Str) (te : TE) : TE := fun σ H Q => te σ H fun x H1 => ∃ (a C d : Addr) (fs : List (Str × V)) (v : V), x = .ref a ∧ XF K C ∧ PySem.W.findIn K (.ref C) f = some none ∧ H1 a = some (exo a C (some d)) ∧ H1 d = some (exd d fs) ∧ fs.lookup f = some v ∧ Q v H1
def rIsX (K : PySem.W.Frag) : List V → Hp → VK → Prop := fun xs H Q => ∃ (a C d : Addr) (fs : List (Str × V)) (c : V) (cv : Value) (b : Bool), xs = [.ref a, c] ∧ ClsV c cv ∧ H a = some (exo a C (some d)) ∧ H d = some (exd d fs) ∧ XF K C ∧ PySem.W.kitOne K (.ref C) cv = some b ∧ Q (.bl b) H
section
variable {X : Cx} {o e : Expr} {es : List Expr} {to te : TE} {ta : TA} {f : Str} {p p' pos : Pos}
theorem ps_gst (ho : PE X o to) (he : PE X e te) (hs : swapsWith e (some (.Attribute o f p')) pos.line X.env = pure false := by rfl) : PS X (.Assign [.Attribute o f p'] e pos) (tGst X.K f to te) where
  run := fun pins s σ H D I h => plainObj_wpAny_Assign_Attribute (thn (he.run pins s σ H _ I h) fun v s1 ⟨y, H1, I1, r1, q1⟩ => thn (ho.run pins s1 σ H1 _ I1 q1) fun u s2 hh => by
    obtain ⟨x, H2, I2, r2, a, C, B, nI, iI, bmB, ex, T, hno, q⟩ := hh
    subst ex
    obtain rfl : u = Value.ref a := r2
    rcases q with ⟨ea, q⟩ | ⟨dx, fs, ea, ed, hl, q⟩
    · exact gst_new T I2 ea hno r1 fun dx s' n ne J => ⟨σ, _, J, q dx n ne⟩
    · exact gst_old T I2 ea ed hl hno r1 fun s' J => ⟨σ, _, J, q⟩) hs
theorem pe_gf (he : PE X e te) (hb : attributeBase e f X.env (eval e X.env) = eval e X.env := by rfl) : PE X (.Attribute e f pos) (tGf X.K f te) where
  run := fun pins s σ H Q I h => attr_of hb (thn (he.run pins s σ H _ I h) fun u s1 hh => by
    obtain ⟨x, H1, I1, rx, a, C, d, fs, v, ex, T, hno, ea, ed, l, q⟩ := hh
    subst ex
    obtain rfl : u = Value.ref a := rx
    obtain ⟨t1, ho⟩ := exo_at I1.hok ea
    obtain ⟨mA, hns, rel⟩ := exd_at I1.hok ed
    obtain ⟨od, hod, hl⟩ := lookIn_ns hns
    obtain ⟨u, hu, ru⟩ := RelO.some_of (v := v) (o := mA f) (by rw [← l]; exact rel f)
    have J : PySem.W.InstAt s1.heap a _ C (some od) := ⟨ho, rfl, rfl, hod⟩
    exact HandSPX.exc_get I1.kIn J T.x.ga T.x.gg T.x.exC (PySem.W.findObj_own T.x.hdC hno rfl (by rw [hl, hu])) (handed_of ru) ⟨v, H1, I1.tok _, ru, q⟩)
theorem some_dict {K : PySem.W.Frag} {C : Addr} (h : PySem.W.hasDictIn K C = true) : (PySem.W.clsIn K C).isSome = true := by
  unfold PySem.W.hasDictIn at h
  cases e : PySem.W.clsIn K C with
  | none => rw [e] at h; cases h
  | some _ => rfl
theorem call_isX : CallR X (.builtin "isinstance") (rIsX X.K) := by
  intro pins s σ H xs us Q I r h
  obtain ⟨a, C, d, fs, c, cv, b, rfl, hcv, ea, ed, T, e, q⟩ := h
  obtain ⟨u1, u2, rfl, r1, r2⟩ := vals2 r
  obtain rfl : u1 = Value.ref a := r1
  have ec := hcv.eq r2
  subst ec
  obtain ⟨t1, ho⟩ := exo_at I.hok ea
  obtain ⟨mA, hns, rel⟩ := exd_at I.hok ed
  obtain ⟨od, hod, hl⟩ := lookIn_ns hns
  have J : PySem.W.InstAt s.heap a _ C (some od) := ⟨ho, rfl, rfl, hod⟩
  exact PySem.W.kia_one (PySem.W.kitx_exc (some_dict T.i.hd) T.i.hg T.i.hk T.i.hs T.i.ha T.i.hn T.i.ht T.i.hm) I.kIn J e (fun z => nomatch z) fun tk => ⟨.bl b, H, I.tok tk, rfl, q⟩
end
end Rd
set_option maxHeartbeats 1000000
namespace PySem
namespace RdK
open Builtin Builtin.ObjectAttr HandSPX
section
variable {M : Model} {A : Around} {E : Value → Shared → Prop} {h : Heap} {g : Array GenState} {d : Drawn} {t : Nat} {os : OsState}
variable {nm q : Str} {C N : Addr} {bs bm bmB : List Value} {hdct : Bool} {sn : List Str} {sub : List Value} {ab : Bool} {col : Option Bool} {dd : Option Addr} {k0 k1 k2 k3 k5 : Option Value} {B newId initId : String} {kw : List (Str × Value)}
theorem chk_newK (F : ExcBaseFacts B newId initId bmB) (hT : ∀ X : String, bm.contains (.type X) = bmB.contains (.type X)) {Q : Unit → Shared → Prop}
    (hC : h.get? C = some (excClassObj nm q C N bs bm hdct sn sub ab col dd k0 k1 k2 k3 k5 newId)) (hq : Q () ⟨h, g, d, t, os⟩) :
    wpAny M A (checkBuiltinCall newId ⟨[.ref C], kw⟩) Q E ⟨h, g, d, t, os⟩ := by
  have hcont : (Value.ref C :: bm).contains (.type B) = true := by rw [List.contains_cons, hT, F.hasB, Bool.or_true]
  have hstar := F.noStar
  simp only [checkBuiltinCall, F.newKind, F.newSplit, F.newRow]
  repeat (first
    | refine wpAny_loadPart_at hC ?_
    | (refine wpAny_isSubtype_exc hC ?_; rw [hcont])
    | refine wpAny_staticBase_exc hC ?_
    | refine wpAny_madeBy_exc hC ?_
    | simp only [bne_self_eq_false, Bool.false_eq_true, if_false]
    | wp_step)
  exact hq
end
section
variable {prog : Program} {w : World} {A : Around} {E : Value → Shared → Prop} {R : Result → Shared → Prop} {h : Heap} {g : Array GenState} {d : Drawn} {t : Nat} {os : OsState}
variable {nm q : Str} {C N : Addr} {bs bm bmB : List Value} {hdct : Bool} {sn : List Str} {sub : List Value} {ab : Bool} {col : Option Bool} {dd : Option Addr} {k0 k1 k2 k3 k5 : Option Value} {B newId initId : String} {kw : List (Str × Value)}
theorem newK (F : ExcBaseFacts B newId initId bmB) (hT : ∀ X : String, bm.contains (.type X) = bmB.contains (.type X))
    (hC : h.get? C = some (excClassObj nm q C N bs bm hdct sn sub ab col dd k0 k1 k2 k3 k5 newId))
    (hq : R (.ok (.ret (.ref (h.objs.size + 1)))) ⟨(h.push (PySem.W.kdv_tup [])).push (PySem.HandSPX.excO C h.objs.size), g, d, t, os⟩) :
    codeAny (model prog w) A (.builtin newId ⟨[.ref C], kw⟩) R ⟨h, g, d, t, os⟩ := by
  have hends := F.ends
  have c1 : (Value.ref C :: bm).contains (.type B) = true := by rw [List.contains_cons, hT, F.hasB, Bool.or_true]
  have c2 : (Value.ref C :: bm).contains (.type "AttributeError") = false := by rw [List.contains_cons, hT, F.noAttr]; rfl
  have c3 : (Value.ref C :: bm).contains (.type "NameError") = false := by rw [List.contains_cons, hT, F.noName]; rfl
  refine codeAny_builtinAt F.entry ?_
  unfold Builtin.«BaseException.__new__»
  refine wpAt_bind ?_
  show wpAt _ _ _ (stack >>= _) _ _ _
  refine wpAt_bind (wpAt_stack fun p below => wpAt_of_wpAny ?_)
  wp_walk
  refine wpAt_of_wpAny ?_
  rw [F.owner]
  repeat (first
    | with_reducible refine wpAny_madeHere_exc F.canon hC ?_
    | with_reducible refine wpAny_loadPart_at hC ?_
    | (with_reducible refine wpAny_isSubtype_exc hC ?_; first | rw [c1] | rw [c2] | rw [c3])
    | wp_step)
  show R _ _
  rw [Heap.size_push]
  exact hq
theorem tcallK (F : ExcBaseFacts B newId initId bmB) (hT : ∀ X : String, bm.contains (.type X) = bmB.contains (.type X)) {fI : Addr} {Q : Fin → Shared → Prop}
    (hC : h.get? C = some (excClassObj nm q C N bs bm hdct sn sub ab col dd k0 k1 k2 k3 k5 newId))
    (hi : W.Looks (model prog w) h (typeLookup (.ref C) "__init__") (some (.ref fI))) (hb : ∀ self, W.Looks (model prog w) h (bindSpecial (.ref fI) self) (.ref fI, [self]))
    (hq : codeAny (model prog w) A (.call (.ref fI) ⟨[.ref (h.objs.size + 1)], kw⟩) (fun r s' => match r with | .ok (.ret v) => v = .none ∧ Q (.done (.ret (.ref (h.objs.size + 1)))) s' | .ok _ => False | .error e => E e s')
      ⟨(h.push (W.kdv_tup [])).push (excO C h.objs.size), g, d, t, os⟩) :
    wpAny (model prog w) A (Builtin.«type.__call__» ⟨[.ref C], kw⟩) Q E ⟨h, g, d, t, os⟩ := by
  repeat (first
    | with_reducible refine wpAny_loadPart_at hC ?_
    | with_reducible refine wpAny_madeBy_exc hC ?_
    | wp_step)
  refine codeAny_call_builtin_code (Code.quiet_builtin _ F.quiet) (chk_newK F hT hC ?_)
  refine newK F hT hC ?_
  show wpAny _ _ _ _ _ _
  have kk : ∀ b o, h.get? b = some o → ((h.push (W.kdv_tup [])).push (excO C h.objs.size)).get? b = some o := fun b o e => Heap.get?_push_of_some _ (Heap.get?_push_of_some _ e)
  have hC₁ := kk _ _ hC
  have he : ((h.push (W.kdv_tup [])).push (excO C h.objs.size)).get? (h.objs.size + 1) = some (excO C h.objs.size) := by heap_get
  have hcC : (Value.ref C :: bm).contains (.ref C) = true := by simp
  have i1 := hi.keeps kk
  have b1 := (hb (.ref (h.objs.size + 1))).keeps kk
  unfold isInstance
  repeat (first
    | with_reducible refine wpAny_loadPart_at he ?_
    | (with_reducible refine wpAny_isSubtype_exc hC₁ ?_; rw [hcC])
    | wp_step)
  show wpAny _ _ (typeLookup (.ref C) _) _ _ _
  refine i1.at (wpAny_holding (wpAny_bind (b1.at (wpAny_bind (wpAny_call (codeAny_mono hq fun r s' z => ?_))))))
  rcases r with e | (v | _ | _ | _) <;> first | exact z | exact z.elim | skip
  obtain ⟨rfl, z⟩ := z
  first
    | exact wpAny_pure (wpAny_pure z)
    | (wp_walk; exact z)
theorem ccallK (F : ExcBaseFacts B newId initId bmB) (hT : ∀ X : String, bm.contains (.type X) = bmB.contains (.type X)) {fI : Addr}
    (hC : h.get? C = some (excClassObj nm q C N bs bm hdct sn sub ab col dd k0 k1 k2 k3 k5 newId))
    (hi : W.Looks (model prog w) h (typeLookup (.ref C) "__init__") (some (.ref fI))) (hb : ∀ self, W.Looks (model prog w) h (bindSpecial (.ref fI) self) (.ref fI, [self]))
    (hq : codeAny (model prog w) (A.under (.builtin "type.__call__" ⟨[.ref C], kw⟩)) (.call (.ref fI) ⟨[.ref (h.objs.size + 1)], kw⟩) (W.InitBack (h.objs.size + 1) R)
      ⟨(h.push (W.kdv_tup [])).push (excO C h.objs.size), g, d, t, os⟩) :
    codeAny (model prog w) A (.call (.ref C) ⟨[], kw⟩) R ⟨h, g, d, t, os⟩ := by
  have f1 := tc_lookup
  have f2 := tc_bind (.ref C)
  have hTy : (⟨h, g, d, t, os⟩ : Shared).TypeIs (.ref C) "type" := ⟨_, hC, rfl⟩
  refine codeAny_of_tree ?_
  show wpAny _ _ (callAny (.ref C) _) _ _ _
  repeat (any_goals (first
    | assumption
    | with_reducible refine wpAny_loadPart_at hC ?_
    | wp_step))
  refine ⟨rfl, ?_⟩
  show codeAny (model prog w) A (.call (.builtin "type.__call__") ⟨[.ref C], kw⟩) R _
  refine codeAny_call_builtin_at (Code.quiet_builtin _ (by decide +kernel)) entry_typeCall (wpAny_check_type_call_sub hC (tcallK F hT hC hi hb ?_))
  exact codeAny_mono hq fun r s' z => by rcases r with e | (v | _ | _ | _) <;> exact z
end
end RdK
end PySem
set_option maxHeartbeats 1000000
namespace Rd
open PySem PySem.Spec PyProof.Rows L2
/-! ## an own exception is made: by position, by keywords, as a value, to be raised -/
/-- what is asked of the class's own __init__ -/
structure XI (X : Cx) (CX : CXT) (k : Nat) (C : Addr) (fI : Addr) (fd : FuncData) (ps : List Str) (sp : Sp) : Prop where
  iC : PySem.W.findIn X.K (.ref C) "__init__" = some (some (.ref fI))
  tI : PySem.W.typeIn X.K (.ref fI) = some (.type "function")
  F : FnOk X.prog X.w X.K X.mg X.base CX k fI fd ps sp
def MkQ (sp : Sp) (C : Addr) (f : V → List V) (H1 : Hp) (Q : VK) : Prop := ∀ a, H1 a = none → sp (f (.ref a)) (upd H1 a (exo a C none)) (fun v H2 => v = .non ∧ Q (.ref a) H2) E0
section
variable {X : Cx} {CX : CXT} {pins : List (Addr × Obj)} {σ : L2.St} {H1 : Hp} {s1 : Shared} {C fI : Addr} {k : Nat} {fd : FuncData} {ps ks : List Str} {sp : Sp} {Q : VK} {B newId initId : String} {bmB : List Value} {us ws : List Value} {vs zs : List V} {g : List Value → List Value → List Value} {gV : List V → List V → List V}
theorem mk_pos (T : XC X.K C B newId initId bmB) (N : XI X CX k C fI fd ps sp) (hr : Room (k + 1) X.A) (hb : Binds X.K fd ps []) (hx : Passes CX X E0) (I1 : Inv X pins σ H1 s1) (r1 : Vals vs us) (hz : vs.length ≤ 1000) (q1 : MkQ sp C (fun a => a :: vs) H1 Q) :
    wpAny (model X.prog X.w) X.A (call (.ref C) us) (EP X pins σ Q) X.xe s1 := by
  obtain ⟨nm, N', qn, bs, bm, hdct, sn, sub, ab, col, dd, k0, k1, k2, k3, k5, hC, hT⟩ := PySem.W.excInit_of I1.kIn T.ini
  obtain ⟨hp, g, dr, tk, os⟩ := s1
  have hsz : hp.objs.size ≤ hp.objs.size + 1 := Nat.le_succ _
  have hn : H1 (hp.objs.size + 1) = none := I1.hok.fresh hsz
  have hq := q1 (hp.objs.size + 1) hn
  have kk : ∀ b o, hp.get? b = some o → ((hp.push (PySem.W.kdv_tup us)).push (PySem.HandSPX.excO C hp.objs.size)).get? b = some o := fun b o e => Heap.get?_push_of_some _ (Heap.get?_push_of_some _ e)
  have hget : ((hp.push (PySem.W.kdv_tup us)).push (PySem.HandSPX.excO C hp.objs.size)).get? (hp.objs.size + 1) = some (PySem.HandSPX.excO C hp.objs.size) := by heap_get
  have I2 : Inv X pins σ (upd H1 (hp.objs.size + 1) (exo (hp.objs.size + 1) C none)) ⟨(hp.push (PySem.W.kdv_tup us)).push (PySem.HandSPX.excO C hp.objs.size), g, dr, tk, os⟩ :=
    I1.laid (t' := tk) (a := hp.objs.size + 1) (o := exo (hp.objs.size + 1) C none) (h' := (hp.push (PySem.W.kdv_tup us)).push (PySem.HandSPX.excO C hp.objs.size)) kk hsz (exo_ok hget)
  have r2 : Vals (V.ref (hp.objs.size + 1) :: vs) ((Value.ref (hp.objs.size + 1) :: us) ++ []) := by rw [List.append_nil]; exact .cons rfl r1
  have hl : (Value.ref (hp.objs.size + 1) :: us ++ []).length = ps.length := by
    have e := r2.length
    rw [N.F.len _ _ _ _ hq] at e
    exact e.symm
  have hus : us.length ≤ sizeLine := by
    rw [← Paired.length r1, sizeLine_eq]
    omega
  refine wpAny_call (PySem.HandSPX.call_own T.F hT hC (PySem.W.looks_findIn I1.kIn N.iC) (fun self => PySem.W.bind_fn I1.kIn self N.tI) hus
    (codeAny_mono (N.F.run _ X.stack _ _ ⟨Value.ref (hp.objs.size + 1) :: us, []⟩ ((Value.ref (hp.objs.size + 1) :: us) ++ []) _ _ E0 (hr.make C us []) (I2.env0.make C us []) (hb _ (Value.ref (hp.objs.size + 1) :: us) I2.kIn hl) r2 hq) fun r s' hq' => ?_))
  cases r with
  | error er => exact hx pins σ _ _ er s' I2 hq'
  | ok fl =>
    cases fl with
    | ret u =>
      obtain ⟨v, H2, J, rv, ev, q⟩ := I2.after hq'
      subst ev
      exact ⟨rv, .ref _, H2, J, rfl, q⟩
    | next => exact False.elim hq'
    | brk => exact False.elim hq'
    | cont => exact False.elim hq'
theorem mk_kw (T : XC X.K C B newId initId bmB) (N : XI X CX k C fI fd ps sp) (hr : Room (k + 1) X.A) (hb : KBn X.K fd ps 1 ks g gV) (hx : Passes CX X E0) (I1 : Inv X pins σ H1 s1) (r1 : Vals zs ws) (hz : zs.length = ks.length) (q1 : MkQ sp C (fun a => gV [a] zs) H1 Q) :
    wpAny (model X.prog X.w) X.A (call (.ref C) [] (ks.zip ws)) (EP X pins σ Q) X.xe s1 := by
  obtain ⟨nm, N', qn, bs, bm, hdct, sn, sub, ab, col, dd, k0, k1, k2, k3, k5, hC, hT⟩ := PySem.W.excInit_of I1.kIn T.ini
  obtain ⟨hp, g', dr, tk, os⟩ := s1
  have hsz : hp.objs.size ≤ hp.objs.size + 1 := Nat.le_succ _
  have hn : H1 (hp.objs.size + 1) = none := I1.hok.fresh hsz
  have hq := q1 (hp.objs.size + 1) hn
  have kk : ∀ b o, hp.get? b = some o → ((hp.push (PySem.W.kdv_tup [])).push (PySem.HandSPX.excO C hp.objs.size)).get? b = some o := fun b o e => Heap.get?_push_of_some _ (Heap.get?_push_of_some _ e)
  have hget : ((hp.push (PySem.W.kdv_tup [])).push (PySem.HandSPX.excO C hp.objs.size)).get? (hp.objs.size + 1) = some (PySem.HandSPX.excO C hp.objs.size) := by heap_get
  have I2 : Inv X pins σ (upd H1 (hp.objs.size + 1) (exo (hp.objs.size + 1) C none)) ⟨(hp.push (PySem.W.kdv_tup [])).push (PySem.HandSPX.excO C hp.objs.size), g', dr, tk, os⟩ :=
    I1.laid (t' := tk) (a := hp.objs.size + 1) (o := exo (hp.objs.size + 1) C none) (h' := (hp.push (PySem.W.kdv_tup [])).push (PySem.HandSPX.excO C hp.objs.size)) kk hsz (exo_ok hget)
  have r2 := hb.rel (vs := [V.ref (hp.objs.size + 1)]) (us := [Value.ref (hp.objs.size + 1)]) (.cons rfl .nil) r1
  refine wpAny_call (PySem.RdK.ccallK T.F hT hC (PySem.W.looks_findIn I1.kIn N.iC) (fun self => PySem.W.bind_fn I1.kIn self N.tI)
    (codeAny_mono (N.F.run _ X.stack _ _ ⟨[Value.ref (hp.objs.size + 1)], ks.zip ws⟩ (g [Value.ref (hp.objs.size + 1)] ws) _ _ E0 (hr.make C [] (ks.zip ws)) (I2.env0.make C [] (ks.zip ws)) (hb.to _ [Value.ref (hp.objs.size + 1)] ws I2.kIn rfl (r1.length.symm.trans hz)) r2 hq) fun r s' hq' => ?_))
  cases r with
  | error er => exact hx pins σ _ _ er s' I2 hq'
  | ok fl =>
    cases fl with
    | ret u =>
      obtain ⟨v, H2, J, rv, ev, q⟩ := I2.after hq'
      subst ev
      exact ⟨rv, .ref _, H2, J, rfl, q⟩
    | next => exact False.elim hq'
    | brk => exact False.elim hq'
    | cont => exact False.elim hq'
/-- C(e, ..) to be raised: as a value, then its object is let go -/
theorem mk_raise (T : XC X.K C B newId initId bmB) (hR : Raises X (.ref C)) (N : XI X CX k C fI fd ps sp) (hr : Room (k + 1) X.A) (hb : Binds X.K fd ps []) (hx : Passes CX X E0) (I1 : Inv X pins σ H1 s1) (r1 : Vals vs us) (hz : vs.length ≤ 1000) {Q : XK}
    (q1 : MkQ sp C (fun a => a :: vs) H1 (fun v H2 => ∃ (a d : Addr) (fs : List (Str × V)), v = .ref a ∧ H2 a = some (exo a C (some d)) ∧ H2 d = some (exd d fs) ∧ H1 d = none ∧ Q (.ref C) (some d) (upd (del H2 a) d (.xd fs)))) :
    wpAny (model X.prog X.w) X.A (call (.ref C) us) (MkP X pins σ Q) X.xe s1 := by
  obtain ⟨nm, N', qn, bs, bm, hdct, sn, sub, ab, col, dd, k0, k1, k2, k3, k5, hC, hT⟩ := PySem.W.excInit_of I1.kIn T.ini
  obtain ⟨hp, g, dr, tk, os⟩ := s1
  have hsz : hp.objs.size ≤ hp.objs.size + 1 := Nat.le_succ _
  have hn : H1 (hp.objs.size + 1) = none := I1.hok.fresh hsz
  have hq := q1 (hp.objs.size + 1) hn
  have kk : ∀ b o, hp.get? b = some o → ((hp.push (PySem.W.kdv_tup us)).push (PySem.HandSPX.excO C hp.objs.size)).get? b = some o := fun b o e => Heap.get?_push_of_some _ (Heap.get?_push_of_some _ e)
  have hget : ((hp.push (PySem.W.kdv_tup us)).push (PySem.HandSPX.excO C hp.objs.size)).get? (hp.objs.size + 1) = some (PySem.HandSPX.excO C hp.objs.size) := by heap_get
  have I2 : Inv X pins σ (upd H1 (hp.objs.size + 1) (exo (hp.objs.size + 1) C none)) ⟨(hp.push (PySem.W.kdv_tup us)).push (PySem.HandSPX.excO C hp.objs.size), g, dr, tk, os⟩ :=
    I1.laid (t' := tk) (a := hp.objs.size + 1) (o := exo (hp.objs.size + 1) C none) (h' := (hp.push (PySem.W.kdv_tup us)).push (PySem.HandSPX.excO C hp.objs.size)) kk hsz (exo_ok hget)
  have r2 : Vals (V.ref (hp.objs.size + 1) :: vs) ((Value.ref (hp.objs.size + 1) :: us) ++ []) := by rw [List.append_nil]; exact .cons rfl r1
  have hl : (Value.ref (hp.objs.size + 1) :: us ++ []).length = ps.length := by
    have e := r2.length
    rw [N.F.len _ _ _ _ hq] at e
    exact e.symm
  have hus : us.length ≤ sizeLine := by
    rw [← Paired.length r1, sizeLine_eq]
    omega
  refine wpAny_call (PySem.HandSPX.call_own T.F hT hC (PySem.W.looks_findIn I1.kIn N.iC) (fun self => PySem.W.bind_fn I1.kIn self N.tI) hus
    (codeAny_mono (N.F.run _ X.stack _ _ ⟨Value.ref (hp.objs.size + 1) :: us, []⟩ ((Value.ref (hp.objs.size + 1) :: us) ++ []) _ _ E0 (hr.make C us []) (I2.env0.make C us []) (hb _ (Value.ref (hp.objs.size + 1) :: us) I2.kIn hl) r2 hq) fun r s' hq' => ?_))
  cases r with
  | error er => exact hx pins σ _ _ er s' I2 hq'
  | ok fl =>
    cases fl with
    | ret u =>
      obtain ⟨v, H2, os2, bare2, un2, hok2, rv, ev, a, d, fs, ea0, ea, ed, hd1, q2⟩ := hq'
      subst ev
      cases ea0
      obtain ⟨h2, g2, d2, t2, os'⟩ := s'
      exact ⟨rv, mk_end hR I1 hsz kk un2 hok2 os2 bare2 ea ed hd1 q2⟩
    | next => exact False.elim hq'
    | brk => exact False.elim hq'
    | cont => exact False.elim hq'
end
/-! ### readings -/
def tMkV (C : Addr) (sp : Sp) (ta : TA) : TE := fun σ H Q => ta σ H fun vs H1 => vs.length ≤ 1000 ∧ MkQ sp C (fun a => a :: vs) H1 Q
def tMkK (C : Addr) (m : Nat) (sp : Sp) (gV : List V → List V → List V) (tk : TA) : TE := fun σ H Q => tk σ H fun zs H1 => zs.length = m ∧ MkQ sp C (fun a => gV [a] zs) H1 Q
def tMkR (C : Addr) (sp : Sp) (ta : TA) : L2.St → Hp → XK → Prop := fun σ H Q => ta σ H fun vs H1 => vs.length ≤ 1000 ∧
  MkQ sp C (fun a => a :: vs) H1 (fun v H2 => ∃ (a d : Addr) (fs : List (Str × V)), v = .ref a ∧ H2 a = some (exo a C (some d)) ∧ H2 d = some (exd d fs) ∧ H1 d = none ∧ Q (.ref C) (some d) (upd (del H2 a) d (.xd fs)))
section
variable {X : Cx} {CX : CXT} {x : Str} {e : Expr} {es : List Expr} {kws : List Keyword} {ta tk : TA} {p pos : Pos} {C fI : Addr} {k : Nat} {fd : FuncData} {ps ks : List Str} {sp : Sp} {B newId initId : String} {bmB : List Value} {g : List Value → List Value → List Value} {gV : List V → List V → List V}
theorem pe_mkV (T : XC X.K C B newId initId bmB) (N : XI X CX k C fI fd ps sp) (hr : Room (k + 1) X.A) (hb : Binds X.K fd ps []) (hx : Passes CX X E0) (hg : Gl X x) (hm : X.mg x = some (.ref C)) (ha : PA X (e :: es) ta)
    (hdb : (x == ("__debug__" : Str)) = false := by decide) (he : starEach (e :: es) X.env = (false, eval e X.env) :: starEach es X.env := by rfl) (hpl : (backTo pos (starEach es X.env)).any (·.1) = false := by rfl) :
    PE X (.Call (.Name x p) (e :: es) [] pos) (tMkV C sp ta) := by
  refine ⟨fun pins s σ H Q I h => ?_⟩
  refine wpAny_Call_Name_kw (ld_glob I hg hm ?_ hdb)
  exact PySem.W.callWith_K (h₀ := X.base) I.ok.mod.kin T.kC (thn (ha.run pos pins s σ H _ I h) fun us s1 ⟨vs, H1, I1, r1, hz, q1⟩ => ⟨I1.kIn, mk_pos T N hr hb hx I1 r1 hz q1⟩) he hpl
theorem pe_mkV0 (T : XC X.K C B newId initId bmB) (N : XI X CX k C fI fd ps sp) (hr : Room (k + 1) X.A) (hb : Binds X.K fd ps []) (hx : Passes CX X E0) (hg : Gl X x) (hm : X.mg x = some (.ref C))
    (hdb : (x == ("__debug__" : Str)) = false := by decide) : PE X (.Call (.Name x p) [] [] pos) (tMkV C sp tNil) := by
  refine ⟨fun pins s σ H Q I h => ?_⟩
  refine wpAny_Call_Name_kw (ld_glob I hg hm ?_ hdb)
  obtain ⟨hz, q1⟩ := h
  exact PySem.W.callWith_K0 I.kIn T.kC (mk_pos (us := []) (vs := []) T N hr hb hx I .nil hz q1)
theorem pe_mkK (T : XC X.K C B newId initId bmB) (N : XI X CX k C fI fd ps sp) (hr : Room (k + 1) X.A) (hb : KBn X.K fd ps 1 ks g gV) (hx : Passes CX X E0) (hg : Gl X x) (hm : X.mg x = some (.ref C)) (hkw : PK X kws tk)
    (hall : (backToKw pos (keywordEach kws X.env)).all (·.1.isSome) = true := by rfl) (hks : (backToKw pos (keywordEach kws X.env)).filterMap (·.1) = ks := by rfl) (hdb : (x == ("__debug__" : Str)) = false := by decide)
    (hpl : ((backTo pos (starEach [] X.env)).any (·.1) || (backToKw pos (keywordEach kws X.env)).any (·.1.isNone)) = false := by rfl) :
    PE X (.Call (.Name x p) [] kws pos) (tMkK C ks.length sp gV tk) where
  run := fun pins s σ H Q I h => wpAny_Call_Name_kw (ld_glob I hg hm (PySem.W.callWith_KW0 (h₀ := X.base) I.ok.mod.kin T.kC hall
    (thn (hkw.run pos pins s σ H _ I h) fun ws s2 ⟨zs, H2, I2, rz, l2, q2⟩ => ⟨I2.kIn, by rw [hks]; exact mk_kw T N hr hb hx I2 rz l2 q2⟩) hpl) hdb)
theorem pmk_V (T : XC X.K C B newId initId bmB) (hR : Raises X (.ref C)) (N : XI X CX k C fI fd ps sp) (hr : Room (k + 1) X.A) (hb : Binds X.K fd ps []) (hx : Passes CX X E0) (hg : Gl X x) (hm : X.mg x = some (.ref C)) (ha : PA X (e :: es) ta)
    (hdb : (x == ("__debug__" : Str)) = false := by decide) (he : starEach (e :: es) X.env = (false, eval e X.env) :: starEach es X.env := by rfl) (hpl : (backTo pos (starEach es X.env)).any (·.1) = false := by rfl) :
    PMk X (.Call (.Name x p) (e :: es) [] pos) (tMkR C sp ta) := by
  intro pins s σ H Q I h
  refine wpAny_Call_Name_kw (ld_glob I hg hm ?_ hdb)
  exact PySem.W.callWith_K (h₀ := X.base) I.ok.mod.kin T.kC (thn (ha.run pos pins s σ H _ I h) fun us s1 ⟨vs, H1, I1, r1, hz, q1⟩ => ⟨I1.kIn, mk_raise T hR N hr hb hx I1 r1 hz q1⟩) he hpl
theorem pmk_V0 (T : XC X.K C B newId initId bmB) (hR : Raises X (.ref C)) (N : XI X CX k C fI fd ps sp) (hr : Room (k + 1) X.A) (hb : Binds X.K fd ps []) (hx : Passes CX X E0) (hg : Gl X x) (hm : X.mg x = some (.ref C))
    (hdb : (x == ("__debug__" : Str)) = false := by decide) : PMk X (.Call (.Name x p) [] [] pos) (tMkR C sp tNil) := by
  intro pins s σ H Q I h
  refine wpAny_Call_Name_kw (ld_glob I hg hm ?_ hdb)
  obtain ⟨hz, q1⟩ := h
  exact PySem.W.callWith_K0 I.kIn T.kC (mk_raise (us := []) (vs := []) T hR N hr hb hx I .nil hz q1)
end
end Rd
set_option maxHeartbeats 2000000
namespace Rd
open PySem PySem.Spec PyProof.Rows L2
/-! ## own classes that share their defs: methods, ==, !=, repr -/
section
variable {X : Cx} {CX : CXT} {k : Nat} {f : Addr} {fd : FuncData} {ps ks : List Str} {sp : Sp} {S : Addr → Prop} {m : Str}
theorem call_at {A' : Around} {pins : List (Addr × Obj)} {σ : L2.St} {H : Hp} {s : Shared} {Q : VK} {us : List Value} {vs : List V} (F : FnOk X.prog X.w X.K X.mg X.base CX k f fd ps sp) (hr : Room k A') (hfr : A'.frames = X.A.frames) (hb : Binds X.K fd ps []) (hx : Passes CX X E0)
    (I : Inv X pins σ H s) (r : Vals vs us) (h : sp vs H Q E0) : wpAny (model X.prog X.w) A' (call (.ref f) us) (EP X pins σ Q) X.xe s := by
  have e := I.env0
  have e0 : Env0 X.prog X.w X.K X.mg X.base A' X.stack s H := ⟨by rw [hfr]; exact e.frames, e.mod, e.bs, e.bsz, e.funs, e.frf, e.hok, e.bare⟩
  have hl : us.length = ps.length := by rw [← r.length]; exact F.len _ _ _ _ h
  have b := hb s us I.kIn (by rw [List.append_nil]; exact hl)
  rw [List.append_nil] at b
  refine wpAny_call (codeAny_mono (F.run A' X.stack s H ⟨us, []⟩ us vs Q E0 hr e0 b r h) fun r s' hq => ?_)
  cases r with
  | error e => exact hx pins σ H s e s' I hq
  | ok fl =>
    cases fl with
    | ret u => exact I.after hq
    | next => exact False.elim hq
    | brk => exact False.elim hq
    | cont => exact False.elim hq
/-- the classes of S: plain ones, all over object -/
structure Fam (K : PySem.W.Frag) (S : Addr → Prop) : Prop where
  cls : ∀ C, S C → Cls K C
  obj : ∀ C, S C → PySem.W.mroIn K C (.type "object") = some true
/-- a def that all of S have under a name -/
def MethF (K : PySem.W.Frag) (S : Addr → Prop) (m : Str) (f : Addr) : Prop := ∀ C, S C → Meth K C m f
def tMethF (S : Addr → Prop) (m : Str) (sp : Sp) (ta : TE) (t : TA) : TE := fun σ H Q => ta σ H fun x H1 => ∃ a C dx fs, x = .ref a ∧ S C ∧ H1 a = some (.ins C dx fs) ∧ fs.lookup m = none ∧ t σ H1 fun vs H2 => sp (x :: vs) H2 Q E0
def tMethFK (S : Addr → Prop) (m : Str) (n : Nat) (sp : Sp) (gV : List V → List V → List V) (ta : TE) (tk : TA) : TE := fun σ H Q => ta σ H fun x H1 => ∃ a C dx fs, x = .ref a ∧ S C ∧ H1 a = some (.ins C dx fs) ∧ fs.lookup m = none ∧ tk σ H1 fun zs H2 => zs.length = n ∧ sp (gV [x] zs) H2 Q E0
variable {o e : Expr} {es : List Expr} {kws : List Keyword} {ta : TE} {t tk : TA} {apos pos : Pos} {g : List Value → List Value → List Value} {gV : List V → List V → List V}
theorem pe_methF {pl : Sem Bool} (he : PE X o ta) (W : Fam X.K S) (hm : MethF X.K S m f) (F : FnOk X.prog X.w X.K X.mg X.base CX k f fd ps sp) (hr : Room k X.A) (hb : Binds X.K fd ps []) (hx : Passes CX X E0) (ha : PA X (e :: es) t)
    (hst : starEach (e :: es) X.env = (false, eval e X.env) :: starEach es X.env := by rfl) (hpl : (backTo pos (starEach es X.env)).any (·.1) = false := by rfl)
    (ht : eval (.Call (.Attribute o m apos) (e :: es) [] pos) X.env = (do
      let ov ← eval o X.env
      standAt apos.atName
      let (f, first) ← holding [ov] (getMethod ov m pl)
      callWith pos f first (backTo pos (starEach (e :: es) X.env)) (backToKw pos (keywordEach [] X.env))) := by rfl) :
    PE X (.Call (.Attribute o m apos) (e :: es) [] pos) (tMethF S m sp ta t) := by
  refine ⟨fun pins s σ H Q I h => ?_⟩
  refine PySem.W.methodCall_KW (pl := pl) (thn (he.run pins s σ H _ I h) fun u s1 ⟨x, H1, I1, rx, a, C, dx, fs, ex, hC, ea, l, q⟩ => ?_) ht
  subst ex
  obtain rfl : u = Value.ref a := rx
  refine getmeth_ok I1 ea (W.cls C hC) (hm C hC) l ?_
  refine PySem.W.callWith_K (first := [.ref a]) (h₀ := X.base) I.ok.mod.kin (hm C hC).kp (thn (ha.run pos pins s1 σ H1 _ I1 q) fun us s2 ⟨vs, H2, I2, r, q2⟩ => ⟨I2.kIn, ?_⟩) hst hpl
  exact call_at (us := .ref a :: us) (vs := .ref a :: vs) F hr rfl hb hx I2 (.cons rfl r) q2
theorem pe_methF0 {pl : Sem Bool} (he : PE X o ta) (W : Fam X.K S) (hm : MethF X.K S m f) (F : FnOk X.prog X.w X.K X.mg X.base CX k f fd ps sp) (hr : Room k X.A) (hb : Binds X.K fd ps []) (hx : Passes CX X E0)
    (ht : eval (.Call (.Attribute o m apos) [] [] pos) X.env = (do
      let ov ← eval o X.env
      standAt apos.atName
      let (f, first) ← holding [ov] (getMethod ov m pl)
      callWith pos f first (backTo pos (starEach [] X.env)) (backToKw pos (keywordEach [] X.env))) := by rfl) :
    PE X (.Call (.Attribute o m apos) [] [] pos) (tMethF S m sp ta tNil) := by
  refine ⟨fun pins s σ H Q I h => ?_⟩
  refine PySem.W.methodCall_KW (pl := pl) (thn (he.run pins s σ H _ I h) fun u s1 ⟨x, H1, I1, rx, a, C, dx, fs, ex, hC, ea, l, q⟩ => ?_) ht
  subst ex
  obtain rfl : u = Value.ref a := rx
  refine getmeth_ok I1 ea (W.cls C hC) (hm C hC) l ?_
  exact PySem.W.callWith_K0 (first := [.ref a]) I1.kIn (hm C hC).kp (call_at (us := [.ref a]) (vs := [.ref a]) F hr rfl hb hx I1 (.cons rfl .nil) q)
/-- o.m(k = v, ..) -/
theorem pe_methFK {pl : Sem Bool} (he : PE X o ta) (W : Fam X.K S) (hm : MethF X.K S m f) (F : FnOk X.prog X.w X.K X.mg X.base CX k f fd ps sp) (hr : Room k X.A) (hb : KBn X.K fd ps 1 ks g gV) (hx : Passes CX X E0) (hkw : PK X kws tk)
    (hall : (backToKw pos (keywordEach kws X.env)).all (·.1.isSome) = true := by rfl) (hks : (backToKw pos (keywordEach kws X.env)).filterMap (·.1) = ks := by rfl)
    (hpl : ((backTo pos (starEach [] X.env)).any (·.1) || (backToKw pos (keywordEach kws X.env)).any (·.1.isNone)) = false := by rfl)
    (ht : eval (.Call (.Attribute o m apos) [] kws pos) X.env = (do
      let ov ← eval o X.env
      standAt apos.atName
      let (f, first) ← holding [ov] (getMethod ov m pl)
      callWith pos f first (backTo pos (starEach [] X.env)) (backToKw pos (keywordEach kws X.env))) := by rfl) :
    PE X (.Call (.Attribute o m apos) [] kws pos) (tMethFK S m ks.length sp gV ta tk) := by
  refine ⟨fun pins s σ H Q I h => ?_⟩
  refine PySem.W.methodCall_KW (pl := pl) (thn (he.run pins s σ H _ I h) fun u s1 ⟨x, H1, I1, rx, a, C, dx, fs, ex, hC, ea, l, q⟩ => ?_) ht
  subst ex
  obtain rfl : u = Value.ref a := rx
  refine getmeth_ok I1 ea (W.cls C hC) (hm C hC) l ?_
  refine PySem.W.callWith_KW0 (first := [.ref a]) (h₀ := X.base) I.ok.mod.kin (hm C hC).kp hall (thn (hkw.run pos pins s1 σ H1 _ I1 q) fun ws s2 ⟨zs, H2, I2, rz, l2, q2⟩ => ⟨I2.kIn, ?_⟩) hpl
  rw [hks]
  have r2 := hb.rel (vs := [V.ref a]) (us := [Value.ref a]) (.cons rfl .nil) rz
  have hl : (g [Value.ref a] ws).length = ps.length := by rw [← r2.length]; exact F.len _ _ _ _ q2
  refine wpAny_call (codeAny_mono (F.run X.A X.stack s2 H2 ⟨[Value.ref a], ks.zip ws⟩ (g [Value.ref a] ws) (gV [V.ref a] zs) Q E0 hr I2.env0 (hb.to _ [Value.ref a] ws I2.kIn rfl (rz.length.symm.trans l2)) r2 q2) fun r s' hq => ?_)
  cases r with
  | error e => exact hx pins σ H2 s2 e s' I2 hq
  | ok fl =>
    cases fl with
    | ret u => exact I2.after hq
    | next => exact False.elim hq
    | brk => exact False.elim hq
    | cont => exact False.elim hq
/-! ### == and != -/
theorem look_ty {pins : List (Addr × Obj)} {σ : L2.St} {H : Hp} {s : Shared} {x : V} {u t : Value} (I : Inv X pins σ H s) (rx : RelV x u) (ty : TyX X.K H x t) : PySem.W.Looks (model X.prog X.w) s.heap (typeOf u) t := by
  obtain ⟨P, Z, p, _⟩ := kit_of I rx ty
  exact Z.ty _ _ I.kIn p
/-- S's classes as they are compared: the same own ==, != by object's -/
structure EqF (K : PySem.W.Frag) (S : Addr → Prop) (f : Addr) : Prop where
  eq : ∀ C, S C → PySem.W.findIn K (.ref C) "__eq__" = some (some (.ref f))
  ne : ∀ C, S C → PySem.W.findIn K (.ref C) "__ne__" = some (some (.builtin "object.__ne__"))
  fn : PySem.W.isFn K (.ref f) = true
/-- x == y, x of S: x is asked, or y, if its class lies below -/
def rEqF (K : PySem.W.Frag) (S : Addr → Prop) (sp : Sp) : R2 := fun x y H Q => ∃ a C dx fs, x = .ref a ∧ S C ∧ H a = some (.ins C dx fs) ∧
  ((∃ t, TyX K H y t ∧ PySem.W.notFirst K C t = true ∧ sp [x, y] H (fun v H' => ∃ b, v = .bl b ∧ Q v H') E0) ∨
    ∃ b D dy gs, y = .ref b ∧ S D ∧ H b = some (.ins D dy gs) ∧ D ≠ C ∧ PySem.W.subIn K (.ref D) (.ref C) = some true ∧ sp [y, x] H (fun v H' => ∃ b, v = .bl b ∧ Q v H') E0)
theorem inst_of {pins : List (Addr × Obj)} {σ : L2.St} {H : Hp} {s : Shared} {a C dx : Addr} {fs : List (Str × V)} (I : Inv X pins σ H s) (e : H a = some (.ins C dx fs)) : ∃ ox od, PySem.W.InstAt s.heap a ox C od := by
  obtain ⟨mA, J, _⟩ := ins_get I.hok e
  obtain ⟨od, J, _⟩ := J.look
  exact ⟨_, _, J⟩
theorem cmp_back {pins : List (Addr × Obj)} {σ : L2.St} {Q : VK} {v : Value} {s : Shared} (h : EP X pins σ (fun v H' => ∃ b, v = .bl b ∧ Q v H') v s) : PySem.W.CmpBack (EP X pins σ Q) v s := by
  obtain ⟨x, H', I', r, b, e, q⟩ := h
  subst e
  obtain rfl : v = Value.bool b := r
  exact ⟨.bl b, H', I', rfl, q⟩
theorem op_eqF (G : EqF X.K S f) (F : FnOk X.prog X.w X.K X.mg X.base CX k f fd ps sp) (hr : Room k X.A) (hb : Binds X.K fd ps []) (hx : Passes CX X E0) : OpR X (compareOp .Eq) (rEqF X.K S sp) := by
  intro pins s σ H x y v u Q I rx ry hq
  show wpAny (model X.prog X.w) X.A (richCompare .Eq v u) (EP X pins σ Q) X.xe s
  obtain ⟨a, C, dx, fs, ex, hC, ea, hq⟩ := hq
  subst ex
  obtain rfl : v = Value.ref a := rx
  obtain ⟨ox, od, J⟩ := inst_of I ea
  rcases hq with ⟨t, ty, nf, h⟩ | ⟨b, D, dy, gs, ey, hD, eb, ne, sub, h⟩
  · obtain ⟨m, hF⟩ := I.fr
    exact PySem.W.cmp_K (op := .Eq) hr.units0 hF I.ok.mod.kin J (look_ty I ry ty) nf (G.eq C hC) G.fn (wpAny_mono (call_at (us := [.ref a, u]) (vs := [.ref a, y]) F hr rfl hb hx I (.cons rfl (.cons ry .nil)) h) (fun _ _ z => cmp_back z) fun _ _ z => z)
  · subst ey
    obtain rfl : u = Value.ref b := ry
    obtain ⟨oy, od', J'⟩ := inst_of I eb
    exact PySem.W.cmp_below hr.units0 I.kIn J J' ne sub (G.eq D hD) G.fn (wpAny_mono (call_at (us := [.ref b, .ref a]) (vs := [.ref b, .ref a]) F hr rfl hb hx I (.cons rfl (.cons rfl .nil)) h) (fun _ _ z => cmp_back z) fun _ _ z => z)
/-- x != y, x of S and first -/
def rNeF (K : PySem.W.Frag) (S : Addr → Prop) (sp : Sp) : R2 := fun x y H Q => ∃ a C dx fs t, x = .ref a ∧ S C ∧ H a = some (.ins C dx fs) ∧ TyX K H y t ∧ PySem.W.notFirst K C t = true ∧ sp [x, y] H (fun v H' => ∃ b, v = .bl b ∧ Q (.bl (!b)) H') E0
theorem op_neF (W : Fam X.K S) (G : EqF X.K S f) (F : FnOk X.prog X.w X.K X.mg X.base CX k f fd ps sp) (hr : Room (k + 1) X.A) (hb : Binds X.K fd ps []) (hx : Passes CX X E0) : OpR X (compareOp .NotEq) (rNeF X.K S sp) := by
  intro pins s σ H x y v u Q I rx ry hq
  show wpAny (model X.prog X.w) X.A (richCompare .NotEq v u) (EP X pins σ Q) X.xe s
  obtain ⟨a, C, dx, fs, t, ex, hC, ea, ty, nf, h⟩ := hq
  subst ex
  obtain rfl : v = Value.ref a := rx
  obtain ⟨ox, od, J⟩ := inst_of I ea
  refine PySem.W.cmp_ne hr.units0 hr.in1.units0 I.kIn J (W.obj C hC) (look_ty I ry ty) nf (G.ne C hC) (G.eq C hC) G.fn (wpAny_mono (call_at (us := [.ref a, u]) (vs := [.ref a, y]) F hr.in1 rfl hb hx I (.cons rfl (.cons ry .nil)) h) (fun r s' z => ?_) fun _ _ z => z)
  obtain ⟨x, H', I', rr, b, e, q⟩ := z
  subst e
  obtain rfl : r = Value.bool b := rr
  exact ⟨b, rfl, .bl (!b), H', I', rfl, q⟩
/-- repr(x), x of S -/
def rRepF (S : Addr → Prop) (sp : Sp) : List V → Hp → VK → Prop := fun xs H Q => ∃ a C dx fs, xs = [.ref a] ∧ S C ∧ H a = some (.ins C dx fs) ∧ sp [.ref a] H (fun v H' => ∃ z, v = .str z ∧ Q v H') E0
theorem call_repF (hs : ∀ C, S C → PySem.W.findIn X.K (.ref C) "__repr__" = some (some (.ref f))) (hf : PySem.W.isFn X.K (.ref f) = true) (F : FnOk X.prog X.w X.K X.mg X.base CX k f fd ps sp) (hr : Room (k + 1) X.A) (hb : Binds X.K fd ps []) (hx : Passes CX X E0) :
    CallR X (.builtin "repr") (rRepF S sp) := by
  intro pins s σ H xs us Q I r h
  obtain ⟨a, C, dx, fs, rfl, hC, ea, h⟩ := h
  cases r with
  | cons r1 r2 =>
    cases r2
    obtain rfl : _ = Value.ref a := r1
    obtain ⟨ox, od, J⟩ := inst_of I ea
    obtain ⟨m, hF⟩ := I.fr
    refine PySem.W.repr_K hr.in1.units0 hF I.ok.mod.kin J (hs C hC) hf (wpAny_mono (call_at (us := [.ref a]) (vs := [.ref a]) F hr.in1 rfl hb hx I (.cons rfl .nil) h) (fun r s' z => ?_) fun _ _ z => z)
    obtain ⟨x, H', I', rr, y, e, q⟩ := z
    subst e
    obtain ⟨t, rfl⟩ := rr
    exact ⟨.str y, H', I', ⟨t, rfl⟩, q⟩
end
end Rd
set_option maxHeartbeats 2000000
namespace Rd
open PySem PySem.Spec PyProof.Rows L2
open PySem.Sem (wp)
/-! ## own len, own truth, own items -/
section
variable {prog : Program} {w : World} {A : Around} {E : Value → Shared → Prop} {s : Shared} {x : Addr}
theorem bool_new_own (prog : Program) (w : World) (x : Addr) :
    MeetsIn prog w (Builtin.«bool.__new__» ⟨[.type "bool", .ref x], []⟩) (fun A R s => wpAny (model prog w) A.in1 (truthy (.ref x)) (fun b s' => R (.ok (.ret (.bool b))) s') (fun e s' => R (.error e) s') s) :=
  .of_wp fun A R s h => by
    have f1 := F.conv_sub_bool
    obtain ⟨hp, g, d, tk, os⟩ := s
    repeat (any_goals (first | assumption | (with_reducible refine wpAny_bind (wpAny_mono h (fun b s' z => ?_) fun _ _ z => z)) | wp_step))
    all_goals first | exact ⟨_, rfl, z⟩ | exact z | skip
theorem call_bool_own {Q : Value → Shared → Prop} (h : wpAny (model prog w) A.in1.in1 (truthy (.ref x)) (fun b s' => Q (.bool b) s') E s) : wpAny (model prog w) A (call (.type "bool") [.ref x]) Q E s :=
  callType_newIn F.called_bool F.newNe_bool (F.typeCall_bool_1 (.ref x)) (F.newCall_bool_1 (.ref x)) (fun obj => F.args_object_init_2 obj (.ref x)) F.entry_bool_new (bool_new_own prog w x)
    (wpAny_mono h (fun b s1 z => (⟨rfl, z⟩ : s1.TypeIs (.bool b) "bool" ∧ Q (.bool b) s1)) fun _ _ z => z)
end
section
variable {X : Cx} {CX : CXT} {k : Nat} {f : Addr} {fd : FuncData} {ps : List Str} {sp : Sp} {S : Addr → Prop} {E : XK}
theorem call_atE {A' : Around} {pins : List (Addr × Obj)} {σ : L2.St} {H : Hp} {s : Shared} {Q : VK} {us : List Value} {vs : List V} (F : FnOk X.prog X.w X.K X.mg X.base CX k f fd ps sp) (hr : Room k A') (hfr : A'.frames = X.A.frames) (hb : Binds X.K fd ps []) (hx : Passes CX X E)
    (I : Inv X pins σ H s) (r : Vals vs us) (h : sp vs H Q E) : wpAny (model X.prog X.w) A' (call (.ref f) us) (EP X pins σ Q) X.xe s := by
  have e := I.env0
  have e0 : Env0 X.prog X.w X.K X.mg X.base A' X.stack s H := ⟨by rw [hfr]; exact e.frames, e.mod, e.bs, e.bsz, e.funs, e.frf, e.hok, e.bare⟩
  have hl : us.length = ps.length := by rw [← r.length]; exact F.len _ _ _ _ h
  have b := hb s us I.kIn (by rw [List.append_nil]; exact hl)
  rw [List.append_nil] at b
  refine wpAny_call (codeAny_mono (F.run A' X.stack s H ⟨us, []⟩ us vs Q E hr e0 b r h) fun r s' hq => ?_)
  cases r with
  | error e => exact hx pins σ H s e s' I hq
  | ok fl =>
    cases fl with
    | ret u => exact I.after hq
    | next => exact False.elim hq
    | brk => exact False.elim hq
    | cont => exact False.elim hq
/-- len(x), x of S -/
def rLenF (S : Addr → Prop) (sp : Sp) : List V → Hp → VK → Prop := fun xs H Q => ∃ a C dx fs, xs = [.ref a] ∧ S C ∧ H a = some (.ins C dx fs) ∧ sp [.ref a] H (fun v H' => ∃ n : Int, v = .int n ∧ 0 ≤ n ∧ n < 2 ^ 63 ∧ Q v H') E0
theorem call_lenF (hs : ∀ C, S C → PySem.W.findIn X.K (.ref C) "__len__" = some (some (.ref f))) (hf : PySem.W.isFn X.K (.ref f) = true) (F : FnOk X.prog X.w X.K X.mg X.base CX k f fd ps sp) (hr : Room (k + 1) X.A) (hb : Binds X.K fd ps []) (hx : Passes CX X E0) :
    CallR X (.builtin "len") (rLenF S sp) := by
  intro pins s σ H xs us Q I r h
  obtain ⟨a, C, dx, fs, rfl, hC, ea, h⟩ := h
  cases r with
  | cons r1 r2 =>
    cases r2
    obtain rfl : _ = Value.ref a := r1
    obtain ⟨ox, od, J⟩ := inst_of I ea
    obtain ⟨m, hF⟩ := I.fr
    refine PySem.W.len_K hF I.ok.mod.kin J (hs C hC) hf (wpAny_mono (call_at (us := [.ref a]) (vs := [.ref a]) F hr.in1 rfl hb hx I (.cons rfl .nil) h) (fun r s' z => ?_) fun _ _ z => z)
    obtain ⟨x, H', I', rr, n, e, n0, n1, q⟩ := z
    subst e
    obtain ⟨t, rfl⟩ := rr
    exact ⟨⟨n0, n1⟩, .int n, H', I'.tok _, ⟨_, rfl⟩, q⟩
/-- bool(x), x of S -/
def rBoolF (S : Addr → Prop) (sp : Sp) : List V → Hp → VK → Prop := fun xs H Q => ∃ a C dx fs, xs = [.ref a] ∧ S C ∧ H a = some (.ins C dx fs) ∧ sp [.ref a] H (fun v H' => ∃ b, v = .bl b ∧ Q v H') E0
theorem call_boolF (hs : ∀ C, S C → PySem.W.findIn X.K (.ref C) "__bool__" = some (some (.ref f))) (hf : PySem.W.isFn X.K (.ref f) = true) (F : FnOk X.prog X.w X.K X.mg X.base CX k f fd ps sp) (hr : Room (k + 2) X.A) (hb : Binds X.K fd ps []) (hx : Passes CX X E0) :
    CallR X (.type "bool") (rBoolF S sp) := by
  intro pins s σ H xs us Q I r h
  obtain ⟨a, C, dx, fs, rfl, hC, ea, h⟩ := h
  cases r with
  | cons r1 r2 =>
    cases r2
    obtain rfl : _ = Value.ref a := r1
    obtain ⟨ox, od, J⟩ := inst_of I ea
    obtain ⟨m, hF⟩ := I.fr
    refine call_bool_own (PySem.W.truthy_K hF I.ok.mod.kin J (hs C hC) hf (wpAny_mono (call_at (us := [.ref a]) (vs := [.ref a]) F hr.in1.in1 rfl hb hx I (.cons rfl .nil) h) (fun r s' z => ?_) fun _ _ z => z))
    obtain ⟨x, H', I', rr, b, e, q⟩ := z
    subst e
    obtain rfl : r = Value.bool b := rr
    exact ⟨.bl b, H', I', rfl, q⟩
/-- x[y], x of S -/
def rIxF (S : Addr → Prop) (sp : Sp) (E : XK) : R2 := fun x y H Q => ∃ a C dx fs, x = .ref a ∧ S C ∧ H a = some (.ins C dx fs) ∧ sp [x, y] H Q E
theorem pe_ixF {a b : Expr} {ta tb : TE} {pos : Pos} (hs : ∀ C, S C → PySem.W.findIn X.K (.ref C) "__getitem__" = some (some (.ref f))) (hf : PySem.W.fnIn X.K f = true) (hfn : PySem.W.isFn X.K (.ref f) = true) (F : FnOk X.prog X.w X.K X.mg X.base CX k f fd ps sp) (hr : Room (k + 1) X.A)
    (hb : Binds X.K fd ps []) (hx : Passes CX X E) (ha : PE X a ta) (hc : PE X b tb) (hsl : ∀ v u, subscripted b true v u = runValue (.builtin "lifetime.subscript" ⟨[v, u], []⟩)) : PE X (.Subscript a b pos) (tOp (rIxF S sp E) ta tb) := by
  refine ⟨fun pins s σ H Q I h => ?_⟩
  refine Subscript_ (binT ha hc I h fun v u s2 x y H2 I2 rx ry q => ?_)
  obtain ⟨a, C, dx, fs, ex, hC, ea, q⟩ := q
  subst ex
  obtain rfl : v = Value.ref a := rx
  obtain ⟨ox, od, J⟩ := inst_of I2 ea
  obtain ⟨m, hF⟩ := I2.fr
  exact PySem.W.sub_K hF I2.ok.mod.kin J (hs C hC) hf hfn (call_atE (us := [.ref a, u]) (vs := [.ref a, y]) F hr.in1 rfl hb hx I2 (.cons rfl (.cons ry .nil)) q) (hsl _ _)
end
end Rd
set_option maxHeartbeats 2000000
namespace Rd
open PySem PySem.Spec PyProof.Rows L2 StX
/-! ## def f(a, .., *v, k = d): what it binds, its promise, making an instance by it -/
/-- fd binds: ps ahead, then the keyword-only key (dflt where it lacks), the rest in a new tuple -/
structure BindSK (K : PySem.W.Frag) (fd : FuncData) (ps : List Str) (pv key : Str) (dflt : V) : Prop where
  given : ∀ (us rest : List Value) (u : Value), us.length = ps.length → bindArgs fd ⟨us ++ rest, [(key, u)]⟩ = (newTuple rest >>= fun t => pure ((ps ++ [key]).zip (us ++ [u]) ++ [(pv, t)]))
  bare : ∃ u, RelV dflt u ∧ ∀ (us rest : List Value), us.length = ps.length → ∀ {M : Model} {A : Around} {Q : List (Str × Value) → Shared → Prop} {E : Value → Shared → Prop} {s : Shared}, K.In s.heap →
    wpAny M A (newTuple rest >>= fun t => pure ((ps ++ [key]).zip (us ++ [u]) ++ [(pv, t)])) Q E s → wpAny M A (bindArgs fd ⟨us ++ rest, []⟩) Q E s
/-- the keyword as it is written, its value -/
def KwIs (key : Str) (dflt : V) (kw : List (Str × Value)) (z : V) : Prop := (kw = [] ∧ z = dflt) ∨ ∃ u, kw = [(key, u)] ∧ RelV z u
def FnSK (P : Program) (w : World) (K : PySem.W.Frag) (mg : Str → Option Value) (base : Heap) (CX : CXT) (k : Nat) (f : Addr) (n : Nat) (key : Str) (dflt : V) (sp : Sp) : Prop :=
  ∀ (A : Around) (outer : List Env) (s : Shared) (H : Hp) (us rest : List Value) (vs rv : List V) (kw : List (Str × Value)) (z : V) (Q : VK) (E : XK), Room k A → Env0 P w K mg base A outer s H → Vals vs us → Vals rv rest → vs.length = n → rv.length ≤ sizeLine → KwIs key dflt kw z →
    (∀ p, H p = none → sp (vs ++ [z, .ref p]) (upd H p (.tup rv)) Q E) → codeAny (model P w) A (.call (.ref f) ⟨us ++ rest, kw⟩) (CR CX outer P w H s Q E) s
section
variable {CX : CXT} {P : Program} {w : World} {K : PySem.W.Frag} {mg : Str → Option Value} {base : Heap} {k : Nat} {f : Addr} {name qual : Str} {params : Arguments} {body : List Stmt} {scope : Scope} {dV kV doc pm cdv ct oc : Value} {an od : Option Addr}
  {osl : Array (Option Value)} {N ps : List Str} {sp : Sp} {pv key : Str} {dflt : V}
theorem fn_sk (lk : K.lookup f = some ⟨oc, od, .func (PySem.W.fnOf name qual params body scope dV kV doc pm an cdv ct), osl⟩) (hcd : PySem.W.codeIn K cdv qual = true) (S : FnScope N (ps ++ [key] ++ [pv]) scope) (hCX : CXUp CX)
    (B : BindSK K (PySem.W.fnOf name qual params body scope dV kV doc pm an cdv ct) ps pv key dflt)
    (hbody : ∀ (A : Around) (outer : List Env) (s : Shared) (H : Hp) (vs : List V) (Q : VK) (E : XK), Room k (A.deeper (envOfC qual scope s.heap.objs.size f cdv)) → sp vs H Q E →
      ∃ t, PSs (cxOf CX P w K mg base N qual scope f cdv A outer s H E) body t ∧ t { nx := fun _ H' => Q .non H', rt := Q } (start N vs) H) : FnSK P w K mg base CX (k + 1) f ps.length key dflt sp := by
  intro A outer s H us rest vs rv kw z Q E hr e0 r rr hl hz hk hsp
  have nH : H s.heap.objs.size = none := e0.hok.fresh (Nat.le_refl _)
  have lu : us.length = ps.length := r.length.symm.trans hl
  have lr : rest.length ≤ sizeLine := by rw [← rr.length]; exact hz
  have KX : K.In s.heap := e0.mod.kin.keeps fun b o e => (e0.bs b o e).1
  -- what stands behind either form
  have main : ∀ (u : Value), RelV z u → ∀ (A' : Around) (Ex : Value → Shared → Prop) (Q' : List (Str × Value) → Shared → Prop),
      (∀ (s2 : Shared) (H2 : Hp) (xs : List V) (ys : List Value), Env0 P w K mg base A outer s2 H2 → Un (frs outer) [] H H2 s.heap s2.heap → s2.os = s.os → (∀ e s', CX outer H2 s2 E e s' → CX outer H s E e s') → Vals xs ys → xs.length = (ps ++ [key] ++ [pv]).length →
        (∃ p, H p = none ∧ xs = vs ++ [z, .ref p] ∧ H2 = upd H p (.tup rv)) → Q' ((ps ++ [key] ++ [pv]).zip ys) s2) →
      wpAny (model P w) A' (newTuple rest >>= fun t => pure ((ps ++ [key]).zip (us ++ [u]) ++ [(pv, t)])) Q' Ex s := by
    intro u ru A' Ex Q' h
    refine wpAny_bind (wpAny_newTuple (wpAny_pure ?_) lr)
    have ob : ObjOk P w (upd H s.heap.objs.size (.tup rv)) (s.heap.push (Obj.mk (.type "tuple") none (.seq rest.toArray 0) #[])) s.heap.objs.size (.tup rv) := by
      refine ⟨hz, rest, rr, ?_⟩
      exact ⟨_, Heap.get?_push_size _ rfl, rfl, _, rfl⟩
    have laid := un_laid (H := H) (fs := frs outer) (s := s) (o := Obj.mk (.type "tuple") none (.seq rest.toArray 0) #[]) (u := .tup rv) nH
    have g := h _ _ (vs ++ [z, V.ref s.heap.objs.size]) (us ++ [u, Value.ref s.heap.objs.size]) (env0_laid e0 ob) laid rfl (fun e s' => hCX outer s H _ _ E e s' laid (fun b o q => Heap.get?_push_of_some _ q) rfl)
      (r.append (.cons ru (.cons rfl .nil))) (by simp [hl]) ⟨_, nH, rfl, rfl⟩
    have eq : (ps ++ [key] ++ [pv]).zip (us ++ [u, Value.ref s.heap.objs.size]) = (ps ++ [key]).zip (us ++ [u]) ++ [(pv, Value.ref s.heap.objs.size)] := by
      rw [show us ++ [u, Value.ref s.heap.objs.size] = us ++ [u] ++ [Value.ref s.heap.objs.size] by simp, List.zip_append (by simp [lu])]
      rfl
    rw [eq] at g
    exact g
  refine run_bnd lk hcd S hr e0 (G := fun xs H2 => ∃ p, H p = none ∧ xs = vs ++ [z, .ref p] ∧ H2 = upd H p (.tup rv)) (fun A' Ex Q' h => ?_) fun s2 H2 xs hp hr' => ?_
  · rcases hk with ⟨rfl, rfl⟩ | ⟨u, rfl, ru⟩
    · obtain ⟨u, ru, hb⟩ := B.bare
      exact hb us rest lu KX (main u ru A' Ex Q' h)
    · rw [B.given us rest u lu]
      exact main u ru A' Ex Q' h
  · obtain ⟨p, np, ex, eH⟩ := hp
    subst ex eH
    exact hbody A outer s2 _ _ Q E hr' (hsp p np)
end
/-! ### C(e, .., *y, k = v) -/
section
variable {M : Model} {A : Around} {E : Value → Shared → Prop} {s : Shared} {K : PySem.W.Frag} {env : Env} {pos : Pos} {f : Value} {first : List Value} {Q : Value → Shared → Prop} {h₀ : Heap} {e : Expr} {rest : List Expr} {kws : List Keyword}
open PySem.W in
theorem star_kw {args : List (Bool × Sem Value)} {kw : List (Option Str × Sem Value)} (st : args.any (·.1) = true) (kp : keepIn K f = true)
    (h : wpAny M A (evalArgs f true args kw) (fun a t => K.In t.heap ∧ wpAny M A (call f (first ++ a.pos) a.kw) Q E t) E s) : wpAny M A (callWith pos f first args kw) Q E s := by
  unfold callWith
  refine wpAny_bind (wpAny_holding ?_)
  refine wpAny_mono h (fun a t ht => ?_) fun _ _ z => z
  obtain ⟨X, ht⟩ := ht
  refine wpAny_bind (wpAny_standAt ?_)
  obtain ⟨kr, k1, k2⟩ := looks_keep (M := M) kp X
  simp only [st, Bool.true_or]
  refine wpAny_bind (k2.here ?_)
  have fin : ∀ {u : Sem Value}, wpAny M A u Q E t → wpAny M A (do let r ← u; holding [r] point; pure r) Q E t := fun hu => by
    refine wpAny_bind (wpAny_mono hu (fun r t2 hr => ?_) fun _ _ z => z)
    exact wpAny_bind (wpAny_holding (wpAny_point (wpAny_pure hr)))
  have mk : ∀ m : Value, wpAny M A (callMarked m f (first ++ a.pos) a.kw) Q E t := fun m => by
    unfold callMarked
    exact Calls.wpAny_keep ht
  rcases k1 with e1 | e1 <;> subst e1 <;> dsimp only <;> first | exact fin (mk _) | exact fin (wpAny_operating ht)
end
section
variable {X : Cx} {CX : CXT} {k n : Nat} {f C : Addr} {sp : Sp} {E : XK} {x key : Str} {dflt : V} {p pos : Pos} {e : Expr} {es : List Expr} {kws : List Keyword} {t tk : TA}
/-- what is asked of the making: the instance, its dict, the tuple of the rest are new -/
def SkNew (C : Addr) (sp : Sp) (E : XK) (H : Hp) (Q : VK) (vs rv : List V) (z : V) : Prop := ∀ x dx p, H x = none → H dx = none → H p = none → dx ≠ x → p ≠ x → p ≠ dx →
  sp (.ref x :: (vs ++ [z, .ref p])) (upd (upd (upd H dx (.own x)) x (.ins C dx [])) p (.tup rv)) (fun v H2 => v = .non ∧ Q (.ref x) H2) E
theorem run_makeSK {pins : List (Addr × Obj)} {σ : L2.St} {H : Hp} {s : Shared} {Q : VK} {us rest : List Value} {vs rv : List V} {kw : List (Str × Value)} {z : V} (M : Mk X.K C f) (F : FnSK X.prog X.w X.K X.mg X.base CX k f (n + 1) key dflt sp) (hr : Room (k + 1) X.A) (hx : Passes CX X E)
    (I : Inv X pins σ H s) (r : Vals vs us) (rr : Vals rv rest) (hl : vs.length = n) (hz : rv.length ≤ sizeLine) (hk : KwIs key dflt kw z) (h : SkNew C sp E H Q vs rv z) : wpAny (model X.prog X.w) X.A (call (.ref C) (us ++ rest) kw) (EP X pins σ Q) X.xe s := by
  have I2 := Inv.made (C := C) I
  have ne : s.heap.objs.size ≠ s.heap.objs.size + 1 := Nat.ne_of_lt (Nat.lt_succ_self _)
  have hq := fun p hp => h (s.heap.objs.size + 1) s.heap.objs.size p (I.hok.fresh (Nat.le_succ _)) (I.hok.fresh (Nat.le_refl _)) hp ne
  have r2 : Vals (V.ref (s.heap.objs.size + 1) :: vs) (Value.ref (s.heap.objs.size + 1) :: us) := .cons rfl r
  have go := F _ X.stack _ _ (Value.ref (s.heap.objs.size + 1) :: us) rest _ rv kw z (fun v H2 => v = .non ∧ Q (.ref (s.heap.objs.size + 1)) H2) E (hr.make C (us ++ rest) kw) (I2.env0.make C (us ++ rest) kw) r2 rr (by rw [List.length_cons, hl]) hz hk
  refine wpAny_call (make_map (f := f) I.kIn M.makes M.init (beq_iff_eq.mp M.fn) (codeAny_mono (go fun p hp => ?_) fun fl s' hf => ?_))
  · have p1 : p ≠ s.heap.objs.size + 1 := fun c => by rw [c, upd_same] at hp; cases hp
    rw [upd_ne p1] at hp
    have p2 : p ≠ s.heap.objs.size := fun c => by rw [c, upd_same] at hp; cases hp
    rw [upd_ne p2] at hp
    exact hq p hp p1 p2
  · match fl, hf with
    | .error e, hf => exact hx pins σ _ _ e s' I2 hf
    | .ok (.ret u), hf =>
      obtain ⟨v, H', I3, rv', ev, q3⟩ := I2.after hf
      subst ev
      exact ⟨rv', V.ref (s.heap.objs.size + 1), H', I3, rfl, q3⟩
def tMakeS (C : Addr) (n : Nat) (dflt : V) (sp : Sp) (E : XK) (t : TA) : TE := fun σ H Q => t σ H fun vs H1 => ∃ ws rv, vs = ws ++ rv ∧ ws.length = n ∧ rv.length ≤ sizeLine ∧ SkNew C sp E H1 Q ws rv dflt
def tMakeSK (C : Addr) (n : Nat) (sp : Sp) (E : XK) (t tk : TA) : TE := fun σ H Q => t σ H fun vs H1 => tk σ H1 fun zs H2 => ∃ ws rv z, vs = ws ++ rv ∧ zs = [z] ∧ ws.length = n ∧ rv.length ≤ sizeLine ∧ SkNew C sp E H2 Q ws rv z
/-- C(e, ..) -/
theorem pe_makeS (M : Mk X.K C f) (F : FnSK X.prog X.w X.K X.mg X.base CX k f (n + 1) key dflt sp) (hr : Room (k + 1) X.A) (hg : Gl X x) (hm : X.mg x = some (.ref C)) (hx : Passes CX X E) (ha : PA X (e :: es) t) (hdb : (x == ("__debug__" : Str)) = false := by decide)
    (he : starEach (e :: es) X.env = (false, eval e X.env) :: starEach es X.env := by rfl) (hpl : (backTo pos (starEach es X.env)).any (·.1) = false := by rfl) : PE X (.Call (.Name x p) (e :: es) [] pos) (tMakeS C n dflt sp E t) := by
  refine ⟨fun pins s σ H Q I h => wpAny_Call_Name_kw (ld_glob I hg hm ?_ hdb)⟩
  refine PySem.W.callWith_K (h₀ := X.base) I.ok.mod.kin M.kp (thn (ha.run pos pins s σ H _ I h) fun us s1 z => ?_) he hpl
  obtain ⟨vs, H1, I1, r, ws, rv, ev, l1, l2, q⟩ := z
  subst ev
  obtain ⟨u1, u2, eu, r1, r2⟩ := vals_split r
  subst eu
  exact ⟨I1.kIn, run_makeSK (us := u1) (rest := u2) M F hr hx I1 r1 r2 l1 l2 (.inl ⟨rfl, rfl⟩) q⟩
/-- C(e, .., k = v) -/
theorem pe_makeSK (M : Mk X.K C f) (F : FnSK X.prog X.w X.K X.mg X.base CX k f (n + 1) key dflt sp) (hr : Room (k + 1) X.A) (hg : Gl X x) (hm : X.mg x = some (.ref C)) (hx : Passes CX X E) (ha : PA X (e :: es) t) (hkw : PK X kws tk)
    (hall : (backToKw pos (keywordEach kws X.env)).all (·.1.isSome) = true := by rfl) (hks : (backToKw pos (keywordEach kws X.env)).filterMap (·.1) = [key] := by rfl) (hdb : (x == ("__debug__" : Str)) = false := by decide)
    (he : starEach (e :: es) X.env = (false, eval e X.env) :: starEach es X.env := by rfl) (hpl : ((backTo pos (starEach (e :: es) X.env)).any (·.1) || (backToKw pos (keywordEach kws X.env)).any (·.1.isNone)) = false := by rfl) :
    PE X (.Call (.Name x p) (e :: es) kws pos) (tMakeSK C n sp E t tk) := by
  refine ⟨fun pins s σ H Q I h => wpAny_Call_Name_kw (ld_glob I hg hm ?_ hdb)⟩
  refine PySem.W.callWith_KW (h₀ := X.base) I.ok.mod.kin M.kp hall (thn (ha.run pos pins s σ H _ I h) fun us s1 z => ?_) hpl he
  obtain ⟨vs, H1, I1, r, q⟩ := z
  refine thn (hkw.run pos pins s1 σ H1 _ I1 q) fun ks s2 z2 => ?_
  obtain ⟨zs, H2, I2, rz, ws, rv, y, ev, ez, l1, l2, q2⟩ := z2
  subst ev ez
  obtain ⟨u1, u2, eu, r1, r2⟩ := vals_split r
  subst eu
  rw [hks]
  obtain ⟨u, rfl, ru⟩ := vals1 rz
  exact ⟨I2.kIn, run_makeSK (us := u1) (rest := u2) M F hr hx I2 r1 r2 l1 l2 (.inr ⟨u, rfl, ru⟩) q2⟩
/-- C(e, .., *y, k = v) -/
theorem pe_makeSKs (M : Mk X.K C f) (F : FnSK X.prog X.w X.K X.mg X.base CX k f (n + 1) key dflt sp) (hr : Room (k + 1) X.A) (hg : Gl X x) (hm : X.mg x = some (.ref C)) (hx : Passes CX X E) (ha : PA X (e :: es) t) (hkw : PK X kws tk)
    (hall : (backToKw pos (keywordEach kws X.env)).all (·.1.isSome) = true := by rfl) (hks : (backToKw pos (keywordEach kws X.env)).filterMap (·.1) = [key] := by rfl) (hdb : (x == ("__debug__" : Str)) = false := by decide)
    (he : starEach (e :: es) X.env = (false, eval e X.env) :: starEach es X.env := by rfl) (hst : (backTo pos (starEach (e :: es) X.env)).any (·.1) = true := by rfl) :
    PE X (.Call (.Name x p) (e :: es) kws pos) (tMakeSK C n sp E t tk) := by
  refine ⟨fun pins s σ H Q I h => wpAny_Call_Name_kw (ld_glob I hg hm ?_ hdb)⟩
  refine star_kw hst M.kp (evalArgs_kw2 hall (thn (ha.run pos pins s σ H _ I h) fun us s1 z => ?_) he)
  obtain ⟨vs, H1, I1, r, q⟩ := z
  refine thn (hkw.run pos pins s1 σ H1 _ I1 q) fun ks s2 z2 => ?_
  obtain ⟨zs, H2, I2, rz, ws, rv, y, ev, ez, l1, l2, q2⟩ := z2
  subst ev ez
  obtain ⟨u1, u2, eu, r1, r2⟩ := vals_split r
  subst eu
  rw [hks]
  obtain ⟨u, rfl, ru⟩ := vals1 rz
  exact ⟨I2.kIn, run_makeSK (us := u1) (rest := u2) M F hr hx I2 r1 r2 l1 l2 (.inr ⟨u, rfl, ru⟩) q2⟩
end
end Rd
set_option maxHeartbeats 2000000
namespace Rd
open PySem PySem.Spec PyProof.Rows L2
open AutoSeq1 (wpAny_loadPart')
open PySem.SeqAt MeetsSeq MeetsSeq2 MeetsSeq3 SeqRoads2
/-! ## == and != of two lists of own things: of one length and each two equal, or of unlike lengths -/
section
variable {prog : Program} {w : World} {A : Around} {R : Result → Shared → Prop}
open GQ in
theorem ne_loopS (l b : Addr) (N : Nat) (I : Nat → Shared → Prop) (hl : ListI prog w A (fun e t => R (.error e) t) l b N I) (fin : ∀ t, I N t → R (.ok (.ret (.bool false))) t) :
    ∀ (k i : Nat), N - i = k → i ≤ N → ∀ t, I i t → wpAny (model prog w) A.in1 (Builtin.«list.__eq__.loop» ⟨[.ref l, .ref b, rawInt i, rawInt 3], []⟩) (FinOf prog w A R) (fun e t => R (.error e) t) t
  | 0, i, hk, hi, t, h => by
    obtain ⟨xs, ys, m, n, e1, e2, z1, z2, _⟩ := hl i t h
    have ei : i = N := Nat.le_antisymm hi (Nat.sub_eq_zero_iff_le.mp hk)
    have done : R (.ok (.ret (.bool false))) t := fin t (ei ▸ h)
    obtain ⟨hp, gs, dr, tk, os⟩ := t
    wp_walk using wpAny_loadPart' e1, wpAny_loadPart' e2
    have q1 : xs[((i : Nat) : Int).toNat]? = none := Array.getElem?_eq_none (by simp; omega)
    have q2 : ys[((i : Nat) : Int).toNat]? = none := Array.getElem?_eq_none (by simp; omega)
    rw [q1, q2]
    wp_walk using wpAny_loadPart' e1, wpAny_loadPart' e2
    show R (.ok (.ret (.bool (xs.size != ys.size)))) _
    rw [z1, z2, bne_self_eq_false]
    exact done
  | k + 1, i, hk, hi, t, h => by
    obtain ⟨xs, ys, m, n, e1, e2, z1, z2, turn⟩ := hl i t h
    have i1 : i < xs.size := by omega
    have i2 : i < ys.size := by omega
    have one := turn i1 i2
    obtain ⟨hp, gs, dr, tk, os⟩ := t
    wp_walk using wpAny_loadPart' e1, wpAny_loadPart' e2
    rw [show xs[((i : Nat) : Int).toNat]? = some xs[i] from Array.getElem?_eq_getElem i1, show ys[((i : Nat) : Int).toNat]? = some ys[i] from Array.getElem?_eq_getElem i2]
    refine wpAny_bind (wpAny_mono one (fun r t2 q => ?_) fun _ _ z => z)
    obtain ⟨er, I2⟩ := q
    subst er
    have next := ne_loopS l b N I hl fin k (i + 1) (by omega) (by omega) t2 I2
    obtain ⟨hp2, gs2, dr2, tk2, os2⟩ := t2
    wp_walk
    rw [show ((i : Int) + 1) = ((i + 1 : Nat) : Int) from rfl]
    refine And.intro (plainId_quiet plain_eq_loop _) (codeAny_builtin entry_eq_loop ?_)
    rw [Around.under_plainId plain_eq_loop _]
    exact next
open GQ in
theorem list_neS (l b : Addr) (N : Nat) (I : Nat → Shared → Prop) (hl : ListI prog w A (fun e t => R (.error e) t) l b N I) (fin : ∀ t, I N t → R (.ok (.ret (.bool false))) t) {s : Shared} (h : I 0 s) :
    wpAny (model prog w) A.in1 (Builtin.«list.__ne__» ⟨[.ref l, .ref b], []⟩) (FinOf prog w A R) (fun e t => R (.error e) t) s := by
  obtain ⟨xs, ys, m, n, e1, e2, z1, z2, _⟩ := hl 0 s h
  have first := ne_loopS (A := A) (R := R) l b N I hl fin _ 0 rfl (Nat.zero_le _) s h
  have f3 := AutoSeq1.sub_list_list
  have same : ¬ (xs.size != ys.size) = true := by rw [z1, z2, bne_self_eq_false]; exact Bool.false_ne_true
  obtain ⟨hp, gs, dr, tk, os⟩ := s
  wp_walk using wpAny_loadPart' e1, wpAny_loadPart' e2
  refine And.intro (plainId_quiet plain_eq_loop _) (codeAny_builtin entry_eq_loop ?_)
  rw [Around.under_plainId plain_eq_loop _]
  exact first
variable {E : Value → Shared → Prop} {s : Shared}
open GQ in
theorem rc_listNe {l b : Addr} {N : Nat} {Q : Value → Shared → Prop} (hu : A.units < cLine) (I : Nat → Shared → Prop) (hl : ListI prog w A E l b N I) (fin : ∀ t, I N t → Q (.bool false) t) (h : I 0 s) : wpAny (model prog w) A (richCompare .NotEq (.ref l) (.ref b)) Q E s := by
  obtain ⟨xs, ys, m, n, e1, e2, _⟩ := hl 0 s h
  refine wpAny_richCompare_same_room (op := .NotEq) ⟨_, e1, rfl⟩ ⟨_, e2, rfl⟩ F.slot_list_ne (call_here F.slot_list_ne ⟨_, e1, rfl⟩ F.entry_list_ne (F.args_list_ne_2 _ _) ?_) hu
  refine list_neS (R := wants (fun v t => v ≠ .notImplemented ∧ Q v t) E) l b N I hl (fun t q => ?_) h
  exact And.intro (fun c => nomatch c) (fin t q)
open GQ in
theorem rc_listLen {c : Bool} {l b : Addr} {xs ys : Array Value} {m n : Nat} {Q : Value → Shared → Prop} (hu : A.units < cLine) (e1 : s.heap.get? l = some { cls := .type "list", data := .seq xs m }) (e2 : s.heap.get? b = some { cls := .type "list", data := .seq ys n }) (ne : (xs.size != ys.size) = true)
    (q : Q (.bool (!c)) s) : wpAny (model prog w) A (richCompare (if c then .Eq else .NotEq) (.ref l) (.ref b)) Q E s := by
  cases c with
  | true =>
    refine wpAny_richCompare_same_room (op := .Eq) ⟨_, e1, rfl⟩ ⟨_, e2, rfl⟩ F.slot_list_eq (call_here F.slot_list_eq ⟨_, e1, rfl⟩ F.entry_list_eq (F.args_list_eq_2 _ _) ?_) hu
    exact SeqAt.list_eq_lengthsAt l b xs ys m n none none #[] #[] ne prog w A _ s ⟨e1, e2, (fun z => nomatch z), q⟩
  | false =>
    refine wpAny_richCompare_same_room (op := .NotEq) ⟨_, e1, rfl⟩ ⟨_, e2, rfl⟩ F.slot_list_ne (call_here F.slot_list_ne ⟨_, e1, rfl⟩ F.entry_list_ne (F.args_list_ne_2 _ _) ?_) hu
    exact SeqAt.list_ne_lengthsAt l b xs ys m n none none #[] #[] ne prog w A _ s ⟨e1, e2, (fun z => nomatch z), q⟩
end
section
variable {X : Cx} {n : Nat} {D : Eqv}
/-- lists as they are compared: c: are they the same -/
def rLstQ (D : Eqv) (c : Bool) : R2 := fun x y H Q => ∃ a b xs ys, x = .ref a ∧ y = .ref b ∧ H a = some (.lst xs) ∧ H b = some (.lst ys) ∧ ((xs.length ≠ ys.length ∧ Q (.bl (!c)) H) ∨ (Prs D xs ys H ∧ ∀ H', Ext H H' → Q (.bl c) H'))
theorem lst_unlike {c : Bool} {pins : List (Addr × Obj)} {σ : L2.St} {H : Hp} {s : Shared} {a b : Addr} {xs ys : List V} {Q : VK} (hu : X.A.units < cLine) (I : Inv X pins σ H s) (ha : H a = some (.lst xs)) (hb : H b = some (.lst ys)) (ne : xs.length ≠ ys.length) (q : Q (.bl (!c)) H) :
    wpAny (model X.prog X.w) X.A (richCompare (if c then .Eq else .NotEq) (.ref a) (.ref b)) (EP X pins σ Q) X.xe s := by
  obtain ⟨_, i1, k1, r1, e1⟩ := I.hok a _ ha
  obtain ⟨_, i2, k2, r2, e2⟩ := I.hok b _ hb
  refine rc_listLen hu e1 e2 ?_ ⟨.bl (!c), H, I, rfl, q⟩
  rw [bne_iff_ne, List.size_toArray, List.size_toArray, ← r1.length, ← r2.length]
  exact ne
theorem op_eqLst (hD : Mon D) (h : EqG X n D) (hr : Room (n + 1) X.A) : OpR X (compareOp .Eq) (rLstQ D true) := by
  intro pins s σ H x y v u Q I rx ry hq
  obtain ⟨a, b, xs, ys, ex, ey, ha, hb, hq⟩ := hq
  rcases hq with ⟨ne, q⟩ | ⟨p, q⟩
  · subst ex ey
    cases rx
    cases ry
    exact lst_unlike (c := true) hr.units0 I ha hb ne q
  · exact op_eqG (rcG_list hD h) hr pins s σ H x y v u Q I rx ry ⟨⟨a, b, xs, ys, ex, ey, ha, hb, p⟩, q⟩
theorem op_neLst (hD : Mon D) (h : EqG X n D) (hr : Room (n + 1) X.A) : OpR X (compareOp .NotEq) (rLstQ D false) := by
  intro pins s σ H x y v u Q I rx ry hq
  obtain ⟨a, b, xs, ys, ex, ey, ha, hb, hq⟩ := hq
  subst ex ey
  cases rx
  cases ry
  rcases hq with ⟨ne, q⟩ | ⟨p, q⟩
  · exact lst_unlike (c := false) hr.units0 I ha hb ne q
  · have sb : Sub X (n + 1) X.A := ⟨hr, rfl⟩
    refine rc_listNe (N := xs.length) hr.units0 (fun _ t => LoopI X pins σ H t) (fun i t k => ?_) (fun t k => ?_) ⟨H, I, Ext.rfl'⟩
    · obtain ⟨H1, I1, x1⟩ := id k
      obtain ⟨_, i1, k1, r1, e1⟩ := I1.hok a _ (x1 _ _ ha)
      obtain ⟨_, i2, k2, r2, e2⟩ := I1.hok b _ (x1 _ _ hb)
      exact ⟨_, _, k1, k2, e1, e2, by rw [List.size_toArray, ← r1.length], by rw [List.size_toArray, ← r2.length, ← p.1], fun j1 j2 => turnG hD h sb p r1 r2 i j1 j2 t k⟩
    · obtain ⟨H', I', x'⟩ := k
      exact ⟨.bl false, H', I', rfl, q H' x'⟩
end
end Rd
set_option maxHeartbeats 2000000
namespace Rd
open PySem PySem.Spec PyProof.Rows L2
open Classical
/-! ## sorted(list of tuples of texts), fewer than 64 -/
/-- the order of tuples of texts -/
def ltT : List Str → List Str → Bool
  | [], [] => false
  | [], _ :: _ => true
  | _ :: _, [] => false
  | x :: xs, y :: ys => if x = y then ltT xs ys else decide (x.cps.toList < y.cps.toList)
/-- v is a tuple of these texts -/
def TupT (h : Heap) (v : Value) (zs : List Str) : Prop := ∃ (a : Addr) (xs : List Value), v = .ref a ∧ IsTup h a xs.toArray ∧ Vals (zs.map V.str) xs
theorem vals_str : ∀ {zs ws : List Str} {xs : List Value}, Vals (zs.map V.str) xs → Vals (ws.map V.str) xs → zs = ws
  | [], [], _, _, _ => rfl
  | [], _ :: _, _, a, b => by cases a; cases b
  | _ :: _, [], _, a, b => by cases b; cases a
  | z :: zs, w :: ws, _, .cons a1 a2, .cons b1 b2 => by
    obtain ⟨t, e⟩ := a1
    obtain ⟨t', e'⟩ := b1
    rw [e] at e'
    cases e'
    rw [vals_str a2 b2]
theorem TupT.eq {h : Heap} {v : Value} {zs ws : List Str} (a : TupT h v zs) (b : TupT h v ws) : zs = ws := by
  obtain ⟨p, xs, rfl, ⟨o, e, c, n, d⟩, r⟩ := a
  obtain ⟨p', ys, ep, ⟨o', e', c', n', d'⟩, r'⟩ := b
  cases ep
  rw [e] at e'
  cases e'
  rw [d] at d'
  have z := (Data.seq.inj d').1
  have z2 : xs = ys := by simpa using congrArg Array.toList z
  subst z2
  exact vals_str r r'
theorem TupT.keep {h h' : Heap} {v : Value} {zs : List Str} (a : TupT h v zs) (k : ∀ b o, h.get? b = some o → o.cls = .type "tuple" → h'.get? b = some o) : TupT h' v zs := by
  obtain ⟨p, xs, e, ⟨o, e1, c, n, d⟩, r⟩ := a
  exact ⟨p, xs, e, ⟨o, k _ _ e1 c, c, n, d⟩, r⟩
section
variable {prog : Program} {w : World} {A : Around} {E : Value → Shared → Prop} {s : Shared}
theorem oneLt_txt (c : Bool) {p q : Str} {t u : Tok} {Q : Bool → Shared → Prop} (h : Q (decide (p.cps.toList < q.cps.toList)) s) : wpAny (model prog w) A (oneLt' c (.str p t) (.str q u)) Q E s := by
  cases c with
  | true => exact oneLt_str h
  | false => exact PySem.W.kat_one _ _ (lt_str (Q := PySem.W.BoolBack Q) h)
theorem lex_txts {b : Bool} {Q : Bool → Shared → Prop} : ∀ {xs ys : List Value} {zs ws : List Str} (i : Nat), Vals (zs.map V.str) xs → Vals (ws.map V.str) ys → Q (ltT zs ws) s → PySem.W.KatLex prog w A b (decide (xs.length < ys.length)) Q (xs.zip ys) i s
  | _, _, [], [], i, r, r', h => by
    cases r
    cases r'
    exact PySem.W.kat_nil h
  | _, _, [], _ :: _, i, r, r', h => by
    cases r
    cases r' with
    | cons r1 r2 =>
      refine PySem.W.kat_nil ?_
      simpa [ltT] using h
  | _, _, _ :: _, [], i, r, r', h => by
    cases r'
    cases r with
    | cons r1 r2 => exact PySem.W.kat_nil h
  | _, _, z :: zs, w' :: ws, i, .cons r1 r2, .cons r3 r4, h => by
    obtain ⟨t, e⟩ := r1
    obtain ⟨t', e'⟩ := r3
    subst e e'
    rename_i xs ys
    have el : decide ((Value.str z t :: xs).length < (Value.str w' t' :: ys).length) = decide (xs.length < ys.length) := by
      simp only [List.length_cons, Nat.add_lt_add_iff_right]
    rw [el]
    show PySem.W.KatLex prog w A b _ Q ((Value.str z t, Value.str w' t') :: xs.zip ys) i s
    refine PySem.W.kat_cons (wpAny_eqBool_str ?_)
    by_cases ez : z = w'
    · subst ez
      rw [decide_eq_true rfl]
      refine PySem.W.kat_yes (lex_txts (i + 1) r2 r4 ?_)
      have : ltT (z :: zs) (z :: ws) = ltT zs ws := if_pos rfl
      rw [this] at h
      exact h
    · rw [decide_eq_false ez]
      refine PySem.W.kat_no (oneLt_txt _ ?_)
      have : ltT (z :: zs) (w' :: ws) = decide (z.cps.toList < w'.cps.toList) := if_neg ez
      rw [this] at h
      exact h
theorem firstsT {h : Heap} : ∀ vs : List Value, (∀ v ∈ vs, ∃ z zs, TupT h v (z :: zs)) → ∃ fs, PySem.W.KatTups h vs fs ∧ fs.length = vs.length ∧ ∀ f ∈ fs, ∃ n t, f = Value.str n t
  | [], _ => ⟨[], PySem.W.KatTups.nil, rfl, fun f hf => by simp at hf⟩
  | v :: vs, x => by
    obtain ⟨fs, k, hl, hi⟩ := firstsT vs fun u hu => x u (List.mem_cons_of_mem _ hu)
    obtain ⟨z, zs, a, xs, rfl, ⟨o, ho, hc, n, hd⟩, r⟩ := x v List.mem_cons_self
    cases r with
    | cons r1 r2 =>
      obtain ⟨t, rfl⟩ := r1
      refine ⟨_ :: fs, PySem.W.KatTups.cons (f := .str z t) ho hc hd (by simp) k, by simp [hl], fun f hf => ?_⟩
      rcases List.mem_cons.mp hf with rfl | hf
      · exact ⟨z, t, rfl⟩
      · exact hi f hf
theorem kind_txts {vs : List Value} (h2 : 2 ≤ vs.length) (x : ∀ v ∈ vs, ∃ z zs, TupT s.heap v (z :: zs)) (r : Value → Int) (R : List Str → Int) (hr : ∀ v ∈ vs, ∀ zs, TupT s.heap v zs → r v = R zs)
    (hR : ∀ v ∈ vs, ∀ u ∈ vs, ∀ zs ws, TupT s.heap v zs → TupT s.heap u ws → decide (R zs < R ws) = ltT zs ws) (Q : SortKind → Shared → Prop) (h : ∀ κ, TS.Cmp prog w A s κ (pairsOf vs) r → Q κ s) : wpAny (model prog w) A (keyKind' vs.toArray) Q E s := by
  obtain ⟨fs, k, hl, hi⟩ := firstsT vs x
  refine PySem.W.kat_kind (T := Value.type "str") k (by omega) (fun f hf => ?_) rfl (h _ fun p q hp hq Q' E' hQ => ?_)
  · obtain ⟨n, t, rfl⟩ := hi f hf
    exact PySem.W.Looks.of_pure rfl
  · rw [pairsOf_toList] at hp hq
    have mp := (mem_zip_self hp).2
    have mq := (mem_zip_self hq).2
    obtain ⟨z1, zs1, tp⟩ := x _ mp
    obtain ⟨z2, zs2, tq⟩ := x _ mq
    have e := hR _ mp _ mq _ _ tp tq
    rw [hr _ mp _ tp, hr _ mq _ tq, e] at hQ
    obtain ⟨a, xs, e1, ⟨o, ho, hc, n, hdt⟩, rx⟩ := tp
    obtain ⟨a', ys, e2, ⟨o', ho', hc', n', hdt'⟩, ry⟩ := tq
    rw [e1, e2]
    refine PySem.W.kat_lt ho hdt ho' hdt' ?_
    have z := lex_txts (prog := prog) (w := w) (A := A) (b := (Value.type "str" != Value.type "tuple")) 0 rx ry hQ
    simpa using z
/-- sorted of such a list, R its rank -/
theorem sorted_txts {l : Addr} {vs : List Value} {R : List Str → Int} {Q : Value → Shared → Prop} (hl : s.heap.IsList l vs.toArray) (h64 : vs.length < 64) (x : ∀ v ∈ vs, ∃ z zs, TupT s.heap v (z :: zs))
    (hR : ∀ v ∈ vs, ∀ u ∈ vs, ∀ zs ws, TupT s.heap v zs → TupT s.heap u ws → decide (R zs < R ws) = ltT zs ws)
    (h : ∀ out : Array Value, out.toList.Perm vs → out.toList.Pairwise (fun u v => ∀ zs ws, TupT s.heap u zs → TupT s.heap v ws → R zs ≤ R ws) → Q (.ref (s.heap.objs.size + 1)) { s with heap := sortedAll s.heap vs out }) :
    wpAny (model prog w) A (call (.builtin "sorted") [.ref l]) Q E s := by
  -- the rank of a value
  let r : Value → Int := fun v => if hv : ∃ zs, TupT s.heap v zs then R hv.choose else 0
  have rv : ∀ v zs, TupT s.heap v zs → r v = R zs := fun v zs t => by
    have hv : ∃ zs, TupT s.heap v zs := ⟨zs, t⟩
    show (if hv : ∃ zs, TupT s.heap v zs then R hv.choose else 0) = R zs
    rw [dif_pos hv, hv.choose_spec.eq t]
  refine Calls.call_function_entry kind_sorted plain_sorted entry_sorted (args_sorted1 _) ?_
  unfold Builtin.«sorted»
  refine wpAny_bind (m := checkCount "sorted" 1 1 _) (wpAny_pure (wpAny_bind (collect_list hl ?_ (by rw [sizeLine_eq]; omega))))
  refine wpAny_bind (wpAny_newList ?_ (by rw [sizeLine_eq]; omega))
  generalize eG : (s.heap.push (seqObj "list" #[] 0)).update s.heap.objs.size (Obj.mapSeq (· ++ vs.toArray)) = G
  have zG : G.objs.size = s.heap.objs.size + 1 := by rw [← eG, Heap.size_update, size_push']
  have kG : ∀ b o, s.heap.get? b = some o → (G.push (seqObj "list" vs.toArray 0)).get? b = some o := fun b o q => by
    have lb := Heap.lt_size q
    refine Heap.get?_push_of_some _ ?_
    rw [← eG, Heap.get?_update_ne _ _ _ _ (Nat.ne_of_lt lb)]
    exact Heap.get?_push_of_some _ q
  have oG : (G.push (seqObj "list" vs.toArray 0)).get? (s.heap.objs.size + 1) = some (seqObj "list" vs.toArray 0) := by rw [← zG]; exact Heap.get?_push_size _ rfl
  show wpAny _ _ _ _ _ { s with heap := G.push (seqObj "list" vs.toArray 0) }
  rw [zG]
  have kM : ∀ b o, (G.push (seqObj "list" vs.toArray 0)).get? b = some o → o.cls = .type "tuple" → (TS.midHeap (G.push (seqObj "list" vs.toArray 0)) (s.heap.objs.size + 1) vs).get? b = some o := fun b o e hc => by
    refine TS.midHeap_old (fun z => ?_) e
    subst z
    have z := Option.some.inj (e.symm.trans oG)
    rw [z] at hc
    exact absurd (Value.type.inj hc) (by decide)
  have up : ∀ v zs, TupT s.heap v zs → TupT (TS.midHeap (G.push (seqObj "list" vs.toArray 0)) (s.heap.objs.size + 1) vs) v zs := fun v zs t => t.keep fun b o e hc => kM b o (kG b o e) hc
  refine wpAny_bind (wpAny_holding (wpAny_call_entry slot_list_sort ⟨_, oG, rfl⟩ entry_list_sort (SK.plain_sort (r := r) oG h64 (fun h2 Q' hQ => ?_) fun ps out a1 a2 a3 => ⟨_, rfl, ?_⟩) (args_list_sort _)))
  · refine kind_txts (s := { s with heap := TS.midHeap (G.push (seqObj "list" vs.toArray 0)) (s.heap.objs.size + 1) vs }) h2 (fun v hv => ?_) r R (fun v hv zs t => ?_) (fun v hv u hu zs ws t1 t2 => ?_) Q' hQ
    · obtain ⟨z, zs, t⟩ := x v hv
      exact ⟨z, zs, up v _ t⟩
    · obtain ⟨z0, zs0, t0⟩ := x v hv
      rw [t.eq (up v _ t0)]
      exact rv v _ t0
    · obtain ⟨z0, zs0, t0⟩ := x v hv
      obtain ⟨z3, zs3, t3⟩ := x u hu
      rw [t1.eq (up v _ t0), t2.eq (up u _ t3)]
      exact hR v hv u hu _ _ t0 t3
  · obtain ⟨p, o⟩ := TS.out_rank a1 a2 a3
    have fin := h out p (o.imp fun {u v} le zs ws t1 t2 => by rw [rv u zs t1, rv v ws t2] at le; exact le)
    unfold sortedAll at fin
    rw [eG] at fin
    exact wpAny_pure ⟨_, rfl, fin⟩
end
section
variable {X : Cx}
/-- x is a tuple of these texts -/
def TupS (K : PySem.W.Frag) (H : Hp) (x : V) (zs : List Str) : Prop := ∃ t, x = .ref t ∧ SqT K H t (zs.map V.str)
theorem tupS_raw {pins : List (Addr × Obj)} {σ : L2.St} {H : Hp} {s : Shared} (I : Inv X pins σ H s) {t : Addr} {zs : List Str} (h : SqT X.K H t (zs.map V.str)) : TupT s.heap (.ref t) zs := by
  obtain ⟨its, rv, hT, _⟩ := I.tuple h
  exact ⟨t, its, rfl, hT, rv⟩
def rSortTT (K : PySem.W.Frag) : List V → Hp → VK → Prop := fun vs H Q => ∃ (a : Addr) (xs : List V) (R : List Str → Int) (key : V → List Str), vs = [V.ref a] ∧ SqL K H a xs ∧ xs.length < 64 ∧ (∀ x ∈ xs, TupS K H x (key x) ∧ key x ≠ []) ∧
  (∀ x ∈ xs, ∀ y ∈ xs, decide (R (key x) < R (key y)) = ltT (key x) (key y)) ∧
  ∀ (ys : List V) (p : Addr), ys.Perm xs → ys.Pairwise (fun x y => R (key x) ≤ R (key y)) → H p = none → Q (.ref p) (upd H p (.lst ys))
theorem cr_sortTT : CallR X (.builtin "sorted") (rSortTT X.K) := by
  intro pins s σ H vs us Q I r h
  obtain ⟨a, xs, R, key, rfl, hs, h64, hx, hR, q⟩ := h
  obtain ⟨its, rv, hl, hz⟩ := I.list hs
  rw [Vals.ref1 r]
  obtain ⟨e1, e2⟩ := bkV_refs rv fun x m => by
    obtain ⟨⟨t, e, _⟩, _⟩ := hx x m
    exact ⟨t, e⟩
  have back : ∀ v ∈ its, ∃ t, v = Value.ref t ∧ V.ref t ∈ xs := fun v hv => by
    obtain ⟨t, rfl⟩ := e2 v hv
    exact ⟨t, rfl, by rw [e1]; exact List.mem_map.mpr ⟨_, hv, rfl⟩⟩
  have raw : ∀ {t : Addr}, V.ref t ∈ xs → TupT s.heap (.ref t) (key (.ref t)) := fun {t} m => by
    obtain ⟨⟨t', e, k⟩, _⟩ := hx _ m
    cases e
    exact tupS_raw I k
  refine sorted_txts (R := R) hl.isList (by rw [← rv.length]; exact h64) (fun v hv => ?_) (fun v hv u hu zs ws k1 k2 => ?_) fun out h1 h2 => ?_
  · obtain ⟨t, rfl, m⟩ := back v hv
    have k := raw m
    cases e : key (.ref t) with
    | nil => exact absurd e (hx _ m).2
    | cons z zs => rw [e] at k; exact ⟨z, zs, k⟩
  · obtain ⟨t, rfl, m⟩ := back v hv
    obtain ⟨t', rfl, m'⟩ := back u hu
    rw [k1.eq (raw m), k2.eq (raw m')]
    exact hR _ m _ m'
  · obtain ⟨ep, he'⟩ := sortedAll_at s.heap its out
    have h3 : ∀ u ∈ out.toList, ∃ a, u = Value.ref a := fun u hu => e2 u (h1.mem_iff.mp hu)
    have hp : (out.toList.map bkV).Perm xs := by rw [e1]; exact h1.map bkV
    refine ⟨.ref _, _, I.laid (t' := s.toks) (o := .lst (out.toList.map bkV)) (fun _ _ => sortedAll_old) (Nat.le_succ _) ⟨by rw [hp.length_eq]; exact hz, out.toList, ep, bkV_vals h3, he'⟩, rfl, q _ _ hp ?_ (I.hok.fresh (Nat.le_succ _))⟩
    rw [List.pairwise_map]
    refine List.Pairwise.imp_of_mem (fun {u v} mu mv huv => ?_) h2
    obtain ⟨t, rfl, m⟩ := back u (h1.mem_iff.mp mu)
    obtain ⟨t', rfl, m'⟩ := back v (h1.mem_iff.mp mv)
    exact huv _ _ (raw m) (raw m')
end
end Rd
set_option maxHeartbeats 2000000
namespace Rd
open PySem PySem.Spec PyProof.Rows L2
/-! ## lambdas that stand in a list and are called later: the cells they hold are set fast while the call runs -/
/-- the objects at cs are known as they stand -/
def FzC (H : Hp) (cs : List Addr) : Prop := ∀ c ∈ cs, ∃ oc, H c = some (.frz oc (.own c))
/-- H without cs -/
def offC (H : Hp) (cs : List Addr) : Hp := fun b => if b ∈ cs then none else H b
/-- H' with what H has at cs -/
def mixC (H H' : Hp) (cs : List Addr) : Hp := fun b => if b ∈ cs then H b else H' b
section
variable {P : Program} {w : World} {H H' : Hp} {h h' B : Heap} {cs fs : List Addr} {b : Addr} {o : HO}
theorem offC_in (m : b ∈ cs) : offC H cs b = none := if_pos m
theorem offC_out (m : b ∉ cs) : offC H cs b = H b := if_neg m
theorem mixC_in (m : b ∈ cs) : mixC H H' cs b = H b := if_pos m
theorem mixC_out (m : b ∉ cs) : mixC H H' cs b = H' b := if_neg m
theorem FzC.noOwn (z : FzC H cs) {y : Addr} (e : H b = some (.own y)) : b ∉ cs := fun m => by
  obtain ⟨oc, q⟩ := z b m
  rw [e] at q
  cases q
theorem FzC.noTup (z : FzC H cs) {xs : List V} (e : H b = some (.tup xs)) : b ∉ cs := fun m => by
  obtain ⟨oc, q⟩ := z b m
  rw [e] at q
  cases q
theorem FzC.noTbl (z : FzC H cs) {ps : Array Value} (e : H b = some (.tbl ps)) : b ∉ cs := fun m => by
  obtain ⟨oc, q⟩ := z b m
  rw [e] at q
  cases q
theorem FzC.noFree (z : FzC H cs) (e : H b = none) : b ∉ cs := fun m => by
  obtain ⟨oc, q⟩ := z b m
  rw [e] at q
  cases q
/-- forgetting them -/
theorem hok_off (x : HOk P w H h) (z : FzC H cs) : HOk P w (offC H cs) h := fun a o e => by
  by_cases m : a ∈ cs
  · rw [offC_in m] at e
    cases e
  · rw [offC_out m] at e
    refine (x a o e).stay (fun b u _ q => q) (fun b q => ?_) fun b xs q => ?_
    · rw [offC_out (z.noOwn q)]; exact q
    · rw [offC_out (z.noTup q)]; exact q
/-- they are known again -/
theorem hok_mix (x : HOk P w H' h) (z : FzC H cs) (hn : ∀ c ∈ cs, H' c = none) (hg : ∀ c ∈ cs, ∀ oc u, H c = some (.frz oc u) → h.get? c = some oc) : HOk P w (mixC H H' cs) h := fun a o e => by
  by_cases m : a ∈ cs
  · rw [mixC_in m] at e
    obtain ⟨oc, q⟩ := z a m
    rw [q] at e
    cases e
    have g := hg a m oc _ q
    exact ⟨g, oc, g⟩
  · rw [mixC_out m] at e
    refine (x a o e).stay (fun b u _ q => q) (fun b q => ?_) fun b xs q => ?_
    · rw [mixC_out (fun k => by rw [hn b k] at q; cases q)]; exact q
    · rw [mixC_out (fun k => by rw [hn b k] at q; cases q)]; exact q
/-- a call that ran without them, told with them -/
theorem un_mix (u : Un fs [] (offC H cs) H' h h') (z : FzC H cs) : Un fs [] H (mixC H H' cs) h h' where
  keep := fun b o q n hb hx => u.keep b o q (by rw [offC_out (z.noFree n)]; exact n) hb hx
  slot := fun b o q n hb hx => u.slot b o q (by rw [offC_out (z.noFree n)]; exact n) hb hx
  free := fun b o q n hx => by
    rw [mixC_out (z.noFree n)]
    exact u.free b o q (by rw [offC_out (z.noFree n)]; exact n) hx
  there := fun b o q hx => u.there b o q hx
  tups := fun b xs q => by
    rw [mixC_out (z.noTup q)]
    exact u.tups b xs (by rw [offC_out (z.noTup q)]; exact q)
  frzs := fun b o xs q => by
    by_cases m : b ∈ cs
    · rw [mixC_in m]; exact q
    · rw [mixC_out m]
      exact u.frzs b o xs (by rw [offC_out m]; exact q)
  tbls := fun b ps q => by
    rw [mixC_out (z.noTbl q)]
    exact u.tbls b ps (by rw [offC_out (z.noTbl q)]; exact q)
theorem ub_mix (u : UB fs (offC H cs) H' h B h') (z : FzC H cs) : UB fs H (mixC H H' cs) h B h' where
  keep := fun b o q n hb => u.keep b o q (by rw [offC_out (z.noFree n)]; exact n) hb
  slot := fun b o q hb => u.slot b o q hb
  free := fun b o q n => by
    rw [mixC_out (z.noFree n)]
    exact u.free b o q (by rw [offC_out (z.noFree n)]; exact n)
  there := fun b o q hb => u.there b o q hb
  tups := fun b xs q => by
    rw [mixC_out (z.noTup q)]
    exact u.tups b xs (by rw [offC_out (z.noTup q)]; exact q)
  frzs := fun b o xs q => by
    by_cases m : b ∈ cs
    · rw [mixC_in m]; exact q
    · rw [mixC_out m]
      exact u.frzs b o xs (by rw [offC_out m]; exact q)
  tbls := fun b ps q => by
    rw [mixC_out (z.noTbl q)]
    exact u.tbls b ps (by rw [offC_out (z.noTbl q)]; exact q)
/-- from the caller's side: Hz is H with cs known beside -/
structure FzOf (H Hz : Hp) (cs : List Addr) : Prop where
  out : ∀ b, b ∉ cs → Hz b = H b
  non : ∀ c ∈ cs, H c = none
  fz : FzC Hz cs
theorem un_off {Hz : Hp} (u : Un fs [] Hz H' h h') (f : FzOf H Hz cs) (ok : HOk P w Hz h) (ok' : HOk P w H' h') : Un fs [] H (offC H' cs) h h' where
  keep := fun b o q n hb hx => by
    by_cases m : b ∈ cs
    · obtain ⟨oc, e⟩ := f.fz b m
      obtain ⟨g, _⟩ := ok b _ e
      obtain ⟨g', _⟩ := ok' b _ (u.frzs b _ _ e)
      rw [q] at g
      cases g
      exact g'
    · exact u.keep b o q (by rw [f.out b m]; exact n) hb hx
  slot := fun b o q n hb hx => by
    by_cases m : b ∈ cs
    · obtain ⟨oc, e⟩ := f.fz b m
      obtain ⟨g, _⟩ := ok b _ e
      obtain ⟨g', _⟩ := ok' b _ (u.frzs b _ _ e)
      rw [q] at g
      cases g
      exact ⟨o.slots, g'⟩
    · exact u.slot b o q (by rw [f.out b m]; exact n) hb hx
  free := fun b o q n hx => by
    by_cases m : b ∈ cs
    · exact offC_in m
    · rw [offC_out m]
      exact u.free b o q (by rw [f.out b m]; exact n) hx
  there := fun b o q hx => u.there b o q hx
  tups := fun b xs q => by
    have m : b ∉ cs := fun m => by rw [f.non b m] at q; cases q
    rw [offC_out m]
    exact u.tups b xs (by rw [f.out b m]; exact q)
  frzs := fun b o xs q => by
    have m : b ∉ cs := fun m => by rw [f.non b m] at q; cases q
    rw [offC_out m]
    exact u.frzs b o xs (by rw [f.out b m]; exact q)
  tbls := fun b ps q => by
    have m : b ∉ cs := fun m => by rw [f.non b m] at q; cases q
    rw [offC_out m]
    exact u.tbls b ps (by rw [f.out b m]; exact q)
/-- ahead of the call: the cells at cs are set fast as the heap has them -/
def onC (H : Hp) (h : Heap) (cs : List Addr) : Hp := fun b => if b ∈ cs then (h.get? b).map (fun o => .frz o (.own b)) else H b
theorem onC_of (hn : ∀ c ∈ cs, H c = none) (hg : ∀ c ∈ cs, ∃ o, h.get? c = some o) : FzOf H (onC H h cs) cs :=
  ⟨fun b m => if_neg m, hn, fun c m => by
    obtain ⟨o, e⟩ := hg c m
    exact ⟨o, by unfold onC; rw [if_pos m, e]; rfl⟩⟩
theorem onC_at {c : Addr} {o : Obj} (m : c ∈ cs) (e : h.get? c = some o) : onC H h cs c = some (.frz o (.own c)) := by
  unfold onC
  rw [if_pos m, e]
  rfl
theorem hok_on (x : HOk P w H h) (hn : ∀ c ∈ cs, H c = none) (hg : ∀ c ∈ cs, ∃ o, h.get? c = some o) : HOk P w (onC H h cs) h := fun a o e => by
  by_cases m : a ∈ cs
  · obtain ⟨oc, q⟩ := hg a m
    rw [onC_at m q] at e
    cases e
    exact ⟨q, oc, q⟩
  · have e' : H a = some o := by rw [← e]; exact (if_neg m).symm
    have out : ∀ {b u}, H b = some u → onC H h cs b = some u := fun {b u} q => by
      rw [← q]
      exact if_neg fun k => by rw [hn b k] at q; cases q
    exact (x a o e').stay (fun b u _ q => q) (fun b q => out q) fun b xs q => out q
end
/-- what a lambda promises in every state that keeps what is known: called with nothing -/
def Keeps (H H' : Hp) : Prop := (∀ a o u, H a = some (.frz o u) → H' a = some (.frz o u)) ∧ ∀ a xs, H a = some (.tup xs) → H' a = some (.tup xs)
theorem Keeps.refl {H : Hp} : Keeps H H := ⟨fun _ _ _ e => e, fun _ _ e => e⟩
theorem Keeps.trans {H H1 H2 : Hp} (a : Keeps H H1) (b : Keeps H1 H2) : Keeps H H2 := ⟨fun c o u e => b.1 c o u (a.1 c o u e), fun c xs e => b.2 c xs (a.2 c xs e)⟩
theorem Keeps.same {H H' : Hp} (s : ∀ a o, H a = some o → H' a = some o) : Keeps H H' := ⟨fun a _ _ e => s a _ e, fun a _ e => s a _ e⟩
def Act (P : Program) (w : World) (K : PySem.W.Frag) (mg : Str → Option Value) (base : Heap) (k : Nat) (H : Hp) (f : Addr) (spf : Hp → VK → XK → Prop) : Prop :=
  ∀ (A : Around) (outer : List Env) (s : Shared) (H' : Hp) (Q : VK) (E : XK), Keeps H H' → Room k A → Env0 P w K mg base A outer s H' → spf H' Q E → codeAny (model P w) A (.call (.ref f) ⟨[], []⟩) (CR (L2N.CX P w) outer P w H' s Q E) s
theorem Act.mono {P : Program} {w : World} {K : PySem.W.Frag} {mg : Str → Option Value} {base : Heap} {k : Nat} {H H1 : Hp} {f : Addr} {spf : Hp → VK → XK → Prop} (a : Act P w K mg base k H f spf) (e : Keeps H H1) : Act P w K mg base k H1 f spf :=
  fun A outer s H' Q E e' hr e0 h => a A outer s H' Q E (e.trans e') hr e0 h
theorem Act.le {P : Program} {w : World} {K : PySem.W.Frag} {mg : Str → Option Value} {base : Heap} {k j : Nat} {H : Hp} {f : Addr} {spf : Hp → VK → XK → Prop} (a : Act P w K mg base k H f spf) (e : k ≤ j) : Act P w K mg base j H f spf :=
  fun A outer s H' Q E e' hr e0 h => a A outer s H' Q E e' (hr.mono e) e0 h
end Rd
set_option maxHeartbeats 2000000
namespace Rd
open PySem PySem.Spec PyProof.Rows L2
/-! ## a lambda is made: its code object and itself are known from then on -/
/-- a code object of the name q, known -/
def CodeF (q : Str) (c : Addr) (u : HO) : Prop := ∃ (oc : Obj) (vs : Array Value) (t : Tok), u = .frz oc (.own c) ∧ oc.data = .fields vs ∧ vs[1]? = some (.str q t)
/-- the maker's table: every code object in it is known -/
def TabF (H : Hp) (P : Addr) (q : Str) : Prop := ∃ ps : Array Value, H P = some (.tbl ps) ∧ TriplesOk ps.toList ∧ ∀ (pos : Pos) (cv : Value), codeAmong pos ps.toList = some cv → ∃ c u, cv = .ref c ∧ H c = some u ∧ CodeF q c u
/-- all but tables stay -/
def KeepT (H H' : Hp) : Prop := ∀ b o, H b = some o → (∀ ps, o ≠ .tbl ps) → H' b = some o
theorem KeepT.refl {H : Hp} : KeepT H H := fun _ _ e _ => e
theorem KeepT.trans {H H1 H2 : Hp} (a : KeepT H H1) (b : KeepT H1 H2) : KeepT H H2 := fun c o h n => b c o (a c o h n) n
theorem KeepT.keeps {H H' : Hp} (a : KeepT H H') : Keeps H H' := ⟨fun c o u e => a c _ e fun _ z => (by cases z), fun c xs e => a c _ e fun _ z => (by cases z)⟩
theorem TabF.same {H H' : Hp} {P : Addr} {q : Str} (t : TabF H P q) (s : ∀ a o, H a = some o → H' a = some o) : TabF H' P q := by
  obtain ⟨ps, e1, e2, e3⟩ := t
  exact ⟨ps, s _ _ e1, e2, fun pos cv h => let ⟨c, u, a1, a2, a3⟩ := e3 pos cv h; ⟨c, u, a1, s _ _ a2, a3⟩⟩
theorem TabF.nil {H : Hp} {P : Addr} {q : Str} (h : H P = some (.tbl #[])) : TabF H P q := ⟨#[], h, True.intro, fun pos cv hc => by
  rw [show (#[] : Array Value).toList = [] from rfl] at hc
  simp [codeAmong] at hc⟩
theorem CodeF.ne {q : Str} {c : Addr} {u : HO} (h : CodeF q c u) (ps : Array Value) : u ≠ .tbl ps := fun z => by
  obtain ⟨oc, vs, t, e, _⟩ := h
  rw [e] at z
  cases z
section
variable {X : Cx} {pins : List (Addr × Obj)} {σ : L2.St} {H : Hp} {s : Shared}
/-- the table's object is written, the new code object is known -/
theorem inv_tabF {P c : Addr} {oc : Obj} {ps more : Array Value} {h' : Heap} {t' : Nat} (I : Inv X pins σ H s) (hP : H P = some (.tbl ps))
    (kp : ∀ b o, b ≠ P → s.heap.get? b = some o → h'.get? b = some o) (hm : h'.get? P = some { cls := .none, data := .fields (ps ++ more) }) (hc : s.heap.objs.size ≤ c) (ho : h'.get? c = some oc) :
    Inv X pins σ (upd (upd H P (.tbl (ps ++ more))) c (.frz oc (.own c))) { s with heap := h', toks := t' } := by
  have cN : H c = none := I.hok.fresh hc
  have pC : P ≠ c := ne_of_none hP cN
  have look : ∀ b, b ≠ P → b ≠ c → upd (upd H P (.tbl (ps ++ more))) c (.frz oc (.own c)) b = H b := fun b n1 n2 => by rw [upd_ne n2, upd_ne n1]
  have lookP : upd (upd H P (.tbl (ps ++ more))) c (.frz oc (.own c)) P = some (.tbl (ps ++ more)) := by rw [upd_ne pC, upd_same]
  have notP : ∀ b u, H b = some u → (∀ r, u ≠ .tbl r) → b ≠ P := fun b u e n z => by
    subst z
    rw [hP] at e
    exact n ps (Option.some.inj e).symm
  have freeP : ∀ b, H b = none → b ≠ P := fun b e z => by
    subst z
    rw [hP] at e
    cases e
  have oldC : ∀ b o, s.heap.get? b = some o → b ≠ c := fun b o e z => by
    subst z
    exact Nat.lt_irrefl _ (Nat.lt_of_lt_of_le (Heap.lt_size e) hc)
  have hadC : ∀ b u, H b = some u → b ≠ c := fun b u e => ne_of_none e cN
  refine I.step (g' := s.gens) (d' := s.drawn) (ch := []) ?_ ?_ ?_ ?_ ?_ ?_ ?_ ?_ ?_ ?_ I.bare
  · exact fun b hb => absurd hb (by simp)
  · exact fun b o _ _ _ e n => kp b o (freeP b n) e
  · exact fun b o _ _ _ e n => ⟨o.slots, kp b o (freeP b n) e⟩
  · exact fun b o _ e n => by rw [look b (freeP b n) (oldC b o e)]; exact n
  · intro b o _ e
    by_cases hb : b = P
    · rw [hb]; exact ⟨_, hm⟩
    · exact ⟨o, kp b o hb e⟩
  · exact fun b xs e => by rw [look b (notP b _ e fun r z => by cases z) (hadC b _ e)]; exact e
  · exact fun b o u e => by rw [look b (notP b _ e fun r z => by cases z) (hadC b _ e)]; exact e
  · intro b qs e
    by_cases hb : b = P
    · subst hb
      rw [hP] at e
      cases e
      exact ⟨more, lookP⟩
    · exact ⟨#[], by rw [look b hb (hadC b _ e), e]; simp⟩
  · intro m hn
    obtain ⟨ob, es, ep, e, r⟩ := hn
    exact ⟨ob, es, ep, kp _ ob (freeP _ I.free) e, r⟩
  · intro b u e
    by_cases hb : b = c
    · subst hb
      rw [upd_same] at e
      cases e
      exact ⟨ho, oc, ho⟩
    · by_cases hb2 : b = P
      · subst hb2
        rw [lookP] at e
        cases e
        exact hm
      · rw [look b hb2 hb] at e
        refine (I.hok b u e).stay (fun d v hd r => kp d v ?_ r) (fun d r => by rw [look d (notP d _ r fun _ z => by cases z) (hadC d _ r)]; exact r) fun d xs r => by rw [look d (notP d _ r fun _ z => by cases z) (hadC d _ r)]; exact r
        rcases hd with z | z
        · rw [z]; exact hb2
        · exact notP d _ z fun _ z => by cases z
theorem amongF {pos p' : Pos} {c cv : Value} : ∀ (l : List Value), TriplesOk l → codeAmong p' (l ++ [rawInt pos.line, rawInt pos.col, c]) = some cv → codeAmong p' l = some cv ∨ cv = c := fun l a b => LamX.among_app l a b
/-- a lambda as it stands: the table and the code object, the defaults' tuple -/
def LamAt (H : Hp) (f : Addr) (q : Str) (params : Arguments) (body : Expr) (scope : Scope) (cl : List (Str × Addr)) (ds : List V) : Prop :=
  ∃ (dV doc pm : Value) (c' : Addr) (ctv : Value) (u : HO), H f = some (.frz (PySem.W.kdv_obj "<lambda>" q params (.expr body) scope cl dV doc pm c' ctv) (.own f)) ∧ H c' = some u ∧ CodeF q c' u ∧
    ((ds = [] ∧ dV = .none) ∨ (ds ≠ [] ∧ ∃ T, dV = .ref T ∧ H T = some (.tup ds)))
theorem LamAt.keep {H H' : Hp} {f : Addr} {q : Str} {params : Arguments} {body : Expr} {scope : Scope} {cl : List (Str × Addr)} {ds : List V} (a : LamAt H f q params body scope cl ds) (k : Keeps H H') : LamAt H' f q params body scope cl ds := by
  obtain ⟨dV, doc, pm, c', ctv, u, h1, h2, h3, h4⟩ := a
  obtain ⟨oc, vs, t, e, h5, h6⟩ := h3
  subst e
  refine ⟨dV, doc, pm, c', ctv, _, k.1 _ _ _ h1, k.1 _ _ _ h2, ⟨oc, vs, t, rfl, h5, h6⟩, ?_⟩
  rcases h4 with h4 | ⟨n, T, e, h⟩
  · exact .inl h4
  · exact .inr ⟨n, T, e, k.2 _ _ h⟩
/-- behind the defaults: the tail of the making -/
theorem lam_tail {P c : Addr} {params : Arguments} {body : Expr} {scope : Scope} {pos : Pos} {dV : Value} {ds : List V} {E : Value → Shared → Prop} {Q : Value → Shared → Prop} (I : Inv X pins σ H s) (TB : LamX.TabB X.base X.mg c P) (hcode : X.env.code = .ref c)
    (hT : TabF H P (X.env.qual ++ "<lambda>")) (hfree : ∀ y ∈ scope.names, y.2 = .free → ∃ c, X.env.cells.lookup y.1 = some c) (hd : (ds = [] ∧ dV = .none) ∨ (ds ≠ [] ∧ ∃ T, dV = .ref T ∧ H T = some (.tup ds)))
    (h : ∀ (f : Addr) (H1 : Hp) (s' : Shared), Inv X pins σ H1 s' → KeepT H H1 → TabF H1 P (X.env.qual ++ "<lambda>") → H f = none → LamAt H1 f (X.env.qual ++ "<lambda>") params body scope (cloFrom X.env.cells scope.names []) ds → Q (.ref f) s') :
    wpAny (model X.prog X.w) X.A (makeTail "<lambda>" (X.env.qual ++ "<lambda>") params (.expr body) scope X.env dV .none none pos pos.line) Q E s := by
  obtain ⟨ps, hP, ht, ha⟩ := hT
  have bP : s.heap.BuiltinsAt X.mg P := TB.bm.keeps I.bk
  have gP : s.heap.get? P = some { cls := .none, data := .fields ps } := I.hok P _ hP
  cases hc : codeAmong pos ps.toList with
  | none =>
    refine PySem.W.kdv_makeTail (mg := X.mg) (c := c) (P := P) (ps := ps) (closure_ok hfree) I.ok.glob (I.mod.glob.keeps I.bk) hcode (TB.code.keeps I.bk) gP ht hc TB.gP bP fun c' ctv doc h' tk hx hge hlt hrec htb => ?_
    obtain ⟨c2, oc, vs, t, e2, hoc, hdt, hv⟩ := hrec
    cases e2
    have hsz : s.heap.objs.size ≤ h'.objs.size := Nat.le_trans hge (Nat.le_of_lt hlt)
    have cN : H c' = none := I.hok.fresh hge
    have I1 := inv_tabF (t' := tk) (more := #[rawInt pos.line, rawInt pos.col, .ref c']) (h' := h') I hP hx htb hge hoc
    have kT : KeepT H (upd (upd H P (.tbl (ps ++ #[rawInt pos.line, rawInt pos.col, .ref c']))) c' (.frz oc (.own c'))) := fun b o e n => by
      rw [upd_ne (ne_of_none e cN), upd_ne fun z => by subst z; rw [hP] at e; exact n ps (Option.some.inj e).symm]
      exact e
    have tF : TabF (upd (upd H P (.tbl (ps ++ #[rawInt pos.line, rawInt pos.col, .ref c']))) c' (.frz oc (.own c'))) P (X.env.qual ++ "<lambda>") := by
      have eL : (ps ++ #[rawInt pos.line, rawInt pos.col, .ref c']).toList = ps.toList ++ [rawInt pos.line, rawInt pos.col, .ref c'] := by simp
      refine ⟨_, by rw [upd_ne (ne_of_none hP cN), upd_same], by rw [eL]; exact PySem.TriplesOk_snoc _ _ _ _ ht, fun p' cv hcv => ?_⟩
      rw [eL] at hcv
      rcases amongF _ ht hcv with z | z
      · obtain ⟨c0, u0, e1, e2, e3⟩ := ha p' cv z
        exact ⟨c0, u0, e1, kT _ _ e2 e3.ne, e3⟩
      · exact ⟨c', _, z, upd_same, oc, vs, t, rfl, hdt, hv⟩
    have fN : upd (upd H P (.tbl (ps ++ #[rawInt pos.line, rawInt pos.col, .ref c']))) c' (.frz oc (.own c')) h'.objs.size = none := by
      rw [upd_ne (Nat.ne_of_gt hlt), upd_ne (Nat.ne_of_gt (Nat.lt_of_lt_of_le (Heap.lt_size gP) hsz))]
      exact I.hok.fresh hsz
    have same1 := fun b o (e : upd (upd H P (.tbl (ps ++ #[rawInt pos.line, rawInt pos.col, .ref c']))) c' (.frz oc (.own c')) b = some o) => ne_of_none e fN
    have gN : (h'.push (PySem.W.kdv_obj "<lambda>" (X.env.qual ++ "<lambda>") params (.expr body) scope (cloFrom X.env.cells scope.names []) dV doc ((X.mg "__name__").getD .none) c' ctv)).get? h'.objs.size = some _ := Heap.get?_push_size _ rfl
    have I2 := I1.laid (t' := tk) (a := h'.objs.size) (o := .frz (PySem.W.kdv_obj "<lambda>" (X.env.qual ++ "<lambda>") params (.expr body) scope (cloFrom X.env.cells scope.names []) dV doc ((X.mg "__name__").getD .none) c' ctv) (.own h'.objs.size))
      (fun b u e => Heap.get?_push_of_some _ e) (Nat.le_refl _) ⟨gN, _, gN⟩
    refine h h'.objs.size _ _ I2 (kT.trans fun b o e _ => by rw [upd_ne (same1 b o e)]; exact e) (tF.same fun b o e => by rw [upd_ne (same1 b o e)]; exact e) (I.hok.fresh hsz)
      ⟨dV, doc, _, c', ctv, _, upd_same, by rw [upd_ne (Nat.ne_of_lt hlt), upd_same], ⟨oc, vs, t, rfl, hdt, hv⟩, ?_⟩
    rcases hd with hd | ⟨n, T, e, hT⟩
    · exact .inl hd
    · have e1 := kT _ _ hT fun _ z => by cases z
      exact .inr ⟨n, T, e, by rw [upd_ne (same1 _ _ e1)]; exact e1⟩
  | some cv =>
    obtain ⟨c', u', e, hu, hco⟩ := ha pos cv hc
    subst e
    refine PySem.W.kdv_makeTailHit (mg := X.mg) (c := c) (P := P) (ps := ps) (closure_ok hfree) I.ok.glob (I.mod.glob.keeps I.bk) hcode (TB.code.keeps I.bk) gP ht hc bP fun ctv doc h' tk hx hsz => ?_
    have I1 : Inv X pins σ H { s with heap := h', toks := tk } := I.kept hx
    have fN : H h'.objs.size = none := I.hok.fresh hsz
    have gN : (h'.push (PySem.W.kdv_obj "<lambda>" (X.env.qual ++ "<lambda>") params (.expr body) scope (cloFrom X.env.cells scope.names []) dV doc ((X.mg "__name__").getD .none) c' ctv)).get? h'.objs.size = some _ := Heap.get?_push_size _ rfl
    have I2 := I1.laid (t' := tk) (a := h'.objs.size) (o := .frz (PySem.W.kdv_obj "<lambda>" (X.env.qual ++ "<lambda>") params (.expr body) scope (cloFrom X.env.cells scope.names []) dV doc ((X.mg "__name__").getD .none) c' ctv) (.own h'.objs.size))
      (fun b u e => Heap.get?_push_of_some _ e) (Nat.le_refl _) ⟨gN, _, gN⟩
    have same1 : ∀ b o, H b = some o → upd H h'.objs.size (.frz (PySem.W.kdv_obj "<lambda>" (X.env.qual ++ "<lambda>") params (.expr body) scope (cloFrom X.env.cells scope.names []) dV doc ((X.mg "__name__").getD .none) c' ctv) (.own h'.objs.size)) b = some o := fun b o e => by
      rw [upd_ne (ne_of_none e fN)]; exact e
    refine h h'.objs.size _ _ I2 (fun b o e _ => same1 b o e) (TabF.same ⟨ps, hP, ht, ha⟩ same1) fN ⟨dV, doc, _, c', ctv, u', upd_same, same1 _ _ hu, hco, ?_⟩
    rcases hd with hd | ⟨n, T, e, hT⟩
    · exact .inl hd
    · exact .inr ⟨n, T, e, same1 _ _ hT⟩
end
/-- lambda: e, without parameters -/
def tLam0 (P : Addr) (q : Str) (params : Arguments) (body : Expr) (scope : Scope) (cl : List (Str × Addr)) : TE := fun _ H Q => TabF H P q ∧ ∀ (f : Addr) (H1 : Hp), KeepT H H1 → TabF H1 P q → H f = none → LamAt H1 f q params body scope cl [] → Q (.ref f) H1
/-- lambda x = i: e -/
def tLam1 (P : Addr) (q : Str) (params : Arguments) (body : Expr) (scope : Scope) (cl : List (Str × Addr)) (i : Int) : TE := fun _ H Q => TabF H P q ∧ ∀ (f : Addr) (H1 : Hp), KeepT H H1 → TabF H1 P q → H f = none → LamAt H1 f q params body scope cl [.int i] → Q (.ref f) H1
section
variable {X : Cx} {P c : Addr} {params : Arguments} {body : Expr} {scope : Scope} {pos dpos : Pos} {i : Int} {j : Nat}
theorem pe_lam0 (TB : LamX.TabB X.base X.mg c P) (hcode : X.env.code = .ref c) (hfree : X.Ok → ∀ y ∈ scope.names, y.2 = .free → ∃ c, X.env.cells.lookup y.1 = some c) (hdef : defaultsOf params X.env = ([], []) := by rfl) :
    PE X (.Lambda params body scope pos) (tLam0 P (X.env.qual ++ "<lambda>") params body scope (cloFrom X.env.cells scope.names [])) := by
  refine ⟨fun pins s σ H Q I h => ?_⟩
  obtain ⟨hT, h⟩ := h
  refine PySem.W.kla_eval hdef ?_
  rw [makeFunction_eq]
  simp only [List.zip_nil_right, List.filterMap_nil, List.isEmpty_nil, if_true, pure_bind]
  exact lam_tail I TB hcode hT (hfree I.ok) (.inl ⟨rfl, rfl⟩) fun f H1 s' I1 k1 t1 n1 l1 => ⟨.ref f, H1, I1, rfl, h f H1 k1 t1 n1 l1⟩
theorem pe_lam1 (TB : LamX.TabB X.base X.mg c P) (hcode : X.env.code = .ref c) (hfree : X.Ok → ∀ y ∈ scope.names, y.2 = .free → ∃ c, X.env.cells.lookup y.1 = some c) (hd : params.defaults = [.Constant (.int i) j dpos] := by rfl) (hk : params.kw_defaults = [] := by rfl) :
    PE X (.Lambda params body scope pos) (tLam1 P (X.env.qual ++ "<lambda>") params body scope (cloFrom X.env.cells scope.names []) i) := by
  refine ⟨fun pins s σ H Q I h => ?_⟩
  obtain ⟨hT, h⟩ := h
  refine PySem.W.kdv_lam (by rw [hd]; rfl) hk ?_
  rw [hd]
  refine PySem.W.kdv_all1 (thn ((pe_int (X := X) (i := i) (j := j) (pos := dpos)).run pins s σ H (fun v H1 => v = .int i ∧ H1 = H) I ⟨rfl, rfl⟩) fun u s1 ⟨v, H1, I1, r1, e1, e2⟩ => ?_)
  subst e1
  rw [e2] at I1
  refine PySem.W.kdv_all0 ?_
  rw [makeFunction_eq]
  simp only [List.zip_nil_right, List.filterMap_nil, List.isEmpty_nil, if_true, pure_bind, List.isEmpty_cons, Bool.false_eq_true, if_false]
  refine wpAny_bind (wpAny_newTextTuple ?_)
  have hN : H s1.heap.objs.size = none := I1.hok.fresh (Nat.le_refl _)
  have I2 := I1.laid (t' := s1.toks) (a := s1.heap.objs.size) (o := .tup [.int i]) (h' := s1.heap.push (PySem.W.kdv_tup [u])) (fun b u e => Heap.get?_push_of_some _ e) (Nat.le_refl _)
    ⟨by show 1 ≤ sizeLine; decide, [u], .cons r1 .nil, ⟨_, Heap.get?_push_size _ rfl, rfl, _, rfl⟩⟩
  have s1k : ∀ b o, H b = some o → upd H s1.heap.objs.size (.tup [.int i]) b = some o := fun b o e => by rw [upd_ne (ne_of_none e hN)]; exact e
  exact lam_tail I2 TB hcode (hT.same s1k) (hfree I2.ok) (.inr ⟨by simp, _, rfl, upd_same⟩) fun f H1 s' I3 k1 t1 n1 l1 => ⟨.ref f, H1, I3, rfl, h f H1 (fun b o e n => k1 b o (s1k b o e) n) t1 (by
    cases e : H f with
    | none => rfl
    | some o => rw [s1k _ _ e] at n1; cases n1) l1⟩
end
end Rd
set_option maxHeartbeats 2000000
namespace Rd
open PySem PySem.Spec PyProof.Rows L2
/-! ## a lambda's body runs where the lambda is called -/
abbrev lEnv (q : Str) (scope : Scope) (L f c' : Addr) (cl : List (Str × Addr)) : Env := PySem.W.envX q scope L f (.ref c') cl
def lCx (P : Program) (w : World) (K : PySem.W.Frag) (mg : Str → Option Value) (base : Heap) (N : List Str) (q : Str) (scope : Scope) (cl : List (Str × Addr)) (f c' : Addr) (A : Around) (outer : List Env) (s : Shared) (H : Hp) (E : XK) : Cx where
  prog := P
  w := w
  K := K
  mg := mg
  base := base
  A := A.deeper (lEnv q scope s.heap.objs.size f c' cl)
  N := N
  s_0 := s
  H_0 := H
  env := lEnv q scope s.heap.objs.size f c' cl
  outer := outer
  stack := lEnv q scope s.heap.objs.size f c' cl :: outer
  ex := []
  fn := fun _ => false
  calm := true
  pn := []
  xe := fun e s' => wpAny (model P w) (A.deeper (lEnv q scope s.heap.objs.size f c' cl)) (leaving (lEnv q scope s.heap.objs.size f c' cl) e) (fun _ s'' => L2N.CX P w outer H s E e s'') (fun e' s'' => L2N.CX P w outer H s E e' s'') s'
/-- the lambda's names: captured ones and globals, and parameters that nothing reads -/
structure LScope (N ps : List Str) (scope : Scope) : Prop where
  kind : scope.kind = .function
  co : scope.isCoroutine = false
  gen : scope.isGenerator = false
  nocell : ∀ y ∈ scope.names, y.2 ≠ .cell
  noloc : ∀ y ∈ scope.names, y.2 = .local → y.1 ∉ N
  par : ∀ x ∈ ps, scope.names.lookup x = some .local
theorem frz_get {P : Program} {w : World} {H : Hp} {h : Heap} {a : Addr} {o : Obj} {u : HO} (ok : HOk P w H h) (e : H a = some (.frz o u)) : h.get? a = some o := (ok a _ e).1
section
variable {P : Program} {w : World} {K : PySem.W.Frag} {mg : Str → Option Value} {base : Heap} {k : Nat} {H : Hp} {f : Addr} {q : Str} {params : Arguments} {body : Expr} {scope : Scope} {cl : List (Str × Addr)} {ds : List V} {N ps : List Str} {σ : L2.St} {tb : XK → TE} {spf : Hp → VK → XK → Prop}
theorem lam_act (hL : LamAt H f q params body scope cl ds) (S : LScope N ps scope) (inj : ∀ x y c, cl.lookup x = some c → cl.lookup y = some c → x = y) (has : ∀ y ∈ scope.names, y.2 = .free → ∃ c, cl.lookup y.1 = some c)
    (cell : ∀ p ∈ cl, ∃ oc v, H p.2 = some (.frz oc (.own p.2)) ∧ oc.data = .cell v)
    (val : ∀ (i : Nat) (x : Str) (v : V), N[i]? = some x → σ[i]? = some (some v) → scope.names.lookup x = some .free → ∃ c oc u, cl.lookup x = some c ∧ H c = some (.frz oc (.own c)) ∧ oc.data = .cell (some u) ∧ RelV v u)
    (hlen : σ.length = N.length)
    (hb0 : ds = [] → ps = [] ∧ ∀ doc pm cv ctv, bindArgs (PySem.W.kdv_fn "<lambda>" q params (.expr body) scope cl .none doc pm cv ctv) ⟨[], []⟩ = pure [])
    (hb1 : ds ≠ [] → ∀ (T : Addr) doc pm cv ctv (its : List Value), its.length = ds.length → ∃ kk, bindArgs (PySem.W.kdv_fn "<lambda>" q params (.expr body) scope cl (.ref T) doc pm cv ctv) ⟨[], []⟩ = seqItems? (.ref T) >>= kk ∧ kk (some its.toArray) = pure (ps.zip its))
    (hbody : ∀ (c' : Addr) (A : Around) (outer : List Env) (s : Shared) (H' : Hp) (E : XK), Room k (lCx P w K mg base N q scope cl f c' A outer s H' E).A → PE (lCx P w K mg base N q scope cl f c' A outer s H' E) body (tb E))
    (hsp : ∀ H' Q E, Keeps H H' → spf H' Q E → tb (fun cls d H2 => (∀ c ∈ cl.map (·.2), H2 c = none) → E cls d (mixC H' H2 (cl.map (·.2)))) σ (offC H' (cl.map (·.2))) (fun v H2 => (∀ c ∈ cl.map (·.2), H2 c = none) → Q v (mixC H' H2 (cl.map (·.2))))) :
    Act P w K mg base (k + 1) H f spf := by
  intro A outer s H' Q E kp hr e0 h
  have cell' : ∀ p ∈ cl, ∃ oc v, H' p.2 = some (.frz oc (.own p.2)) ∧ oc.data = .cell v := fun p hp => by
    obtain ⟨oc, v, e1, e2⟩ := cell p hp
    exact ⟨oc, v, kp.1 _ _ _ e1, e2⟩
  have fz : FzC H' (cl.map (·.2)) := fun c hc => by
    obtain ⟨p, hp, e⟩ := List.mem_map.mp hc
    subst e
    obtain ⟨oc, v, e1, _⟩ := cell' p hp
    exact ⟨oc, e1⟩
  obtain ⟨dV, doc, pm, c', ctv, u, h1, h2, ⟨oc, vs, t, eu, hdc, hvc⟩, h4⟩ := hL.keep kp
  subst eu
  have gf := frz_get e0.hok h1
  have gc := frz_get e0.hok h2
  have hm : ∀ b o, base.get? b = some o → s.heap.get? b = some o ∧ offC H' (cl.map (·.2)) b = none := fun b o e => ⟨(e0.bs b o e).1, by
    by_cases m : b ∈ cl.map (·.2)
    · exact offC_in m
    · rw [offC_out m]; exact (e0.bs b o e).2⟩
  have e1 : Env0 P w K mg base A outer s (offC H' (cl.map (·.2))) := ⟨e0.frames, e0.mod, hm, e0.bsz, e0.funs, fun b hb => by
    by_cases m : b ∈ cl.map (·.2)
    · exact offC_in m
    · rw [offC_out m]; exact e0.frf b hb, hok_off e0.hok fz, e0.bare⟩
  have lim : s.heap.NoLimit := e0.mod.nolimit.keeps fun b o e => (e0.bs b o e).1
  obtain ⟨us, hus, hbind⟩ : ∃ us : List Value, us.length = ds.length ∧ BindsTo s (PySem.W.kdv_fn "<lambda>" q params (.expr body) scope cl dV doc pm (.ref c') ctv) ⟨[], []⟩ (ps.zip us) := by
    rcases h4 with ⟨e, e2⟩ | ⟨hd, T, e, hT⟩
    · subst e2
      obtain ⟨p0, hb⟩ := hb0 e
      refine ⟨[], by rw [e]; rfl, ?_⟩
      rw [p0]
      exact .of_eq (hb _ _ _ _)
    · subst e
      obtain ⟨hz, its, rv, ob, eo, ec, n, ed⟩ := (show ObjOk P w H' s.heap T (.tup ds) from e0.hok T _ hT)
      obtain ⟨kk, k1, k2⟩ := hb1 hd T doc pm (.ref c') ctv its rv.length.symm
      exact ⟨its, rv.length.symm, .of_defaults rfl eo ed k1 k2⟩
  have hloc : ∀ y ∈ ps.zip us, scope.names.lookup y.1 = some .local := fun ⟨n, v⟩ hy => S.par n (List.of_mem_zip hy).1
  have main : codeAny (model P w) A (.call (.ref f) ⟨[], []⟩) (CR (L2N.CX P w) outer P w (offC H' (cl.map (·.2))) s (fun v H2 => (∀ c ∈ cl.map (·.2), H2 c = none) → Q v (mixC H' H2 (cl.map (·.2)))) (fun cls d H2 => (∀ c ∈ cl.map (·.2), H2 c = none) → E cls d (mixC H' H2 (cl.map (·.2))))) s := by
    refine PySem.W.kla_callFunE hr.depth gf rfl S.co S.gen rfl ⟨c', oc, vs, t, rfl, gc, hdc, hvc⟩ (hbind _ _ _ _ ?_)
    refine wpAny_newFunctionEnv S.nocell hloc (fun h₁ hns hsb => ⟨lim.fresh _ hsb, ?_⟩) S.kind
    show codeAny _ _ (.expr body (lEnv q scope s.heap.objs.size f c' cl)) _ _
    have kp1 : ∀ b o, s.heap.get? b = some o → h₁.get? b = some o := fun b o e => hsb.extBut b o (Nat.ne_of_lt (Heap.lt_size e)) (Heap.get?_push_of_some _ e)
    have J : Inv (lCx P w K mg base N q scope cl f c' A outer s (offC H' (cl.map (·.2))) (fun cls d H2 => (∀ c ∈ cl.map (·.2), H2 c = none) → E cls d (mixC H' H2 (cl.map (·.2))))) [] σ (offC H' (cl.map (·.2))) { s with heap := h₁, toks := s.toks + (ps.zip us).length } := by
      have noA : ∀ b : Addr, b ∉ (lCx P w K mg base N q scope cl f c' A outer s (offC H' (cl.map (·.2))) (fun cls d H2 => (∀ c ∈ cl.map (·.2), H2 c = none) → E cls d (mixC H' H2 (cl.map (·.2))))).ex := fun b z => absurd (show b ∈ ([] : List Addr) from z) (by simp)
      refine ⟨⟨e1.mod, S.kind, rfl, rfl, Nat.le_refl _, inj, fun y hy => ?_, fun y c z _ => ?_, fun _ => hr.hd, Around.frames_deeper e1.frames, .inr ⟨rfl, rfl⟩, fun b z => absurd z (noA b), e1.bs, e1.bsz, fun b _ _ => noA b, fun b z => absurd z (noA b), e1.funs, e1.frf⟩,
        rfl, e1.bare, Un.kept kp1, ⟨_, hns, fun i y v h1 h2 h3 => ?_⟩, fun y c e => ?_, e1.hok.fresh (Nat.le_refl _), fun y c e => ?_, fun q hq => absurd (show q ∈ ([] : List (Addr × Obj)) ++ [] from hq) (by simp), e1.hok.kept kp1, hlen⟩
      · have hy : scope.names.lookup y = some .cell ∨ scope.names.lookup y = some .free := hy
        rcases hy with hy | hy
        · exact absurd rfl (S.nocell _ (PySem.mem_of_lookup hy))
        · exact has _ (PySem.mem_of_lookup hy) rfl
      · have z : false = true := z
        cases z
      · have h3 : Vis scope y := h3
        rcases h3 with z | z | z
        · exact absurd (List.mem_of_getElem? h1) (S.noloc _ (PySem.mem_of_lookup z) rfl)
        · exact absurd rfl (S.nocell _ (PySem.mem_of_lookup z))
        · obtain ⟨c, oc, u, e2, e3, e4, e5⟩ := val i y v h1 h2 z
          exact ⟨u, e5, .inr ⟨.inr z, c, e2, oc, kp1 _ _ (frz_get e0.hok (kp.1 _ _ _ e3)), e4⟩⟩
      · have e : cl.lookup y = some c := e
        obtain ⟨oc, v, e2, e3⟩ := cell' _ (PySem.mem_of_lookup e)
        exact ⟨v, oc, kp1 _ _ (frz_get e0.hok e2), e3⟩
      · have e : cl.lookup y = some c := e
        exact offC_in (List.mem_map.mpr ⟨_, PySem.mem_of_lookup e, rfl⟩)
    refine PySem.W.kla_codeExpr (wpAny_mono ((hbody c' A outer s _ _ (hr.deeper _)).run [] _ _ _ _ J (hsp H' Q E kp h)) (fun v s' hq => ?_) fun e s' hq => hq)
    obtain ⟨w', H2, J2, rv, q⟩ := hq
    exact ⟨w', H2, J2.os, J2.bare, J2.base, J2.hok, rv, q⟩
  have nfr : ∀ c ∈ cl.map (·.2), c ∉ frs outer := fun c hc hf => by
    have z := e0.frf c hf
    obtain ⟨oc, e⟩ := fz c hc
    rw [e] at z
    cases z
  refine codeAny_mono main fun r s' hq => ?_
  cases r with
  | error e =>
    obtain ⟨a, B, H2, cls, d, ea, fl, hok, ub, na, os, ag, hE⟩ := hq
    have hg : ∀ c ∈ cl.map (·.2), ∀ oc u, H' c = some (.frz oc u) → B.get? c = some oc := fun c hc oc u e => ub.keep c oc (frz_get e0.hok e) (offC_in hc) (nfr c hc)
    have hn : ∀ c ∈ cl.map (·.2), H2 c = none := fun c hc => by
      obtain ⟨oc, e⟩ := fz c hc
      exact ub.free c oc (frz_get e0.hok e) (offC_in hc)
    refine ⟨a, B, _, cls, d, ea, fl, hok_mix hok fz hn hg, ub_mix ub fz, ?_, os, ag, hE hn⟩
    rw [mixC_out fun m => by
      obtain ⟨oc, e⟩ := fz a m
      have z := hg a m oc _ e
      rw [fl.2.1] at z
      cases z]
    exact na
  | ok fl =>
    cases fl with
    | ret u =>
      obtain ⟨v, H2, os, bare, un, hok, rv, qv⟩ := hq
      have hg : ∀ c ∈ cl.map (·.2), ∀ oc u, H' c = some (.frz oc u) → s'.heap.get? c = some oc := fun c hc oc u e => un.keep c oc (frz_get e0.hok e) (offC_in hc) (nfr c hc) (by simp)
      have hn : ∀ c ∈ cl.map (·.2), H2 c = none := fun c hc => by
        obtain ⟨oc, e⟩ := fz c hc
        exact un.free c oc (frz_get e0.hok e) (offC_in hc) (by simp)
      exact ⟨v, _, os, bare, un_mix un fz, hok_mix hok fz hn hg, rv, qv hn⟩
    | next => exact False.elim hq
    | brk => exact False.elim hq
    | cont => exact False.elim hq
end
end Rd
set_option maxHeartbeats 4000000
namespace L2N
open PySem PySem.Spec PyProof.Rows L2
/-! ## except (A, B, C) as n -/
theorem flying_push {B h : Heap} {l : List Env} {a : Addr} {Z : Obj → Prop} (x : HandSPX.FlyingZ B l a Z h) (o : Obj) : HandSPX.FlyingZ B l a Z (h.push o) := by
  obtain ⟨k1, k2, k3, oe, vs, T, oT, ts, he, hz, hd, h1, hb, hne, hT, hTd, h3⟩ := x
  have kp : ∀ b u, h.get? b = some u → (h.push o).get? b = some u := fun b u e => Heap.get?_push_of_some _ e
  exact ⟨fun b u e => kp b u (k1 b u e), k2, k3.of_keeps fun b u e _ => ⟨u, kp b u e, rfl⟩, oe, vs, T, oT, ts, kp _ _ he, hz, hd, h1, hb, hne, kp _ _ hT, hTd, h3⟩
def wTup (K : PySem.W.Frag) (cs : List Value) (i : Nat) (ts : Addr → Value → Option Addr → TS) (Wout : WX) (D : Ends) : WX := fun cls d σ H =>
  ∃ b, PySem.W.exmAny K cls cs = some b ∧ (b = true → ∀ a, H a = none → ts a cls d { nx := fun σ' H' => D.nx (σ'.set i none) H', rt := D.rt, bk := fun σ' H' => D.bk (σ'.set i none) H', ct := fun σ' H' => D.ct (σ'.set i none) H' } (σ.set i (some (.ref a))) H) ∧
    (b = false → Wout cls d σ H)
section
variable {X : Cx} {x1 x2 x3 n : Str} {c1 c2 c3 : Value} {i kk : Nat} {body suite : List Stmt} {b₀ : Stmt} {p1 p2 p3 tpos pos pos' : Pos} {tb : WX → TS} {ts : Addr → Value → Option Addr → TS} {Wout : WX}
theorem ps_try_tup3 (hs : X.stack = X.env :: X.outer) (hf : X.env.frame = some X.env.locals) (hN : X.N.Nodup) (hi : X.N[i]? = some n) (hln : X.env.kindOf n = some .local) (n1 : Names X x1 c1) (n2 : Names X x2 c2) (n3 : Names X x3 c3) (tk : Takes X Wout)
    (hb : ∀ (W : WX) (pn : List (Addr × Obj)) (xe : Value → Shared → Prop), Takes (X.tr pn xe) W → PassesOwn (model X.prog X.w) X.A X.env xe → PSs (X.tr pn xe) body (tb W))
    (hsu : ∀ (a : Addr) (oe : Obj) (cls : Value) (d : Option Addr) (pn : List (Addr × Obj)), Zn cls d oe → (∃ vs, oe.data = .fields vs) → X.base.get? a = none → PSs (X.suite a ((a, oe) :: pn)) (b₀ :: suite) (ts a cls d)) :
    PS X (.Try body [.ExceptHandler (some (.Tuple [.Name x1 p1, .Name x2 p2, .Name x3 p3] kk tpos)) (some n) (b₀ :: suite) pos'] [] [] pos) (fun D σ H => tb (wTup X.K [c1, c2, c3] i ts Wout D) D σ H) := by
  refine ⟨fun pins s σ H D I h => ?_⟩
  have ok := I.ok
  have hfr : X.A.frames = some (X.env :: X.outer) := by rw [ok.frames, hs]
  have hloc : Loc X.env.scope n := .inl hln
  refine wpAny_Try_except ?_
  refine wpAny_mono ((hb (wTup X.K [c1, c2, c3] i ts Wout D) (X.pn ++ pins) (fun e s₁ => wpAny (model X.prog X.w) X.A (noteFrame e X.env) (fun _ s₂ => wpAny (model X.prog X.w) X.A (setFlight e none) (fun _ s₃ =>
    wpAny (model X.prog X.w) X.A (handleBy e X.env [.ExceptHandler (some (.Tuple [.Name x1 p1, .Name x2 p2, .Name x3 p3] kk tpos)) (some n) (b₀ :: suite) pos']) (SP X pins D) X.xe s₃) X.xe s₂) X.xe s₁) (fun u s' xx => ?_) PassesOwn.looking).run [] s σ H D (I.toTry _) h) (fun f s1 hsp => ?_) (fun e s1 he => he)
  · obtain ⟨a, B, sI, pins', σ', H', cls, d, rfl, J', nb, up, sky, na, os, ag, b, hb1, hyes, hno⟩ := xx
    have J : Inv X pins σ' H' sI := J'.ofTry ok
    have sky' : Sky B (X.env :: X.outer) a (Zn cls d) X.env.locals s'.heap := by rw [← hs]; exact sky
    show wpAny (model X.prog X.w) X.A (noteFrame (.ref a) X.env) _ _ _
    refine Sky.land Zn.steady hfr hf sky' fun h3 fl3 up3 => ?_
    have J3 : Inv X pins σ' H' { s' with heap := h3 } := J.landed nb fl3.1 (up.trans up3) os ag
    obtain ⟨oe3, vs3, he3, hz3, hd3⟩ := fl3.there
    have notFr : ∀ {h : Heap} {o : Obj} {vs : Array Value}, h.FunFrames B (X.env :: X.outer) → h.get? a = some o → o.data = .fields vs → a ∉ frs (X.env :: X.outer) := fun {h o vs} ff e dd hm => by
      obtain ⟨_, o', e', hnf⟩ := ff.mem hm
      rw [e] at e'; cases e'
      exact hnf _ dd
    have nfr := notFr fl3.2.2.1 he3 hd3
    have nL : a ≠ X.env.locals := fun z => nfr (List.mem_filterMap.mpr ⟨X.env, List.mem_cons_self, by rw [hf, z]⟩)
    have nF : a ∉ X.fs := fun hm => by
      obtain ⟨e, he, q⟩ := List.mem_filterMap.mp hm
      exact nfr (List.mem_filterMap.mpr ⟨e, List.mem_cons_of_mem _ he, q⟩)
    have nbase : X.base.get? a = none := by
      cases e : X.base.get? a with
      | none => rfl
      | some o =>
        have h1 := nb _ _ (J.bs _ _ e).1 (by rw [hs]; exact nfr)
        rw [fl3.2.1] at h1
        cases h1
    have S3 := J3.suite he3 hd3 na nL nF
    have test : ∀ {x : Str} {c : Value} {np : Pos} (hc : Names X x c) {Q : Value → Shared → Prop} {E : Value → Shared → Prop}, Q c { s' with heap := h3 } → wpAny (model X.prog X.w) (X.A.mark (some (.ref a))) (eval (.Name x np) X.env) Q E { s' with heap := h3 } := fun {x c np} hc {Q E} q => by
      obtain ⟨hg, hdbg, hm | ⟨hm, hv, hnn⟩⟩ := hc
      · exact ld_glob (X := X.suite a ((a, oe3) :: (X.pn ++ pins))) S3 hg hm q hdbg
      · exact ld_blt (X := X.suite a ((a, oe3) :: (X.pn ++ pins))) S3 hg hm hv q hnn hdbg
    refine wpAny_handleBy_cons (codeAny_handlers_test ?_) (by intro q; cases q)
    refine Tuple_ (spliced_more (test n1 (spliced_more (test n2 (spliced_more (test n3 (spliced_none ?_)))))))
    refine wpAny_newObj_type ?_
    have fl5 := flying_push fl3 { cls := .type "tuple", dict := none, data := .seq [c1, c2, c3].toArray }
    have up5 : h3.UpToSlots (h3.push { cls := .type "tuple", dict := none, data := .seq [c1, c2, c3].toArray }) := Heap.UpToSlots.of_keeps fun b u e => Heap.get?_push_of_some _ e
    have hp : (h3.push { cls := .type "tuple", dict := none, data := .seq [c1, c2, c3].toArray }).get? h3.objs.size = some { cls := .type "tuple", data := .seq [c1, c2, c3].toArray } := Heap.get?_push_size _ rfl
    have k5 : PySem.W.Frag.In X.K (h3.push { cls := .type "tuple", dict := none, data := .seq [c1, c2, c3].toArray }) := J3.kIn.keeps fun b u e => Heap.get?_push_of_some _ e
    have he5 : (h3.push { cls := .type "tuple", dict := none, data := .seq [c1, c2, c3].toArray }).get? a = some oe3 := Heap.get?_push_of_some _ he3
    have LT : PySem.W.Looks (model X.prog X.w) (h3.push { cls := .type "tuple", dict := none, data := .seq [c1, c2, c3].toArray }) (typeOf (.ref a)) cls := fun A Q E s k q => wpAny_typeOf_ref (k _ _ he5) (by rw [hz3.1]; exact q)
    have LM := PySem.W.exm_tup3 (M := model X.prog X.w) k5 LT hp hb1
    have up35 := (up.trans up3).trans up5
    generalize (h3.push { cls := .type "tuple", dict := none, data := .seq [c1, c2, c3].toArray }) = h5 at fl5 LM up35
    refine LM.here ?_
    cases b with
    | true =>
      refine codeAny_handlers_suite_as ?_
      refine HandSPX.lands_againZ fl5 fun h4 fl4 up4 => ?_
      have J4 : Inv X pins σ' H' { s' with heap := h4 } := J.landed nb fl4.1 (up35.trans up4) os ag
      obtain ⟨oe4, vs4, he4, hz4, hd4⟩ := fl4.there
      have S4 := J4.suite he4 hd4 na nL nF
      refine store_ok (X := X.suite a ((a, oe4) :: (X.pn ++ pins))) (v := .ref a) S4 hN hi hloc rfl (fun s5 S5 => ?_) (.inr hln)
      refine wpAny_mono ((hsu a oe4 cls d (X.pn ++ pins) hz4 ⟨_, hd4⟩ nbase).run [] s5 _ H' _ S5 (hyes rfl a na)) (fun f s6 hsp => ?_) (fun _ _ z => False.elim z)
      have end_ : ∀ {σ6 : L2.St} {H6 : Hp} {Q : Shared → Prop}, Inv (X.suite a ((a, oe4) :: (X.pn ++ pins))) [] σ6 H6 s6 → (∀ s7, Inv X pins (σ6.set i none) H6 s7 → Q s7) →
          wpAny (model X.prog X.w) X.A (do bindName X.env n .none; unbindBehindTheSuite X.env n pos') (fun _ s7 => Q s7) X.xe s6 := fun {σ6 H6 Q} S6 hq => gone_ok (S6.unsuite ok) hN hi hln hq
      cases f with
      | next =>
        obtain ⟨σ6, H6, S6, q6⟩ := hsp
        exact end_ S6 fun s7 J7 => ⟨_, _, J7, q6⟩
      | brk =>
        obtain ⟨σ6, H6, S6, q6⟩ := hsp
        exact end_ S6 fun s7 J7 => ⟨_, _, J7, q6⟩
      | cont =>
        obtain ⟨σ6, H6, S6, q6⟩ := hsp
        exact end_ S6 fun s7 J7 => ⟨_, _, J7, q6⟩
      | ret u =>
        obtain ⟨v6, σ6, H6, S6, r6, q6⟩ := hsp
        exact end_ S6 fun s7 J7 => ⟨_, _, _, J7, r6, q6⟩
    | false =>
      show wpAny _ X.A (handleBy (.ref a) X.env []) _ _ _
      refine wpAny_handleBy_nil ?_
      obtain ⟨k1, k2, k3, oe, vs, T, oT, ts', he, hz, hd, h1, hr⟩ := id fl5
      unfold PySem.passOn
      refine wpAny_bind (wpAny_field he hd h1 ?_)
      rw [if_neg (show ¬ ((Value.ref T == Value.none) = true) from by simp)]
      have fin : wpAny (model X.prog X.w) X.A (setFlight (.ref a) X.env.frame) (fun _ s4 => wpAny (model X.prog X.w) X.A (throw (.ref a) : Sem Flow) (SP X pins D) X.xe s4) X.xe { s' with heap := h5 } := by
        rw [hf]
        refine HandSPX.setFlight_upZ fl5 fun h4 hh4 up4 => wpAny_throw (tk _ _ ?_)
        exact ⟨a, B, sI, pins, σ', H', cls, d, rfl, J, nb, up35.trans up4, .inr (.inr (by rw [hs]; exact hh4)), na, os, ag, hno rfl⟩
      first
        | exact wpAny_bind (wpAny_pure (wpAny_bind fin))
        | exact wpAny_bind fin
  · cases f with
    | next =>
      obtain ⟨σ', H', J', q⟩ := hsp
      exact wpAny_execs_nil ⟨σ', H', J'.ofTry ok, q⟩
    | brk =>
      obtain ⟨σ', H', J', q⟩ := hsp
      exact ⟨σ', H', J'.ofTry ok, q⟩
    | cont =>
      obtain ⟨σ', H', J', q⟩ := hsp
      exact ⟨σ', H', J'.ofTry ok, q⟩
    | ret u =>
      obtain ⟨v, σ', H', J', r, q⟩ := hsp
      exact ⟨v, σ', H', J'.ofTry ok, r, q⟩
end
end L2N
set_option maxHeartbeats 2000000
namespace Rd
open PySem PySem.Spec PyProof.Rows L2 L2H HotX
/-! ## a def called in an except suite, with the handled exception (a, oe) known -/
structure FnE (P : Program) (w : World) (K : PySem.W.Frag) (mg : Str → Option Value) (base : Heap) (CX : CXT) (k : Nat) (f : Addr) (fd : FuncData) (ps : List Str) (sp : Sp) (a : Addr) (oe : Obj) : Prop where
  len : ∀ vs H Q E, sp vs H Q E → vs.length = ps.length
  run : ∀ (A : Around) (outer : List Env) (s : Shared) (H : Hp) (args : Args) (us : List Value) (vs : List V) (Q : VK) (E : XK), RoomH k A → Hot1 A (a, oe) → PinOk outer H s (a, oe) → Env0 P w K mg base A outer s H → BindsTo s fd args (ps.zip us) → Vals vs us → sp vs H Q E →
    codeAny (model P w) A (.call (.ref f) args) (CR CX outer P w H s Q E) s
section
variable {P : Program} {w : World} {K : PySem.W.Frag} {mg : Str → Option Value} {base : Heap} {CX : CXT}
theorem Fun.okE {x qual : Str} {st : Stmt} {f a : Addr} {oe : Obj} {fd : FuncData} {N ps : List Str} {k : Nat} {sp : Sp} (F : L2.Fun K x qual st f fd) (S : FnScope N ps (defScope st)) (len : ∀ vs H Q E, sp vs H Q E → vs.length = ps.length)
    (hbody : ∀ (cdv : Value) (A : Around) (outer : List Env) (s : Shared) (H : Hp) (vs : List V) (Q : VK) (E : XK), Hot1 A (a, oe) → RoomH k (A.deeper (envOfC qual (defScope st) s.heap.objs.size f cdv)) → sp vs H Q E →
      ∃ t, PSs (cxH CX P w K mg base N qual (defScope st) f cdv A outer s H E (a, oe)) (defBody st) t ∧ t { nx := fun _ H' => Q .non H', rt := Q } (L2.start N vs) H) : FnE P w K mg base CX (k + 1) f fd ps sp a oe := by
  obtain ⟨oc, od, kV, doc, pm, an, cdv, ct, osl, rfl, lk, hcd⟩ := F.ex
  refine ⟨len, fun A outer s H args us vs Q E hr hot hpin e0 hb r hsp => ?_⟩
  have hl := len _ _ _ _ hsp
  have KX : K.In s.heap := e0.mod.kin.keeps fun b o e => (e0.bs b o e).1
  have lim : s.heap.NoLimit := e0.mod.nolimit.keeps fun b o e => (e0.bs b o e).1
  have hkind : ∀ y ∈ ps.zip us, (defScope st).names.lookup y.1 = some .local ∨ ((defScope st).names.lookup y.1 = some .cell ∧ ((cellsFrom (s.heap.objs.size + 1) (defScope st).names []).lookup y.1).isSome = true) := fun ⟨n, v⟩ hy => by
    rcases S.par n (List.of_mem_zip hy).1 with q | q
    · exact .inl q
    · exact .inr ⟨q, PySem.W.cellsFrom_some _ _ _ (.inl q)⟩
  refine codeAny_call_function hr.depth (KX _ _ lk) rfl S.co S.gen rfl (PySem.W.codeRec_of KX hcd) (hb _ _ _ _ ?_)
  refine wpAny_newFunctionEnv_cells S.kind hkind fun env he s1 x => ?_
  subst he
  refine ⟨lim.keeps x.toInCall.keep, codeAny_func ?_⟩
  obtain ⟨t, ht, hq⟩ := hbody cdv A outer s H vs Q E hot (hr.deeper _) hsp
  have I : Inv (cxH CX P w K mg base N qual (defScope st) f cdv A outer s H E (a, oe)) [] (L2.start N vs) H s1 := inv_startH S hpin e0 hl r x
  refine wpAny_mono (ht.run [] s1 (L2.start N vs) H _ I hq) (fun fl s' hs => ?_) fun e s' hs => hs
  have fin : ∀ {σ' : L2.St} {H' : Hp} {v : V} {u : Value}, Inv (cxH CX P w K mg base N qual (defScope st) f cdv A outer s H E (a, oe)) [] σ' H' s' → RelV v u → Q v H' → CE outer P w H s Q u s' :=
    fun {σ' H' v u} J rv q => ⟨v, H', J.os, J.bare, J.base, J.hok, rv, q⟩
  cases fl with
  | ret u =>
    obtain ⟨v, σ', H', J, rv, q⟩ := hs
    exact fin J rv q
  | next =>
    obtain ⟨σ', H', J, q⟩ := hs
    exact fin (v := V.non) (u := Value.none) J rfl q
  | brk =>
    obtain ⟨_, _, _, q⟩ := hs
    exact False.elim q
  | cont =>
    obtain ⟨_, _, _, q⟩ := hs
    exact False.elim q
end
section
variable {X : Cx} {CX : CXT} {k : Nat} {f C a dd : Addr} {oe : Obj} {fd : FuncData} {ps : List Str} {sp : Sp} {E : XK} {x n : Str} {q pos : Pos} {e : Expr} {es : List Expr} {te : TE} {t : TA}
theorem pe_callE (F : FnE X.prog X.w X.K X.mg X.base CX k f fd ps sp a oe) (hr : RoomH k X.A) (hot : Hot1 X.A (a, oe)) (hp : (a, oe) ∈ X.pn) (hg : Gl X x) (hm : X.mg x = some (.ref f)) (hk : PySem.W.keepIn X.K (.ref f) = true) (hb : Binds X.K fd ps []) (hx : Passes CX X E)
    (ha : PA X (e :: es) t) (hdb : (x == ("__debug__" : Str)) = false := by decide) (he : starEach (e :: es) X.env = (false, eval e X.env) :: starEach es X.env := by rfl) (hpl : (backTo pos (starEach es X.env)).any (·.1) = false := by rfl) :
    PE X (.Call (.Name x q) (e :: es) [] pos) (tCall sp [] E t) := by
  refine ⟨fun pins s σ H Q I h => ?_⟩
  refine wpAny_Call_Name_kw (ld_glob I hg hm ?_ hdb)
  refine PySem.W.callWith_K (h₀ := X.base) I.ok.mod.kin hk (thn (ha.run pos pins s σ H _ I h) fun us s1 ⟨vs, H1, I1, r, h⟩ => ⟨I1.kIn, ?_⟩) he hpl
  replace h : sp (vs ++ []) H1 Q E := h
  rw [List.append_nil] at h
  have hl : us.length = ps.length := by rw [← r.length]; exact F.len _ _ _ _ h
  have b := hb s1 us I1.kIn (by rw [List.append_nil]; exact hl)
  rw [List.append_nil] at b
  have P1 := I1.pin (a, oe) (List.mem_append_left _ hp)
  have hpin : PinOk X.stack H1 s1 (a, oe) := ⟨P1.1, P1.2.1, fun hm => (List.mem_cons.mp (I1.stkSub a hm)).elim P1.2.2.1 P1.2.2.2.1, P1.2.2.2.2⟩
  refine wpAny_call (codeAny_mono (F.run X.A X.stack s1 H1 ⟨us, []⟩ us vs Q E hr hot hpin I1.env0 b r h) fun r s' hq => ?_)
  cases r with
  | error e => exact hx pins σ H1 s1 e s' I1 hq
  | ok fl =>
    cases fl with
    | ret u => exact I1.after hq
    | next => exact False.elim hq
    | brk => exact False.elim hq
    | cont => exact False.elim hq
/-- e.f of the exception that is handled -/
def tXq (a dd : Addr) (n : Str) (te : TE) : TE := fun σ H Q => te σ H fun x H1 => x = .ref a ∧ ∃ (fs : List (Str × V)) (v : V), H1 dd = some (.xd fs) ∧ fs.lookup n = some v ∧ Q v H1
theorem pe_xq (T : XfC X.K C) (hno : PySem.W.findIn X.K (.ref C) n = some none) (hc : oe.cls = .ref C) (hd : oe.dict = some dd) (hf : ∃ vs, oe.data = .fields vs) (hp : (a, oe) ∈ X.pn) (he : PE X e te) (hb : attributeBase e n X.env (eval e X.env) = eval e X.env := by rfl) :
    PE X (.Attribute e n pos) (tXq a dd n te) where
  run := fun pins s σ H Q I h => attr_of hb (thn (he.run pins s σ H _ I h) fun u s1 hh => by
    obtain ⟨x, H1, I1, rx, ex, fs, v, ea, l, q⟩ := hh
    subst ex
    obtain rfl : u = Value.ref a := rx
    obtain ⟨ha, _⟩ := I1.pin (a, oe) (List.mem_append_left _ hp)
    obtain ⟨vs, hv⟩ := hf
    obtain ⟨mA, hns, hr⟩ := (show ObjOk X.prog X.w H1 s1.heap dd (.xd fs) from I1.hok dd _ ea)
    obtain ⟨od, ho, hl⟩ := lookIn_ns hns
    obtain ⟨u, hu, ru⟩ := RelO.some_of (v := v) (o := mA n) (by rw [← l]; exact hr n)
    have J : PySem.W.InstAt s1.heap a oe C (some od) := ⟨ha, hc, by unfold PySem.W.notCls; rw [hv] <;> rfl, by rw [hd]; exact ho⟩
    exact HandSPX.exc_get I1.kIn J T.ga T.gg T.exC (PySem.W.findObj_own T.hdC hno rfl (by rw [hl, hu])) (handed_of ru) ⟨v, H1, I1.tok _, ru, q⟩)
/-- in the suite of an except clause -/
theorem hot_suite {X : Cx} {a : Addr} {oe : Obj} {pn : List (Addr × Obj)} {cls : Value} {d : Option Addr} (hz : L2N.Zn cls d oe) (hf : ∃ vs, oe.data = .fields vs) : Hot1 (X.suite a ((a, oe) :: pn)).A (a, oe) := by
  obtain ⟨vs, hv⟩ := hf
  exact ⟨rfl, vs, hv, hz.2.2 vs hv⟩
theorem room_suite {X : Cx} {a : Addr} {pn : List (Addr × Obj)} {k : Nat} (hr : Room k X.A) : RoomH k (X.suite a pn).A := ⟨hr.dp, hr.un⟩
end
end Rd
set_option maxHeartbeats 1000000
namespace Rd
open PySem PySem.Spec PyProof.Rows L2
/-! ## raised where a suite calls defs: the context field is told -/
section
variable {X : Cx} {CX : CXT} {pins : List (Addr × Obj)} {σ : L2.St} {H1 : Hp} {s1 : Shared} {C fI : Addr} {k : Nat} {fd : FuncData} {ps ks : List Str} {sp : Sp} {Q : VK} {B newId initId : String} {bmB : List Value} {us ws : List Value} {vs zs : List V} {g : List Value → List Value → List Value} {gV : List V → List V → List V}
/-- C(e, ..) to be raised where the handled one counts -/
theorem mk_raiseN (T : XC X.K C B newId initId bmB) (hR : Raises X (.ref C)) (N : XI X CX k C fI fd ps sp) (hr : Room (k + 1) X.A) (hb : Binds X.K fd ps []) (hx : Passes CX X E0) (I1 : Inv X pins σ H1 s1) (r1 : Vals vs us) (hz : vs.length ≤ 1000) {Q : XK}
    (q1 : MkQ sp C (fun a => a :: vs) H1 (fun v H2 => ∃ (a d : Addr) (fs : List (Str × V)), v = .ref a ∧ H2 a = some (exo a C (some d)) ∧ H2 d = some (exd d fs) ∧ H1 d = none ∧ Q (.ref C) (some d) (upd (del H2 a) d (.xd fs)))) :
    wpAny (model X.prog X.w) X.A (call (.ref C) us) (L2N.MkP X pins σ Q) X.xe s1 := by
  obtain ⟨nm, N', qn, bs, bm, hdct, sn, sub, ab, col, dd, k0, k1, k2, k3, k5, hC, hT⟩ := PySem.W.excInit_of I1.kIn T.ini
  obtain ⟨hp, g, dr, tk, os⟩ := s1
  have hsz : hp.objs.size ≤ hp.objs.size + 1 := Nat.le_succ _
  have hn : H1 (hp.objs.size + 1) = none := I1.hok.fresh hsz
  have hq := q1 (hp.objs.size + 1) hn
  have kk : ∀ b o, hp.get? b = some o → ((hp.push (PySem.W.kdv_tup us)).push (PySem.HandSPX.excO C hp.objs.size)).get? b = some o := fun b o e => Heap.get?_push_of_some _ (Heap.get?_push_of_some _ e)
  have hget : ((hp.push (PySem.W.kdv_tup us)).push (PySem.HandSPX.excO C hp.objs.size)).get? (hp.objs.size + 1) = some (PySem.HandSPX.excO C hp.objs.size) := by heap_get
  have I2 : Inv X pins σ (upd H1 (hp.objs.size + 1) (exo (hp.objs.size + 1) C none)) ⟨(hp.push (PySem.W.kdv_tup us)).push (PySem.HandSPX.excO C hp.objs.size), g, dr, tk, os⟩ :=
    I1.laid (t' := tk) (a := hp.objs.size + 1) (o := exo (hp.objs.size + 1) C none) (h' := (hp.push (PySem.W.kdv_tup us)).push (PySem.HandSPX.excO C hp.objs.size)) kk hsz (exo_ok hget)
  have r2 : Vals (V.ref (hp.objs.size + 1) :: vs) ((Value.ref (hp.objs.size + 1) :: us) ++ []) := by rw [List.append_nil]; exact .cons rfl r1
  have hl : (Value.ref (hp.objs.size + 1) :: us ++ []).length = ps.length := by
    have e := r2.length
    rw [N.F.len _ _ _ _ hq] at e
    exact e.symm
  have hus : us.length ≤ sizeLine := by
    rw [← Paired.length r1, sizeLine_eq]
    omega
  refine wpAny_call (PySem.HandSPX.call_own T.F hT hC (PySem.W.looks_findIn I1.kIn N.iC) (fun self => PySem.W.bind_fn I1.kIn self N.tI) hus
    (codeAny_mono (N.F.run _ X.stack _ _ ⟨Value.ref (hp.objs.size + 1) :: us, []⟩ ((Value.ref (hp.objs.size + 1) :: us) ++ []) _ _ E0 (hr.make C us []) (I2.env0.make C us []) (hb _ (Value.ref (hp.objs.size + 1) :: us) I2.kIn hl) r2 hq) fun r s' hq' => ?_))
  cases r with
  | error er => exact hx pins σ _ _ er s' I2 hq'
  | ok fl =>
    cases fl with
    | ret u =>
      obtain ⟨v, H2, os2, bare2, un2, hok2, rv, ev, a, d, fs, ea0, ea, ed, hd1, q2⟩ := hq'
      subst ev
      cases ea0
      obtain ⟨h2, g2, d2, t2, os'⟩ := s'
      obtain ⟨t0, G, J, kG, ge, hoe, na⟩ := mk_end0 (d2 := d2) (t2 := t2) I1 hsz kk un2 hok2 os2 bare2 ea ed hd1
      refine ⟨rv, hp.objs.size + 1, _, _, ⟨G, g2, d2, t2, os'⟩, _, .ref C, some d, rfl, J, kG, ge, hoe, ⟨rfl, rfl, ?_⟩, rfl, rfl, na, rfl, bare2, hR, q2⟩
      intro vs e
      cases e
      rfl
    | next => exact False.elim hq'
    | brk => exact False.elim hq'
    | cont => exact False.elim hq'
end
section
variable {X : Cx} {CX : CXT} {x : Str} {e : Expr} {es : List Expr} {kws : List Keyword} {ta tk : TA} {p pos : Pos} {C fI : Addr} {k : Nat} {fd : FuncData} {ps ks : List Str} {sp : Sp} {B newId initId : String} {bmB : List Value} {g : List Value → List Value → List Value} {gV : List V → List V → List V}
theorem pmk_VN (T : XC X.K C B newId initId bmB) (hR : Raises X (.ref C)) (N : XI X CX k C fI fd ps sp) (hr : Room (k + 1) X.A) (hb : Binds X.K fd ps []) (hx : Passes CX X E0) (hg : Gl X x) (hm : X.mg x = some (.ref C)) (ha : PA X (e :: es) ta)
    (hdb : (x == ("__debug__" : Str)) = false := by decide) (he : starEach (e :: es) X.env = (false, eval e X.env) :: starEach es X.env := by rfl) (hpl : (backTo pos (starEach es X.env)).any (·.1) = false := by rfl) :
    L2N.PMk X (.Call (.Name x p) (e :: es) [] pos) (tMkR C sp ta) := by
  intro pins s σ H Q I h
  refine wpAny_Call_Name_kw (ld_glob I hg hm ?_ hdb)
  exact PySem.W.callWith_K (h₀ := X.base) I.ok.mod.kin T.kC (thn (ha.run pos pins s σ H _ I h) fun us s1 ⟨vs, H1, I1, r1, hz, q1⟩ => ⟨I1.kIn, mk_raiseN T hR N hr hb hx I1 r1 hz q1⟩) he hpl
theorem pmk_VN0 (T : XC X.K C B newId initId bmB) (hR : Raises X (.ref C)) (N : XI X CX k C fI fd ps sp) (hr : Room (k + 1) X.A) (hb : Binds X.K fd ps []) (hx : Passes CX X E0) (hg : Gl X x) (hm : X.mg x = some (.ref C))
    (hdb : (x == ("__debug__" : Str)) = false := by decide) : L2N.PMk X (.Call (.Name x p) [] [] pos) (tMkR C sp tNil) := by
  intro pins s σ H Q I h
  refine wpAny_Call_Name_kw (ld_glob I hg hm ?_ hdb)
  obtain ⟨hz, q1⟩ := h
  exact PySem.W.callWith_K0 I.kIn T.kC (mk_raiseN (us := []) (vs := []) T hR N hr hb hx I .nil hz q1)
end
theorem passLN {X : Cx} : Passes (L2N.CX X.prog X.w) X E0 := fun _ _ _ _ _ _ _ h => by
  obtain ⟨_, _, _, _, _, _, _, _, _, _, _, _, z⟩ := h
  exact z.elim
theorem takes0N {X : Cx} : L2N.Takes X (fun _ _ _ _ => False) := fun _ _ x => by
  obtain ⟨_, _, _, _, _, _, _, _, _, _, _, _, _, _, _, _, z⟩ := x
  exact z.elim
theorem Fun.okXN {P : Program} {w : World} {K : PySem.W.Frag} {mg : Str → Option Value} {base : Heap} {x qual : Str} {st : Stmt} {f : Addr} {fd : FuncData} {N ps : List Str} {k : Nat} {sp : Sp} (F : L2.Fun K x qual st f fd) (S : FnScope N ps (defScope st)) (len : ∀ vs H Q E, sp vs H Q E → vs.length = ps.length)
    (hbody : ∀ (cdv : Value) (A : Around) (outer : List Env) (s : Shared) (H : Hp) (vs : List V) (Q : VK) (E : XK), Room k (A.deeper (envOfC qual (defScope st) s.heap.objs.size f cdv)) → sp vs H Q E →
      ∃ t, PSs (cxOf (L2N.CX P w) P w K mg base N qual (defScope st) f cdv A outer s H E) (defBody st) t ∧ t { nx := fun _ H' => Q .non H', rt := Q } (L2.start N vs) H) : FnOk P w K mg base (L2N.CX P w) (k + 1) f fd ps sp := by
  obtain ⟨oc, od, kV, doc, pm, an, cdv, ct, osl, rfl, lk, hcd⟩ := F.ex
  exact fn_of lk hcd S len fun A outer s H vs Q E hr hsp => hbody cdv A outer s H vs Q E hr hsp
end Rd
set_option maxHeartbeats 2000000
namespace Rd
open PySem PySem.Spec PyProof.Rows L2
/-! ## calling what a local name holds; calling a def while one's own cells are known -/
section
variable {X : Cx} {k i : Nat} {x : Str} {p pos : Pos} {W : WX}
/-- f is a lambda, known -/
def IsLam (H : Hp) (f : Addr) : Prop := ∃ (dV : Value) (q : Str) (params : Arguments) (body : Expr) (scope : Scope) (cl : List (Str × Addr)) (doc pm : Value) (c' : Addr) (ctv : Value), H f = some (.frz (PySem.W.kdv_obj "<lambda>" q params (.expr body) scope cl dV doc pm c' ctv) (.own f))
theorem IsLam.keep {H H' : Hp} {f : Addr} (h : IsLam H f) (k : Keeps H H') : IsLam H' f := by
  obtain ⟨dV, q, params, body, scope, cl, doc, pm, c', ctv, e⟩ := h
  exact ⟨dV, q, params, body, scope, cl, doc, pm, c', ctv, k.1 _ _ _ e⟩
theorem LamAt.is {H : Hp} {f : Addr} {q : Str} {params : Arguments} {body : Expr} {scope : Scope} {cl : List (Str × Addr)} {ds : List V} (h : LamAt H f q params body scope cl ds) : IsLam H f := by
  obtain ⟨dV, doc, pm, c', ctv, u, e, _⟩ := h
  exact ⟨_, _, _, _, _, _, _, _, _, _, e⟩
/-- x(), x a local name that holds something with a promise -/
def tAsk (P : Program) (w : World) (K : PySem.W.Frag) (mg : Str → Option Value) (base : Heap) (k i : Nat) (W : WX) : TE := fun σ H Q => ∃ (f : Addr) (spf : Hp → VK → XK → Prop), σ[i]? = some (some (.ref f)) ∧ IsLam H f ∧ Act P w K mg base k H f spf ∧ spf H Q (fun cls d H' => W cls d σ H')
theorem callee_ref {pins : List (Addr × Obj)} {σ : L2.St} {H : Hp} {s : Shared} {f : Addr} {Q : VK} {spf : Hp → VK → XK → Prop} (hr : Room k X.A) (tk : L2N.Takes X W) (I : Inv X pins σ H s) (A : Act X.prog X.w X.K X.mg X.base k H f spf) (h : spf H Q (fun cls d H' => W cls d σ H')) :
    wpAny (model X.prog X.w) X.A (call (.ref f) []) (EP X pins σ Q) X.xe s := by
  refine wpAny_call (codeAny_mono (A X.A X.stack s H Q _ .refl hr I.env0 h) fun r s' hq => ?_)
  cases r with
  | error e => exact tk e s' (L2N.XE.of_call I (fun _ _ _ h => h) hq)
  | ok fl =>
    cases fl with
    | ret u => exact I.after hq
    | next => exact False.elim hq
    | brk => exact False.elim hq
    | cont => exact False.elim hq
theorem pe_ask (hr : Room k X.A) (tk : L2N.Takes X W) (hN : X.N[i]? = some x) (hv : Vis X.env.scope x)
    (hd : (x == ("__debug__" : Str)) = false := by decide) (hcd : (x == ("__classdict__" : Str)) = false := by decide) :
    PE X (.Call (.Name x p) [] [] pos) (tAsk X.prog X.w X.K X.mg X.base k i W) := by
  refine ⟨fun pins s σ H Q I h => ?_⟩
  obtain ⟨f, spf, hs, ⟨dV, q, params, body, scope, cl, doc, pm, c', ctv, hF⟩, hA, hq⟩ := h
  refine wpAny_Call_Name_kw (thn ((pe_var (pos := p) (i := i) hN hv hd hcd).run pins s σ H (fun v H1 => v = .ref f ∧ H1 = H) I ⟨.ref f, hs, rfl, rfl⟩) fun u s1 ⟨v, H1, I1, r1, e1, e2⟩ => ?_)
  subst e1
  rw [e2] at I1
  obtain rfl : u = Value.ref f := r1
  exact PySem.W.callWith_F0 ⟨_, _, _, _, frz_get I1.hok hF⟩ (callee_ref hr tk I1 hA hq)
end
/-! ### the cells of the frame that runs, known while a call runs -/
def cellsOf (env : Env) : List Addr := (env.cells.map (·.1)).filterMap fun x => env.cells.lookup x
theorem mem_cellsOf {env : Env} {c : Addr} : c ∈ cellsOf env ↔ ∃ x, env.cells.lookup x = some c := by
  constructor
  · intro h
    obtain ⟨x, _, e⟩ := List.mem_filterMap.mp h
    exact ⟨x, e⟩
  · rintro ⟨x, e⟩
    exact List.mem_filterMap.mpr ⟨x, List.mem_map.mpr ⟨(x, c), PySem.mem_of_lookup e, rfl⟩, e⟩
/-- the frame's cells are known in Hz, with the values of its slots -/
structure FzVal (env : Env) (N : List Str) (σ : L2.St) (Hz : Hp) : Prop where
  cell : ∀ x c, env.cells.lookup x = some c → ∃ oc v, Hz c = some (.frz oc (.own c)) ∧ oc.data = .cell v
  val : ∀ (i : Nat) (x : Str) (v : V) (c : Addr), N[i]? = some x → σ[i]? = some (some v) → env.scope.names.lookup x = some .cell → env.cells.lookup x = some c → ∃ oc u, Hz c = some (.frz oc (.own c)) ∧ oc.data = .cell (some u) ∧ RelV v u
theorem FzVal.keep {env : Env} {N : List Str} {σ : L2.St} {Hz H' : Hp} (z : FzVal env N σ Hz) (k : Keeps Hz H') : FzVal env N σ H' :=
  ⟨fun x c e => let ⟨oc, v, a, b⟩ := z.cell x c e; ⟨oc, v, k.1 _ _ _ a, b⟩, fun i x v c h1 h2 h3 h4 => let ⟨oc, u, a, b⟩ := z.val i x v c h1 h2 h3 h4; ⟨oc, u, k.1 _ _ _ a, b⟩⟩
def tCallZ (env : Env) (N : List Str) (sp : Sp) (t : TA) : TE := fun σ H Q => t σ H fun vs H1 => ∀ Hz, FzOf H1 Hz (cellsOf env) → FzVal env N σ Hz → sp vs Hz (fun v H' => Q v (offC H' (cellsOf env))) E0
section
variable {X : Cx} {CX : CXT} {k : Nat} {f : Addr} {fd : FuncData} {ps : List Str} {sp : Sp} {x : Str} {p pos : Pos} {e : Expr} {es : List Expr} {t : TA}
theorem pe_callZ (F : FnOk X.prog X.w X.K X.mg X.base CX k f fd ps sp) (hr : Room k X.A) (hfn : ∀ y, X.fn y = true) (hg : Gl X x) (hm : X.mg x = some (.ref f)) (hk : PySem.W.keepIn X.K (.ref f) = true) (hb : Binds X.K fd ps [])
    (hx : ∀ (outer : List Env) (H : Hp) (s : Shared) (e : Value) (s' : Shared), CX outer H s E0 e s' → False)
    (ha : PA X (e :: es) t) (hdb : (x == ("__debug__" : Str)) = false := by decide) (he : starEach (e :: es) X.env = (false, eval e X.env) :: starEach es X.env := by rfl) (hpl : (backTo pos (starEach es X.env)).any (·.1) = false := by rfl) :
    PE X (.Call (.Name x p) (e :: es) [] pos) (tCallZ X.env X.N sp t) := by
  refine ⟨fun pins s σ H Q I h => ?_⟩
  refine wpAny_Call_Name_kw (ld_glob I hg hm ?_ hdb)
  refine PySem.W.callWith_K (h₀ := X.base) I.ok.mod.kin hk (thn (ha.run pos pins s σ H _ I h) fun us s1 ⟨vs, H1, I1, r, hq⟩ => ⟨I1.kIn, ?_⟩) he hpl
  have cN : ∀ c ∈ cellsOf X.env, H1 c = none := fun c hc => by
    obtain ⟨y, e⟩ := mem_cellsOf.mp hc
    exact I1.freeC y c e
  have cG : ∀ c ∈ cellsOf X.env, ∃ o, s1.heap.get? c = some o := fun c hc => by
    obtain ⟨y, e⟩ := mem_cellsOf.mp hc
    obtain ⟨v, o, ho, _⟩ := I1.cell y c e
    exact ⟨o, ho⟩
  have cA : ∀ c ∈ cellsOf X.env, X.s_0.heap.objs.size ≤ c := fun c hc => by
    obtain ⟨y, e⟩ := mem_cellsOf.mp hc
    exact I1.ok.cab y c (hfn y) e
  have fz := onC_of (h := s1.heap) cN cG
  have hokz := hok_on I1.hok cN cG
  have env0 := I1.env0
  have outZ : ∀ b, b ∉ cellsOf X.env → onC H1 s1.heap (cellsOf X.env) b = H1 b := fz.out
  have ez : Env0 X.prog X.w X.K X.mg X.base X.A X.stack s1 (onC H1 s1.heap (cellsOf X.env)) := by
    refine ⟨env0.frames, env0.mod, fun b o e => ⟨(env0.bs b o e).1, ?_⟩, env0.bsz, env0.funs, fun b hb => ?_, hokz, env0.bare⟩
    · rw [outZ b fun m => by
        have h1 := Heap.lt_size e
        exact absurd (Nat.lt_of_lt_of_le h1 (Nat.le_trans I1.ok.bsz (cA b m))) (Nat.lt_irrefl _)]
      exact (env0.bs b o e).2
    · rw [outZ b fun m => by
        rcases List.mem_cons.mp (I1.stkSub b hb) with z | z
        · obtain ⟨y, e⟩ := mem_cellsOf.mp m
          exact I1.cne y b e z
        · obtain ⟨_, o, ho, _⟩ := I1.ok.funs.mem z
          exact absurd (Nat.lt_of_lt_of_le (Heap.lt_size ho) (cA b m)) (Nat.lt_irrefl _)]
      exact env0.frf b hb
  have fv : FzVal X.env X.N σ (onC H1 s1.heap (cellsOf X.env)) := by
    refine ⟨fun y c e => ?_, fun i y v c h1 h2 h3 h4 => ?_⟩
    · obtain ⟨v, o, ho, hd⟩ := I1.cell y c e
      exact ⟨o, v, onC_at (mem_cellsOf.mpr ⟨y, e⟩) ho, hd⟩
    · obtain ⟨m, _, hl⟩ := I1.loc
      obtain ⟨u, ru, l⟩ := hl i y v h1 h2 (.inr (.inl h3))
      rcases l with ⟨k1, _⟩ | ⟨_, c2, e2, o, ho, hd⟩
      · have k1 : X.env.scope.names.lookup y = some .local := k1
        rw [h3] at k1
        cases k1
      · rw [h4] at e2
        cases e2
        exact ⟨o, u, onC_at (mem_cellsOf.mpr ⟨y, h4⟩) ho, hd, ru⟩
  have hs := hq _ fz fv
  have hl : us.length = ps.length := by rw [← r.length]; exact F.len _ _ _ _ hs
  have b := hb s1 us I1.kIn (by rw [List.append_nil]; exact hl)
  rw [List.append_nil] at b
  refine wpAny_call (codeAny_mono (F.run X.A X.stack s1 _ ⟨us, []⟩ us vs _ E0 hr ez b r hs) fun r' s' hq' => ?_)
  cases r' with
  | error e => exact (hx _ _ _ _ _ hq').elim
  | ok fl =>
    cases fl with
    | ret u =>
      obtain ⟨v, H', os, bare, un, hok, rv, qv⟩ := hq'
      have fz' : FzC H' (cellsOf X.env) := fun c hc => by
        obtain ⟨oc, e⟩ := fz.fz c hc
        exact ⟨oc, un.frzs c _ _ e⟩
      exact I1.after ⟨v, offC H' (cellsOf X.env), os, bare, un_off un fz hokz hok, hok_off hok fz', rv, qv⟩
    | next => exact False.elim hq'
    | brk => exact False.elim hq'
    | cont => exact False.elim hq'
end
theorem noxN {P : Program} {w : World} (outer : List Env) (H : Hp) (s : Shared) (e : Value) (s' : Shared) (h : L2N.CX P w outer H s E0 e s') : False := by
  obtain ⟨_, _, _, _, _, _, _, _, _, _, _, _, z⟩ := h
  exact z.elim
end Rd
set_option maxHeartbeats 2000000
namespace PySem.W
open PySem PySem.Calls PyProof.Rows
section
variable {prog : Program} {w : World} {A : Around} {E : Value → Shared → Prop} {s : Shared} {K : Frag} {x C L f g : Addr} {h₀ : Heap} {m : Str → Option Value} {od : Option Obj}
/-- int's own binary method declines a plain instance -/
theorem int_declines {nm : String} {F : Int → Int → Sem Fin} {i : Int} {t : Tok} {ox : Obj} (hx : s.heap.get? x = some ox) (hp : ox.data = .plain) {R : Fin → Shared → Prop} {E' : Value → Shared → Prop}
    (h : R (.done (.ret .notImplemented)) s) : wpAny (model prog w) A (Builtin.Int.intBinary nm F false ⟨[.int i t, .ref x], []⟩) R E' s := by
  unfold Builtin.Int.intBinary
  refine wpAny_bind (m := slotArgs nm 1 _) (wpAny_pure ?_)
  refine wpAny_bind (m := Builtin.Int.intOfSelf _) ?_
  · unfold Builtin.Int.intOfSelf asInt?
    refine wpAny_bind (wpAny_pure ?_)
    refine wpAny_pure ?_
    refine wpAny_bind (m := asInt? (.ref x)) ?_
    unfold asInt?
    refine wpAny_bind (wpAny_load hx ?_)
    rw [hp]
    refine wpAny_pure ?_
    refine wpAny_bind (wpAny_rule ?_)
    exact wpAny_pure h
/-- n op x, an int on the left of an own instance: the reflected def is asked -/
theorem ksp_binR {op : Operator} {i : Int} {t : Tok} {id : String} {F : Int → Int → Sem Fin} {nm : String} {ox : Obj} {Q : Value → Shared → Prop} (Fr' : Fr h₀ L s.heap m) (X₀ : K.In h₀) (I : InstAt s.heap x ox C od) (hp : ox.data = .plain) (hc : selfFirst K C = true)
    (hs : findIn K (.ref C) (PySem.dunder op.info.2) = some (some (.ref f))) (hr : findIn K (.ref C) (dunderR op.info.2) = some (some (.ref g))) (hg : isFn K (.ref g) = true)
    (fills : fillsNumberSlot (.type "int") op.info.2 = pure true) (slot : Slot "int" (PySem.dunder op.info.2) id) (entry : entryFor table id = some (Builtin.Int.intBinary nm F)) (args : ∀ a b, argsOk id ⟨[a, b], []⟩)
    (hsub : subIn K (.ref C) (.type "int") = some false)
    (h : wpAny (model prog w) A (call (.ref g) [.ref x, .int i t]) (CmpBack Q) E s) : wpAny (model prog w) A (binaryOp op (.int i t) (.ref x)) Q E s := by
  have X := X₀.keeps Fr'.keep
  obtain ⟨cd, rest, hcd, hm⟩ := ksp_first hc
  rcases hi : op.info with ⟨sym, nm'⟩
  rw [hi] at hs hr fills slot
  dsimp only at hs hr fills slot
  have one := ksp_try (name := dunderR nm') (b := .int i t) X I hr hg h
  have dec : wpAny (model prog w) A (tryMethod (.int i t) (PySem.dunder nm') (.ref x)) (fun r s' => r = none ∧ s' = s) E s :=
    wpAny_tryMethod_declines (T := "int") rfl slot (wpAny_call (codeAny_call_builtin slot.plain entry (slot.check _ _ _ _ _ _ _ _ rfl (args _ _) (int_declines I.at_ hp ⟨rfl, rfl, rfl⟩))))
  simp only [binaryOp, hi]
  refine wpAny_holding (wpAny_bind ?_)
  unfold binaryOp1
  refine wpAny_bind (wpAny_typeOf (T := "int") rfl (wpAny_bind (I.type.here (wpAny_bind (wpAny_of_eq fills ?_)))))
  have hne : (Value.type "int" == Value.ref C) = false := Bool.eq_false_iff.mpr fun q => by cases beq_iff_eq.mp q
  simp only [hne, Bool.false_eq_true, if_false]
  refine wpAny_bind ((fills_K X hcd hm hs).here ?_)
  simp only [Bool.and_self, if_true]
  refine wpAny_bind ((looks_subIn X hsub).here ?_)
  have hpy : numberSlotInPython (.type "int") nm' = pure false := rfl
  simp only [Bool.false_eq_true, if_false, pure_bind, Bool.not_false, Bool.and_self, if_true, hpy]
  refine wpAny_bind (wpAny_mono dec (fun r s' hr' => ?_) fun _ _ e => e)
  obtain ⟨rfl, rfl⟩ := hr'
  refine wpAny_bind (wpAny_mono one (fun r s' hr' => ?_) fun _ _ e => e)
  obtain ⟨v, rfl, hq⟩ := hr'
  exact wpAny_bind (wpAny_rule (wpAny_pure (wpAny_pure hq)))
end
end PySem.W
set_option maxHeartbeats 2000000
namespace Rd
open PySem PySem.Spec PyProof.Rows L2
open PySem.Sem (wp)
/-! ## an own class with operators, beside ints -/
/-- what an operator gives here -/
def NotNI (v : V) : Prop := (∃ p, v = .ref p) ∨ ∃ i, v = .int i
structure OwnOp (K : PySem.W.Frag) (C f : Addr) (op : Operator) : Prop where
  self : PySem.W.selfFirst K C = true
  fw : PySem.W.findIn K (.ref C) (PySem.dunder op.info.2) = some (some (.ref f))
  fn : PySem.W.isFn K (.ref f) = true
  rv : ∃ rc, PySem.W.findIn K (.ref C) (dunderR op.info.2) = some rc ∧ (rc = none ∨ ∃ g : Addr, rc = some (.ref g))
  i1 : ∃ fo, PySem.W.findIn K (.type "int") (PySem.dunder op.info.2) = some fo
  i2 : ∃ ro, PySem.W.findIn K (.type "int") (dunderR op.info.2) = some ro
  sub : PySem.W.subIn K (.type "int") (.ref C) = some false
structure OwnOpR (K : PySem.W.Frag) (C g : Addr) (op : Operator) : Prop where
  self : PySem.W.selfFirst K C = true
  fw : ∃ f : Addr, PySem.W.findIn K (.ref C) (PySem.dunder op.info.2) = some (some (.ref f))
  rv : PySem.W.findIn K (.ref C) (dunderR op.info.2) = some (some (.ref g))
  fn : PySem.W.isFn K (.ref g) = true
  sub : PySem.W.subIn K (.ref C) (.type "int") = some false
/-- an int operator's own method -/
structure IntOp (op : Operator) : Prop where
  fills : fillsNumberSlot (.type "int") op.info.2 = pure true
  ex : ∃ (id nm : String) (F : Int → Int → Sem Fin), Slot "int" (PySem.dunder op.info.2) id ∧ entryFor table id = some (Builtin.Int.intBinary nm F) ∧ ∀ a b, argsOk id ⟨[a, b], []⟩
theorem intop_add : IntOp .Add := ⟨PySem.F.fills_int_add, _, _, _, PySem.F.slot_int_add, PySem.F.entry_int_add, PySem.F.args_int_add_2⟩
theorem intop_sub : IntOp .Sub := ⟨PySem.F.fills_int_sub, _, _, _, PySem.F.slot_int_sub, PySem.F.entry_int_sub, PySem.F.args_int_sub_2⟩
theorem intop_mul : IntOp .Mult := ⟨PySem.F.fills_int_mul, _, _, _, PySem.F.slot_int_mul, PySem.F.entry_int_mul, PySem.F.args_int_mul_2⟩
section
variable {X : Cx} {CX : CXT} {k : Nat} {f g C : Addr} {fd : FuncData} {ps : List Str} {sp : Sp} {E : XK} {op : Operator}
theorem back_ni {pins : List (Addr × Obj)} {σ : L2.St} {Q : VK} {v : Value} {s : Shared} (h : EP X pins σ (fun v H' => NotNI v ∧ Q v H') v s) : PySem.W.CmpBack (EP X pins σ Q) v s := by
  obtain ⟨x, H', I', r, n, q⟩ := h
  rcases n with ⟨p, rfl⟩ | ⟨i, rfl⟩
  · obtain rfl : v = Value.ref p := r
    exact ⟨.ref p, H', I', rfl, q⟩
  · obtain ⟨t, rfl⟩ : ∃ t, v = Value.int i t := r
    exact ⟨.int i, H', I', ⟨t, rfl⟩, q⟩
/-- x op y, x an instance of C, y another one or an int -/
def rBin (C : Addr) (sp : Sp) (E : XK) : R2 := fun x y H Q => ∃ a dx fs, x = .ref a ∧ H a = some (.ins C dx fs) ∧ ((∃ b dy gs, y = .ref b ∧ H b = some (.ins C dy gs)) ∨ ∃ i, y = .int i) ∧ sp [x, y] H (fun v H' => NotNI v ∧ Q v H') E
theorem op_own (O : OwnOp X.K C f op) (F : FnOk X.prog X.w X.K X.mg X.base CX k f fd ps sp) (hr : Room k X.A) (hb : Binds X.K fd ps []) (hx : Passes CX X E) : OpR X (binaryOp op) (rBin C sp E) := by
  intro pins s σ H x y v u Q I rx ry hq
  obtain ⟨a, dx, fs, ex, ea, hy, q⟩ := hq
  subst ex
  obtain rfl : v = Value.ref a := rx
  obtain ⟨ox, od, J⟩ := inst_of I ea
  obtain ⟨m, hF⟩ := I.fr
  have one : wpAny (model X.prog X.w) X.A (call (.ref f) [.ref a, u]) (PySem.W.CmpBack (EP X pins σ Q)) X.xe s :=
    wpAny_mono (call_atE (us := [.ref a, u]) (vs := [.ref a, y]) F hr rfl hb hx I (.cons rfl (.cons ry .nil)) q) (fun _ _ z => back_ni z) fun _ _ z => z
  rcases hy with ⟨b, dy, gs, ey, eb⟩ | ⟨i, ey⟩
  · subst ey
    obtain rfl : u = Value.ref b := ry
    obtain ⟨oy, od', J'⟩ := inst_of I eb
    exact PySem.W.binop_K hF I.ok.mod.kin J J'.type O.self O.fw O.fn one
  · subst ey
    obtain ⟨t, rfl⟩ : ∃ t, u = Value.int i t := ry
    obtain ⟨rc, hrc, hp⟩ := O.rv
    obtain ⟨fo, h1⟩ := O.i1
    obtain ⟨ro, h2⟩ := O.i2
    exact PySem.W.ksp_binT (T := "int") hF I.ok.mod.kin J rfl O.self O.fw O.fn hrc hp h1 h2 O.sub one
/-- n op y, y an instance of C -/
def rBinR (C : Addr) (sp : Sp) (E : XK) : R2 := fun x y H Q => ∃ i b dy gs, x = .int i ∧ y = .ref b ∧ H b = some (.ins C dy gs) ∧ sp [y, x] H (fun v H' => NotNI v ∧ Q v H') E
theorem op_ownR (O : OwnOpR X.K C g op) (B : IntOp op) (F : FnOk X.prog X.w X.K X.mg X.base CX k g fd ps sp) (hr : Room k X.A) (hb : Binds X.K fd ps []) (hx : Passes CX X E) : OpR X (binaryOp op) (rBinR C sp E) := by
  intro pins s σ H x y v u Q I rx ry hq
  obtain ⟨i, b, dy, gs, ex, ey, eb, q⟩ := hq
  subst ex
  subst ey
  obtain ⟨t, rfl⟩ : ∃ t, v = Value.int i t := rx
  obtain rfl : u = Value.ref b := ry
  obtain ⟨mA, J0, _⟩ := ins_get I.hok eb
  obtain ⟨od, J, _⟩ := J0.look
  obtain ⟨m, hF⟩ := I.fr
  obtain ⟨f', hf'⟩ := O.fw
  obtain ⟨id, nm, F', sl, en, ar⟩ := B.ex
  exact PySem.W.ksp_binR hF I.ok.mod.kin J rfl O.self hf' O.rv O.fn B.fills sl en ar O.sub
    (wpAny_mono (call_atE (us := [.ref b, .int i t]) (vs := [.ref b, .int i]) F hr rfl hb hx I (.cons rfl (.cons ⟨t, rfl⟩ .nil)) q) (fun _ _ z => back_ni z) fun _ _ z => z)
/-- -x -/
def rNegF (C : Addr) (sp : Sp) (E : XK) : V → Hp → VK → Prop := fun x H Q => ∃ a dx fs, x = .ref a ∧ H a = some (.ins C dx fs) ∧ sp [x] H Q E
theorem un_own (hs : PySem.W.findIn X.K (.ref C) "__neg__" = some (some (.ref f))) (hf : PySem.W.isFn X.K (.ref f) = true) (F : FnOk X.prog X.w X.K X.mg X.base CX k f fd ps sp) (hr : Room k X.A) (hb : Binds X.K fd ps []) (hx : Passes CX X E) : UnR X (unaryOp .USub) (rNegF C sp E) := by
  intro pins s σ H x v Q I rx hq
  obtain ⟨a, dx, fs, ex, ea, q⟩ := hq
  subst ex
  obtain rfl : v = Value.ref a := rx
  obtain ⟨ox, od, J⟩ := inst_of I ea
  obtain ⟨m, hF⟩ := I.fr
  exact PySem.W.ksp_neg hF I.ok.mod.kin J hs hf (call_atE (us := [.ref a]) (vs := [.ref a]) F hr rfl hb hx I (.cons rfl .nil) q)
/-- abs(x) -/
def rAbsF (C : Addr) (sp : Sp) (E : XK) : List V → Hp → VK → Prop := fun xs H Q => ∃ a dx fs, xs = [.ref a] ∧ H a = some (.ins C dx fs) ∧ sp [.ref a] H Q E
theorem call_absF (hs : PySem.W.findIn X.K (.ref C) "__abs__" = some (some (.ref f))) (hf : PySem.W.isFn X.K (.ref f) = true) (F : FnOk X.prog X.w X.K X.mg X.base CX k f fd ps sp) (hr : Room (k + 1) X.A) (hb : Binds X.K fd ps []) (hx : Passes CX X E) :
    CallR X (.builtin "abs") (rAbsF C sp E) := by
  intro pins s σ H xs us Q I r h
  obtain ⟨a, dx, fs, rfl, ea, q⟩ := h
  cases r with
  | cons r1 r2 =>
    cases r2
    obtain rfl : _ = Value.ref a := r1
    obtain ⟨ox, od, J⟩ := inst_of I ea
    refine Calls.call_function_entry (id := "abs") (b := Builtin.«abs») (by decide +kernel) (by decide +kernel) (entryFor_of_tree (by kernel_rfl)) (by unfold argsOk; kernel_rfl) ?_
    unfold Builtin.«abs»
    refine wpAny_bind (m := oneArg "abs" _) (wpAny_pure ?_)
    refine wpAny_bind (m := callSpecial? (.ref a) (Str.ofString "__abs__") []) (PySem.W.special_fn I.kIn J hs (beq_iff_eq.mp hf) (wpAny_mono (call_atE (us := [.ref a]) (vs := [.ref a]) F hr.in1 rfl hb hx I (.cons rfl .nil) q) (fun v s' z => ?_) fun _ _ z => z))
    exact wpAny_pure ⟨_, rfl, z⟩
/-- str(x) -/
def rStrF (C : Addr) (sp : Sp) : List V → Hp → VK → Prop := fun xs H Q => ∃ a dx fs, xs = [.ref a] ∧ H a = some (.ins C dx fs) ∧ sp [.ref a] H (fun v H' => ∃ z, v = .str z ∧ Q v H') E0
theorem call_strF (hs : PySem.W.findIn X.K (.ref C) "__str__" = some (some (.ref f))) (hf : PySem.W.isFn X.K (.ref f) = true) (F : FnOk X.prog X.w X.K X.mg X.base CX k f fd ps sp) (hr : Room (k + 2) X.A) (hb : Binds X.K fd ps []) (hx : Passes CX X E0) :
    CallR X (.type "str") (rStrF C sp) := by
  intro pins s σ H xs us Q I r h
  obtain ⟨a, dx, fs, rfl, ea, q⟩ := h
  cases r with
  | cons r1 r2 =>
    cases r2
    obtain rfl : _ = Value.ref a := r1
    obtain ⟨ox, od, J⟩ := inst_of I ea
    refine PySem.W.kso_call hr.in1.in1.units0 I.kIn J hs hf (wpAny_mono (call_atE (us := [.ref a]) (vs := [.ref a]) F hr.in1.in1 rfl hb hx I (.cons rfl .nil) q) (fun v s' z => ?_) fun _ _ z => z)
    obtain ⟨x, H', I', rr, y, e, q⟩ := z
    subst e
    obtain ⟨t, rfl⟩ := rr
    exact ⟨.str y, H', I', ⟨t, rfl⟩, q⟩
end
/-! ## // of ints of any sign, by 0 too -/
def CDivZ (i j : Int) : Prop := j ≠ 0 ∧ j.natAbs.log2 < 9000
section
variable {X : Cx} {W : WX} {a b : Expr} {ta tb : TE} {pos : Pos}
theorem op_fdivZ : OpR X (binaryOp .FloorDiv) (rI CDivZ fun i j => .int (i.fdiv j)) := opI fun i j _ _ _ _ _ hc q => floordiv_int hc.1 q (.inl (PyProof.noPylong_of_log2 hc.2))
/-- a new exception of a built-in class, made by an operation, where the context is told -/
theorem takes_newN {pins : List (Addr × Obj)} {σ : L2.St} {H : Hp} {s : Shared} {cls : String} {h' : Heap} {e : Addr} {t' : Nat} (tk : L2N.Takes X W) (I : Inv X pins σ H s) (x : Heap.NewExc s.heap h' e cls) (w : ∀ d, W (.type cls) d σ H) : X.xe (.ref e) { s with heap := h', toks := t' } := by
  obtain ⟨ob, tb, he, hc, hd⟩ := x.there
  exact tk _ _ (L2N.XE.new (s' := { s with heap := h', toks := t' }) (oe := ob) (d := ob.dict) I x.keeps x.new he ⟨hc, rfl, fun vs e => by rw [hd] at e; cases e; rfl⟩ hd rfl (I.hok.gone x.new) rfl I.bare (w ob.dict))
/-- i // j, or a ZeroDivisionError -/
def tFdX (W : WX) (ta tb : TE) : TE := fun σ H Q => ta σ H fun x H1 => tb σ H1 fun y H2 => ∃ i j, x = .int i ∧ y = .int j ∧ ((CDivZ i j ∧ Q (.int (i.fdiv j)) H2) ∨ (j = 0 ∧ ∀ d, W (.type "ZeroDivisionError") d σ H2))
theorem pe_fdivX (hc : X.calm = true) (tk : L2N.Takes X W) (ha : PE X a ta) (hb : PE X b tb) : PE X (.BinOp a .FloorDiv b pos) (tFdX W ta tb) := by
  refine ⟨fun pins s σ H Q I h => ?_⟩
  refine wpAny_BinOp (binT ha hb I (R := fun x y H2 => ∃ i j, x = .int i ∧ y = .int j ∧ ((CDivZ i j ∧ Q (.int (i.fdiv j)) H2) ∨ (j = 0 ∧ ∀ d, W (.type "ZeroDivisionError") d σ H2))) h fun v u s2 x y H2 I2 rx ry q => ?_)
  obtain ⟨i, j, rfl, rfl, q⟩ := q
  obtain ⟨t, rfl⟩ : ∃ t, v = Value.int i t := rx
  obtain ⟨t', rfl⟩ : ∃ t, u = Value.int j t := ry
  rcases q with ⟨c, q⟩ | ⟨z, w⟩
  · exact floordiv_int c.1 ⟨.int (i.fdiv j), H2, I2.tok _, ⟨_, rfl⟩, q⟩ (.inl (PyProof.noPylong_of_log2 c.2))
  · subst z
    exact AutoIntOps.floordiv_0 rfl ⟨I2.ok.hd hc, fun h' tk' e hx => takes_newN (t' := tk') tk I2 hx w⟩
end
/-- T('m'), where the context is told -/
theorem pmk_exN {X : Cx} {T N I : String} {x : Str} {p pos p2 : Pos} {m : Str} {j : Nat} (F : ExcB T N I) (hg : Gl X x) (hm : X.mg x = none) (hv : bootBuiltins x = some (.type T)) (hn : x ≠ "__name__" := by decide) (hdb : (x == ("__debug__" : Str)) = false := by decide) :
    L2N.PMk X (.Call (.Name x p) [.Constant (.str m) j p2] [] pos) (fun _ H Q => Q (.type T) none H) := by
  intro pins s σ H Q J h
  refine wpAny_Call_Name_kw (ld_blt J hg hm hv ?_ hn hdb)
  refine PyProof.Rows.callWith_type1 (thn ((pa_cons (X := X) (show PE X (.Constant (.str m) j p2) (tC (.str m)) from pe_str) pa_nil).run pos pins s σ H (fun vs H1 => vs = [.str m] ∧ H1 = H) J ⟨rfl, rfl⟩) fun us s1 hh => ?_) rfl rfl
  obtain ⟨vs, H1, I1, r1, e1, e2⟩ := hh
  subst e1
  subst e2
  obtain ⟨hp1, g1, d1, tk1, os1⟩ := s1
  exact wpAny_call_exc F.call (fun h' a mk => L2N.mk_of I1 (PySem.Heap.MadeExc.of mk) F.raises h (I1.hok.gone mk.new)) (by rw [← r1.length]; show 1 ≤ sizeLine; rw [sizeLine_eq]; omega)
/-! ## {x:09d} -/
/-- the text of nine digits -/
def nine (a : Int) : Str := intSpecTextOf "09d" a
theorem nine_parse : Builtin.Float.parseFormatSpec ("09d" : Str).cps.toList "int" 62 = Except.ok ⟨48, 61, none, false, false, some 9, none, none, some 100⟩ := by rfl
open Builtin in
theorem nine_gives (a : Int) (t u : Tok) (h : a.natAbs.log2 < 1920) (prog : Program) (w : World) (A : Around) (R : Result → Shared → Prop) (s : Shared) (hl : (nine a).length ≤ sizeLine) (q : ∀ t' k, R (.ok (.ret (.str (nine a) t'))) { s with toks := k }) :
    wpAny (model prog w) A.in1 («int.__format__» ⟨[.int a t, .str "09d" u], []⟩) (fun fin s' => match fin with | .done f => R (.ok f) s' | .again c' => c'.quiet = true ∧ codeAny (model prog w) A c' R s') (fun e s' => R (.error e) s') s := by
  unfold Builtin.«int.__format__»
  refine wpAny_bind (m := selfAndOne "int.__format__" _) (wpAny_pure ?_)
  refine wpAny_bind (m := Int.intOfSelf _) (wpAny_pure ?_)
  refine wpAny_bind (m := typeNameOf (.str "09d" u)) (wpAny_typeNameOf (T := "str") rfl (by decide) fun _ => ?_)
  refine wpAny_bind (m := asStr? (.str "09d" u)) (wpAny_pure ?_)
  refine wpAny_bind (m := typeNameOfCut 200 (.int a t)) ?_
  refine PyProof.Rows.wpAny_typeNameOfCut_int ?_
  rw [nine_parse]
  refine wpAny_bind (m := Builtin.overDigitLimit? a) ?_
  rw [PySem.overDigitLimit_small h]
  refine wpAny_pure ?_
  show wpAny _ _ (retStr _) _ _ _
  unfold retStr
  have e : nine a = intSpecText ⟨48, 61, none, false, false, some 9, none, none, some 100⟩ a := by
    unfold nine intSpecTextOf
    rw [nine_parse]
  rw [e] at q hl
  refine wpAny_bind (wpAny_mkStr (wpAny_pure ?_) ?_)
  · show R (Except.ok (Flow.ret (Value.str _ _))) _
    have q1 := q s.toks (s.toks + 1)
    simp only [Bool.false_eq_true, if_false, if_true, beq_self_eq_true] at q1 ⊢
    conv => arg 1; arg 1; arg 1; arg 1; whnf
    simp only [intSpecText, intField', Bool.false_eq_true, if_false, if_true, beq_self_eq_true] at q1 ⊢
    exact q1
  · simp only [Bool.false_eq_true, if_false, if_true, beq_self_eq_true] at hl ⊢
    conv => lhs; arg 1; whnf
    simp only [intSpecText, intField', Bool.false_eq_true, if_false, if_true, beq_self_eq_true] at hl ⊢
    exact hl
section
variable {X : Cx} {e : Expr} {te : TE} {pos p1 p2 : Pos} {j : Nat}
def tFmt9 (te : TE) : TE := fun σ H Q => te σ H fun x H1 => ∃ i : Int, x = .int i ∧ i.natAbs.log2 < 1920 ∧ (nine i).length ≤ sizeLine ∧ Q (.str (nine i)) H1
theorem pe_fmt9 (he : PE X e te) : PE X (.FormattedValue e (-1) (some (.JoinedStr [.Constant (.str "09d") j p1] p2)) pos) (tFmt9 te) := by
  refine ⟨fun pins s σ H Q I h => ?_⟩
  refine wpAny_FormattedValue_spec (thn (he.run pins s σ H _ I h) fun v s1 hv => ?_)
  obtain ⟨x, H1, I1, r1, i, ex, h2, hl, q⟩ := hv
  subst ex
  obtain ⟨t, rfl⟩ : ∃ t, v = Value.int i t := r1
  refine wpAny_JoinedStr_one (thn ((show PE X (.Constant (.str "09d") j p1) (tC (.str "09d")) from pe_str).run pins s1 σ H1 (fun v H2 => v = .str "09d" ∧ H2 = H1) I1 ⟨rfl, rfl⟩) fun u s2 ⟨y, H2, I2, r2, e1, e2⟩ => ?_)
  subst e1
  subst e2
  obtain ⟨t2, rfl⟩ : ∃ t, u = Value.str "09d" t := r2
  refine ⟨_, _, rfl, ?_⟩
  refine PySem.W.KXf.field_int (spec' := "09d") (y := nine i) rfl rfl (by decide) (fun u prog w A R s hq => nine_gives i t u h2 prog w A R s hl hq) (fun t' k => ⟨.str (nine i), H2, I2.tok _, ⟨_, rfl⟩, q⟩)
end
end Rd
set_option maxHeartbeats 2000000
namespace Rd
open PySem PySem.Spec PyProof.Rows L2 TL
/-! ## decimal texts -/
def dg (n : Nat) : List Nat := (Nat.toDigits 10 n).map Char.toNat
theorem digit_cp : ∀ d, d < 10 → (Nat.digitChar d).toNat = 48 + d := by decide
theorem dg_lt {n : Nat} (h : n < 10) : dg n = [48 + n] := by
  unfold dg
  rw [Nat.toDigits_of_lt_base h, List.map_cons, List.map_nil, digit_cp n h]
theorem dg_ge {n : Nat} (h : 10 ≤ n) : dg n = dg (n / 10) ++ [48 + n % 10] := by
  unfold dg
  rw [Nat.toDigits_of_base_le (by decide) h, List.map_append, List.map_cons, List.map_nil, digit_cp _ (Nat.mod_lt _ (by decide))]
theorem dg_digit : ∀ (k n : Nat), n < k → ∀ c ∈ dg n, 48 ≤ c ∧ c ≤ 57
  | 0, _, h, _, _ => by omega
  | k + 1, n, h, c, m => by
    by_cases h1 : n < 10
    · rw [dg_lt h1, List.mem_singleton] at m; omega
    · rw [dg_ge (by omega), List.mem_append, List.mem_singleton] at m
      rcases m with m | m
      · exact dg_digit k (n / 10) (by omega) c m
      · omega
theorem dg_ne (n : Nat) : dg n ≠ [] := by
  by_cases h1 : n < 10
  · rw [dg_lt h1]; simp
  · rw [dg_ge (by omega)]; simp
theorem dg_head : ∀ (k n : Nat), n < k → 1 ≤ n → (dg n).head? ≠ some 48
  | 0, _, h, _ => by omega
  | k + 1, n, h, h1 => by
    by_cases h2 : n < 10
    · rw [dg_lt h2]; simp; omega
    · rw [dg_ge (by omega), List.head?_append]
      have ih := dg_head k (n / 10) (by omega) (by omega)
      cases e : dg (n / 10) with
      | nil => exact absurd e (dg_ne _)
      | cons a r => rw [e] at ih; exact ih
/-- the number of a row of digits -/
def val (w : List Nat) : Nat := w.foldl (fun n c => n * 10 + (c - 48)) 0
theorem val_snoc (w : List Nat) (c : Nat) : val (w ++ [c]) = val w * 10 + (c - 48) := by unfold val; rw [List.foldl_append]; rfl
theorem val_dg : ∀ (k n : Nat), n < k → val (dg n) = n
  | 0, _, h => by omega
  | k + 1, n, h => by
    by_cases h2 : n < 10
    · rw [dg_lt h2]; show 0 * 10 + (48 + n - 48) = n; omega
    · rw [dg_ge (by omega), val_snoc, val_dg k (n / 10) (by omega)]; omega
def isDg (c : Nat) : Bool := decide (48 ≤ c) && decide (c ≤ 57)
/-- what number_word tells of a word -/
def numW (w : List Nat) : Option Nat := if w = [] ∨ w.all isDg = false then none else if w.head? = some 48 ∧ w ≠ [48] then none else some (val w)
theorem numW_dg (n : Nat) : numW (dg n) = some n := by
  unfold numW
  have a : (dg n).all isDg = true := List.all_eq_true.mpr fun c m => by
    have := dg_digit (n + 1) n (by omega) c m
    unfold isDg
    rw [decide_eq_true this.1, decide_eq_true this.2]; rfl
  rw [if_neg (by rw [a]; simp [dg_ne])]
  by_cases h : 1 ≤ n
  · rw [if_neg (fun z => dg_head (n + 1) n (by omega) h z.1), val_dg (n + 1) n (by omega)]
  · have : n = 0 := by omega
    subst this
    rw [dg_lt (by omega)]
    decide
/-- the text of an int -/
def decS (i : Int) : Str := Str.ofString (toString i)
theorem tl_decN (n : Nat) : tl (decS (n : Int)) = dg n := by
  unfold decS dg TL.tl
  rw [Str.ofString_eq_toList]
  show ((toString ((n : Nat) : Int)).toList.map Char.toNat).toArray.toList = _
  rw [show toString ((n : Nat) : Int) = n.repr from rfl, Nat.toList_repr]
theorem tl_decNeg (n : Nat) (h : 1 ≤ n) : tl (decS (-(n : Int))) = 45 :: dg n := by
  obtain ⟨m, rfl⟩ : ∃ m, n = m + 1 := ⟨n - 1, by omega⟩
  unfold decS dg TL.tl
  rw [Str.ofString_eq_toList]
  show ((toString (-((m + 1 : Nat) : Int))).toList.map Char.toNat).toArray.toList = _
  rw [show toString (-((m + 1 : Nat) : Int)) = "-" ++ (m + 1).repr from rfl]
  rw [String.toList_append, Nat.toList_repr]
  rfl
theorem dec_neg (n : Nat) (h : 1 ≤ n) : decS (-(n : Int)) = ("-" : Str) ++ decS n := by
  refine ext_tl ?_
  rw [tl_append, tl_decNeg n h, tl_decN]
  rfl
def pad : Nat → Nat → List Nat
  | 0, _ => []
  | k + 1, p => pad k (p / 10) ++ [48 + p % 10]
theorem dg_pad : ∀ (k r p : Nat), 1 ≤ r → p < 10 ^ k → dg (r * 10 ^ k + p) = dg r ++ pad k p
  | 0, r, p, h, hp => by
    have : p = 0 := by rw [Nat.pow_zero] at hp; omega
    subst this
    simp [pad]
  | k + 1, r, p, h, hp => by
    rw [Nat.pow_succ] at hp ⊢
    have h10 : 1 ≤ 10 ^ k := Nat.pow_pos (by decide)
    generalize hK : 10 ^ k = K at *
    have hrK : K ≤ r * K := Nat.le_mul_of_pos_left K (by omega)
    have e : r * (K * 10) + p = (r * K) * 10 + p := by rw [Nat.mul_assoc]
    rw [e, dg_ge (by omega)]
    have e2 : (r * K * 10 + p) / 10 = r * K + p / 10 := by omega
    have e3 : (r * K * 10 + p) % 10 = p % 10 := by omega
    rw [e2, e3, ← hK, dg_pad k r (p / 10) h (by omega)]
    show _ = dg r ++ (pad k (p / 10) ++ [48 + p % 10])
    rw [List.append_assoc]
theorem pad_dg : ∀ (k p : Nat), p < 10 ^ (k + 1) → List.replicate (k + 1 - (dg p).length) 48 ++ dg p = pad (k + 1) p
  | 0, p, h => by
    rw [dg_lt (by omega)]
    show [] ++ [48 + p] = [] ++ [48 + p % 10]
    rw [Nat.mod_eq_of_lt (by omega)]
  | k + 1, p, h => by
    by_cases h1 : p < 10
    · rw [dg_lt h1]
      show List.replicate (k + 2 - 1) 48 ++ [48 + p] = pad (k + 1) (p / 10) ++ [48 + p % 10]
      have e : p / 10 = 0 := by omega
      have ih := pad_dg k 0 (Nat.pow_pos (by decide))
      rw [dg_lt (by omega)] at ih
      rw [e, ← ih, Nat.mod_eq_of_lt h1, show k + 2 - 1 = k + 1 - 1 + 1 by omega, List.replicate_succ']
      rfl
    · rw [dg_ge (by omega)]
      have ih := pad_dg k (p / 10) (by rw [Nat.pow_succ] at h; omega)
      show List.replicate (k + 2 - (dg (p / 10) ++ [48 + p % 10]).length) 48 ++ (dg (p / 10) ++ [48 + p % 10]) = pad (k + 1) (p / 10) ++ [48 + p % 10]
      rw [← ih, List.length_append, List.length_singleton, ← List.append_assoc]
      congr 2
      congr 1
      omega
theorem tl_nine (p : Nat) (h : p < 10 ^ 9) : tl (nine (p : Int)) = pad 9 p := by
  have z : PyProof.Rows.intSpecZeroOf "09d" = true := by decide +kernel
  rw [← pad_dg 8 p h]
  have e : nine (p : Int) = intSpecText ⟨48, 61, none, false, false, some 9, none, none, some 100⟩ p := by
    unfold nine intSpecTextOf
    rw [nine_parse]
  rw [e]
  rw [intSpecText_zero rfl rfl rfl rfl (by omega), tl_append]
  show List.replicate (9 - (Nat.toDigits 10 p).length) 48 ++ tl (decS p) = _
  rw [tl_decN]
  unfold dg
  rw [List.length_map]
/-- a great number's text, nine digits at a time -/
theorem dec_nine (r p : Nat) (hr : 1 ≤ r) (hp : p < 10 ^ 9) : decS ((r * 10 ^ 9 + p : Nat) : Int) = decS r ++ nine p := by
  refine ext_tl ?_
  rw [tl_append, tl_decN, tl_decN, tl_nine p hp, dg_pad 9 r p hr hp]
/-! ## texts of ratios -/
def termsOf (z : Str) : Option (Int × Int) :=
  let neg := Txt.startswith z "-"
  let ns := (Txt.split (if neg then cutS z (some 1) none else z) "/").map fun w => numW (tl w)
  match ns with
  | [some a] => if neg && decide (a = 0) then none else some (if neg then -(a : Int) else a, 1)
  | [some a, some b] => if (neg && decide (a = 0)) || decide (b < 2) || decide (1 < Nat.gcd a b) then none else some (if neg then -(a : Int) else a, b)
  | _ => none
/-- the text of a ratio -/
def ratS (a b : Int) : Str := if b = 1 then decS a else decS a ++ ("/" : Str) ++ decS b
theorem no_slash (n : Nat) : (47 : Nat) ∉ dg n := fun m => by
  have := dg_digit (n + 1) n (by omega) 47 m
  omega
theorem split1 {x : Str} (h : (47 : Nat) ∉ tl x) : Txt.split x "/" = [x] := by
  have e := split_join (y := "/") (s := 47) (S := []) (by decide) (by decide +kernel) (parts := [x]) (by simp) (fun p hp => by rw [List.mem_singleton] at hp; rw [hp]; exact h)
  have j : Txt.join ("/" : Str) [x] = x := by rw [join_eq]; rfl
  rw [j] at e
  exact e
theorem split2 {x y : Str} (h : (47 : Nat) ∉ tl x) (k : (47 : Nat) ∉ tl y) : Txt.split (x ++ ("/" : Str) ++ y) "/" = [x, y] := by
  have e := split_join (y := "/") (s := 47) (S := []) (by decide) (by decide +kernel) (parts := [x, y]) (by simp) (fun p hp => by
    rcases List.mem_cons.mp hp with rfl | hp
    · exact h
    · rw [List.mem_singleton] at hp; rw [hp]; exact k)
  have j : Txt.join ("/" : Str) [x, y] = x ++ ("/" : Str) ++ y := by rw [join_eq]; rfl
  rw [j] at e
  exact e
/-! ## reduced ratios -/
/-- what top and bottom are divided by -/
def cmn (x y : Int) : Int := if 0 < y then (Int.gcd x y : Int) else -(Int.gcd x y : Int)
def nT (x y : Int) : Int := x.fdiv (cmn x y)
def nB (x y : Int) : Int := y.fdiv (cmn x y)
/-- a reduced ratio -/
structure Red (a b : Int) : Prop where
  pos : 0 < b
  cop : Int.gcd a b = 1
theorem gcd_pos {x y : Int} (h : y ≠ 0) : 0 < (Int.gcd x y : Int) := by
  have := Int.gcd_pos_of_ne_zero_right x h
  omega
theorem cmn_ne {x y : Int} (h : y ≠ 0) : cmn x y ≠ 0 := by
  have := gcd_pos (x := x) h
  unfold cmn
  split <;> omega
theorem cmn_dvd (x y : Int) : cmn x y ∣ x ∧ cmn x y ∣ y := by
  unfold cmn
  have h1 : (Int.gcd x y : Int) ∣ x := Int.gcd_dvd_left ..
  have h2 : (Int.gcd x y : Int) ∣ y := Int.gcd_dvd_right ..
  split
  · exact ⟨h1, h2⟩
  · exact ⟨Int.neg_dvd.mpr h1, Int.neg_dvd.mpr h2⟩
theorem nT_mul {x y : Int} : nT x y * cmn x y = x := by
  unfold nT
  rw [Int.fdiv_eq_ediv_of_dvd (cmn_dvd x y).1]
  exact Int.ediv_mul_cancel (cmn_dvd x y).1
theorem nB_mul {x y : Int} : nB x y * cmn x y = y := by
  unfold nB
  rw [Int.fdiv_eq_ediv_of_dvd (cmn_dvd x y).2]
  exact Int.ediv_mul_cancel (cmn_dvd x y).2
theorem nB_pos {x y : Int} (h : y ≠ 0) : 0 < nB x y := by
  have e := nB_mul (x := x) (y := y)
  have g := gcd_pos (x := x) h
  generalize hn : nB x y = n at *
  unfold cmn at e
  split at e
  · rename_i hy
    by_cases hn0 : 0 < n
    · exact hn0
    · have : n * (Int.gcd x y : Int) ≤ 0 := Int.mul_nonpos_of_nonpos_of_nonneg (by omega) (by omega)
      omega
  · by_cases hn0 : 0 < n
    · exact hn0
    · have : n * -(Int.gcd x y : Int) ≥ 0 := Int.mul_nonneg_of_nonpos_of_nonpos (by omega) (by omega)
      omega
theorem norm_cop {x y : Int} (h : y ≠ 0) : Int.gcd (nT x y) (nB x y) = 1 := by
  have e1 := nT_mul (x := x) (y := y)
  have e2 := nB_mul (x := x) (y := y)
  have g0 := gcd_pos (x := x) h
  have k : Int.gcd (nT x y * cmn x y) (nB x y * cmn x y) = Int.gcd (nT x y) (nB x y) * (cmn x y).natAbs := Int.gcd_mul_right ..
  rw [e1, e2] at k
  have c : (cmn x y).natAbs = Int.gcd x y := by unfold cmn; split <;> simp
  rw [c] at k
  have g1 : 0 < Int.gcd x y := by omega
  exact Nat.eq_of_mul_eq_mul_right g1 (by omega)
theorem norm_red {x y : Int} (h : y ≠ 0) : Red (nT x y) (nB x y) := ⟨nB_pos h, norm_cop h⟩
theorem norm_of_red {a b : Int} (h : Red a b) : nT a b = a ∧ nB a b = b := by
  have c : cmn a b = 1 := by unfold cmn; rw [if_pos h.pos, h.cop]; rfl
  unfold nT nB
  rw [c, Int.fdiv_one, Int.fdiv_one]
  exact ⟨rfl, rfl⟩
theorem red_int (n : Int) : Red n 1 := ⟨by decide, Int.gcd_one_right ..⟩
theorem red_neg {a b : Int} (h : Red a b) : Red (-a) b := ⟨h.pos, by rw [Int.neg_gcd]; exact h.cop⟩
theorem red_abs {a b : Int} (h : Red a b) : Red (a.natAbs : Int) b := ⟨h.pos, by rw [show Int.gcd (a.natAbs : Int) b = Int.gcd a b by unfold Int.gcd; simp]; exact h.cop⟩
theorem abs_le_of_mul {n c x : Int} (h : n * c = x) (hc : c ≠ 0) : n.natAbs ≤ x.natAbs := by
  rw [← h, Int.natAbs_mul]
  exact Nat.le_mul_of_pos_right _ (by omega)
theorem nT_le {x y : Int} (h : y ≠ 0) : (nT x y).natAbs ≤ x.natAbs := abs_le_of_mul nT_mul (cmn_ne h)
theorem nB_le {x y : Int} (h : y ≠ 0) : (nB x y).natAbs ≤ y.natAbs := abs_le_of_mul nB_mul (cmn_ne h)
theorem cmn_le {x y : Int} (h : y ≠ 0) : (cmn x y).natAbs ≤ y.natAbs := by
  have e := nB_mul (x := x) (y := y)
  have p := nB_pos (x := x) h
  conv => rhs; rw [← e, Int.natAbs_mul]
  exact Nat.le_mul_of_pos_left _ (by omega)
/-- the law's own reduced ratio: its sign, and the greatest common divisor -/
theorem plain_eq {x y : Int} (h : y ≠ 0) : ((if 0 < y then (1 : Int) else -1) * x).fdiv (Int.gcd x y) = nT x y ∧ ((if 0 < y then (1 : Int) else -1) * y).fdiv (Int.gcd x y) = nB x y := by
  have hd : ∀ z : Int, (Int.gcd x y : Int) ∣ z → ((if 0 < y then (1 : Int) else -1) * z).fdiv (Int.gcd x y) = z.fdiv (cmn x y) := fun z hz => by
    unfold cmn
    split
    · rw [Int.one_mul]
    · rw [Int.neg_one_mul, Int.fdiv_eq_ediv_of_dvd (Int.dvd_neg.mpr hz), Int.fdiv_eq_ediv_of_dvd (Int.neg_dvd.mpr hz), Int.ediv_neg, Int.neg_ediv_of_dvd hz]
  exact ⟨hd x (Int.gcd_dvd_left ..), hd y (Int.gcd_dvd_right ..)⟩
/-- a quotient's floor, the divisor's sign moved up -/
theorem fdiv_sign (x b c : Int) (h : c ≠ 0) : (x * (if 0 < c then (1 : Int) else -1)).fdiv (b * (if c < 0 then -c else c)) = x.fdiv (b * c) := by
  by_cases hc : 0 < c
  · rw [if_pos hc, if_neg (by omega), Int.mul_one]
  · rw [if_neg hc, if_pos (by omega), Int.mul_neg_one, Int.mul_neg]
    exact Int.neg_fdiv_neg ..
/-- Euclid's steps -/
theorem euc_step {a b : Nat} (h : b ≠ 0) : Nat.gcd b (a % b) = Nat.gcd a b := by rw [Nat.gcd_comm a b, Nat.gcd_rec b a, Nat.gcd_comm]
theorem euc_half {a b : Nat} (h : b ≠ 0) (hab : b < a) : 2 * (b * (a % b)) ≤ a * b := by
  have h1 := Nat.mod_lt a (Nat.pos_of_ne_zero h)
  have h2 : a % b + b ≤ a := by
    have e := Nat.div_add_mod a b
    have d : 1 ≤ a / b := Nat.div_pos (by omega) (by omega)
    have m : b * 1 ≤ b * (a / b) := Nat.mul_le_mul_left b d
    omega
  have h3 : 2 * (a % b) ≤ a := by omega
  calc 2 * (b * (a % b)) = (2 * (a % b)) * b := by rw [Nat.mul_comm b, Nat.mul_assoc]
    _ ≤ a * b := Nat.mul_le_mul_right b h3
/-! ## the text of a reduced ratio, read -/
theorem starts_minus (z : Str) : Txt.startswith z "-" = decide ((tl z).head? = some 45) := by
  unfold Txt.startswith
  rw [PySem.StrLaws.subAt_eq, List.drop_zero, show ("-" : Str).cps.toList = [45] from by decide +kernel, show z.cps.toList = tl z from rfl, show ("-" : Str).length = 1 from by decide +kernel, len_tl z]
  cases tl z with
  | nil => rfl
  | cons a r =>
    show (decide (0 + 1 ≤ (a :: r).length) && ([a] == [45])) = decide (some a = some 45)
    rw [decide_eq_true (by rw [List.length_cons]; omega), Bool.true_and]
    by_cases e : a = 45
    · subst e; rfl
    · rw [decide_eq_false (fun z => e (Option.some.inj z))]
      exact beq_eq_false_iff_ne.mpr (fun z => e (List.cons.inj z).1)
theorem drop_minus (x : Str) : cutS (("-" : Str) ++ x) (some 1) none = x := by
  refine ext_tl ?_
  unfold cutS
  have e1 : HT.sIx (("-" : Str) ++ x).length 0 (some 1) = 1 := by
    rw [show (1 : Int) = ((1 : Nat) : Int) from rfl, HT.sIx_nat, len_tl, tl_append, show tl ("-" : Str) = [45] from by decide +kernel, List.length_append]
    simp
  have e2 : HT.sIx (("-" : Str) ++ x).length (("-" : Str) ++ x).length none = (("-" : Str) ++ x).length := HT.sIx_none _ _
  rw [e1, e2]
  show ((tl (("-" : Str) ++ x)).drop 1).take _ = tl x
  rw [len_tl (("-" : Str) ++ x), tl_append, show tl ("-" : Str) = [45] from by decide +kernel]
  show (tl x).take ((tl x).length + 1 - 1) = tl x
  rw [Nat.add_sub_cancel, List.take_length]
theorem head_dg (n : Nat) (r : List Nat) : (dg n ++ r).head? ≠ some 45 := by
  cases e : dg n with
  | nil => exact absurd e (dg_ne n)
  | cons a t =>
    have := dg_digit (n + 1) n (by omega) a (by rw [e]; exact List.mem_cons_self)
    intro z
    have z : some a = some 45 := z
    injection z
    omega
theorem str_assoc (x y z : Str) : x ++ y ++ z = x ++ (y ++ z) := by
  refine ext_tl ?_
  rw [tl_append, tl_append, tl_append, tl_append, List.append_assoc]
/-- the words of a text without its sign -/
theorem words_rat (n m : Nat) : (Txt.split (ratS n m) "/").map (fun w => numW (tl w)) = if (m : Int) = 1 then [some n] else [some n, some m] := by
  unfold ratS
  split
  · rw [split1 (by rw [tl_decN]; exact no_slash n), List.map_cons, List.map_nil, tl_decN, numW_dg]
  · rw [split2 (by rw [tl_decN]; exact no_slash n) (by rw [tl_decN]; exact no_slash m), List.map_cons, List.map_cons, List.map_nil, tl_decN, tl_decN, numW_dg, numW_dg]
theorem rat_pos (n m : Nat) : Txt.startswith (ratS n m) "-" = false := by
  rw [starts_minus]
  refine decide_eq_false ?_
  unfold ratS
  split
  · rw [tl_decN]
    have := head_dg n []
    rwa [List.append_nil] at this
  · rw [tl_append, tl_append, tl_decN, List.append_assoc]
    exact head_dg n _
theorem rat_neg (n m : Nat) (h : 1 ≤ n) : ratS (-(n : Int)) m = ("-" : Str) ++ ratS n m := by
  unfold ratS
  rw [dec_neg n h]
  split
  · rfl
  · rw [str_assoc, str_assoc, str_assoc]
theorem neg_starts (x : Str) : Txt.startswith (("-" : Str) ++ x) "-" = true := by
  rw [starts_minus, tl_append, show tl ("-" : Str) = [45] from by decide +kernel]
  rfl
theorem terms_rat {a b : Int} (h : Red a b) : termsOf (ratS a b) = some (a, b) := by
  obtain ⟨m, rfl⟩ := Int.eq_ofNat_of_zero_le (Int.le_of_lt h.pos)
  have hp := h.pos
  have hm : ¬ m < 2 ∨ (m : Int) = 1 := by omega
  by_cases ha : 0 ≤ a
  · obtain ⟨n, rfl⟩ := Int.eq_ofNat_of_zero_le ha
    have hc : Nat.gcd n m = 1 := h.cop
    unfold termsOf
    simp only [rat_pos, words_rat, Bool.false_eq_true, if_false, Bool.false_and, Bool.false_or]
    by_cases e : (m : Int) = 1
    · rw [if_pos e, e]
    · rw [if_neg e]
      show (if (decide (m < 2) || decide (1 < Nat.gcd n m)) = true then none else some ((n : Int), (m : Int))) = _
      rw [decide_eq_false (show ¬ m < 2 by omega), hc, decide_eq_false (show ¬ 1 < 1 by omega)]
      rfl
  · obtain ⟨n, rfl⟩ : ∃ n : Nat, a = -(n : Int) := ⟨a.natAbs, by omega⟩
    have hn : 1 ≤ n := by omega
    have hc : Nat.gcd n m = 1 := by have := h.cop; rw [Int.neg_gcd] at this; exact this
    rw [rat_neg n m hn]
    unfold termsOf
    simp only [neg_starts, drop_minus, words_rat, if_true, Bool.true_and]
    by_cases e : (m : Int) = 1
    · rw [if_pos e, e]
      show (if decide (n = 0) = true then none else some (-(n : Int), (1 : Int))) = _
      rw [decide_eq_false (show ¬ n = 0 by omega)]
      rfl
    · rw [if_neg e]
      show (if (decide (n = 0) || decide (m < 2) || decide (1 < Nat.gcd n m)) = true then none else some (-(n : Int), (m : Int))) = _
      rw [decide_eq_false (show ¬ n = 0 by omega), decide_eq_false (show ¬ m < 2 by omega), hc, decide_eq_false (show ¬ 1 < 1 by omega)]
      rfl
end Rd
set_option maxHeartbeats 2000000
namespace Rd
open PySem PySem.Spec PyProof.Rows L2
open C8 (pss_cut tCut)
/-! ## a def of the text, where it stands and how it binds -/
structure Def (K : PySem.W.Frag) (mg : Str → Option Value) (x : Str) (st : Stmt) (ps : List Str) where
  f : Addr
  fd : FuncData
  F : Fun K x x st f fd
  g : mg x = some (.ref f)
  b : Binds K fd ps []
/-! ## the bag of drawn numbers -/
def Bag (H : Hp) (b : Addr) : Prop := ∃ (c : Addr) (ns : List Int) (i r m n : Int),
  H b = some (.lst [.ref c, .int i, .int r, .int m, .int n]) ∧ c ≠ b ∧ H c = some (.lst (ns.map V.int)) ∧ 0 ≤ i ∧ 0 ≤ r ∧ 0 ≤ m ∧ m < 2147483587
def Cell (H : Hp) (b c : Addr) : Prop := ∃ r, H b = some (.lst (.ref c :: r))
/-- from one heap to a later one: the bag may have moved on, all else stands -/
structure Go (b : Addr) (H H' : Hp) : Prop where
  bag : Bag H' b
  keep : ∀ a o, a ≠ b → H a = some o → H' a = some o
  cell : ∀ c, Cell H b c → Cell H' b c
theorem Bag.some {H : Hp} {b : Addr} (h : Bag H b) : ∃ xs, H b = some (.lst xs) := let ⟨_, _, _, _, _, _, e, _⟩ := h; ⟨_, e⟩
theorem Go.refl {H : Hp} {b : Addr} (h : Bag H b) : Go b H H := ⟨h, fun _ _ _ e => e, fun _ h => h⟩
theorem Go.trans {H H1 H2 : Hp} {b : Addr} (g : Go b H H1) (k : Go b H1 H2) : Go b H H2 := ⟨k.1, fun a o n e => k.2 a o n (g.2 a o n e), fun c h => k.3 c (g.3 c h)⟩
theorem Bag.new {H : Hp} {b p : Addr} {o : HO} (h : Bag H b) (np : H p = none) : Bag (upd H p o) b := by
  obtain ⟨c, ns, i, r, m, n, e, hc, ec, k⟩ := h
  exact ⟨c, ns, i, r, m, n, by rw [upd_ne (ne_of_none e np)]; exact e, hc, by rw [upd_ne (ne_of_none ec np)]; exact ec, k⟩
theorem Go.new {H H' : Hp} {b p : Addr} {o : HO} (g : Go b H H') (np : H' p = none) : Go b H (upd H' p o) :=
  ⟨g.1.new np, fun a u n e => by rw [upd_ne (ne_of_none (g.2 a u n e) np)]; exact g.2 a u n e, fun c h => by
    obtain ⟨r, e⟩ := g.3 c h
    exact ⟨r, by rw [upd_ne (ne_of_none e np)]; exact e⟩⟩
theorem Bag.same {H H' : Hp} {b : Addr} (h : Bag H b) (s : Same H H') : Bag H' b := by
  obtain ⟨c, ns, i, r, m, n, e, hc, ec, k⟩ := h
  exact ⟨c, ns, i, r, m, n, s _ _ e, hc, s _ _ ec, k⟩
theorem Go.same {H H1 H' : Hp} {b : Addr} (g : Go b H H1) (s : Same H1 H') : Go b H H' := ⟨g.1.same s, fun a o n e => s _ _ (g.2 a o n e), fun c h => let ⟨r, e⟩ := g.3 c h; ⟨r, s _ _ e⟩⟩
/-- an object that is neither the bag nor its list of cells may change -/
theorem Bag.put {H : Hp} {b p c : Addr} {o : HO} (h : Bag H b) (hc : Cell H b c) (n : p ≠ b) (n2 : p ≠ c) : Bag (upd H p o) b := by
  obtain ⟨c', ns, i, r, m, k, e, hc', ec, q⟩ := h
  obtain ⟨r', e'⟩ := hc
  rw [e] at e'
  cases e'
  exact ⟨c, ns, i, r, m, k, by rw [upd_ne (Ne.symm n)]; exact e, hc', by rw [upd_ne (Ne.symm n2)]; exact ec, q⟩
theorem Cell.put {H : Hp} {b p c : Addr} {o : HO} (h : Cell H b c) (n : p ≠ b) : Cell (upd H p o) b c := by
  obtain ⟨r, e⟩ := h
  exact ⟨r, by rw [upd_ne (Ne.symm n)]; exact e⟩
theorem Bag.cell {H : Hp} {b : Addr} (h : Bag H b) : ∃ c, Cell H b c ∧ ∃ o, H c = Option.some o := by
  obtain ⟨c, ns, i, r, m, k, e, hc', ec, q⟩ := h
  exact ⟨c, ⟨_, e⟩, _, ec⟩
/-- what the bag is not -/
theorem Go.back {H H' : Hp} {b p : Addr} (g : Go b H H') (hb : Bag H b) (np : H' p = none) : H p = none := by
  cases e : H p with
  | none => rfl
  | some o =>
    by_cases h : p = b
    · obtain ⟨xs, ex⟩ := g.1.some
      rw [h, ex] at np
      cases np
    · rw [g.2 p o h e] at np
      cases np
theorem Bag.ne {H : Hp} {b p : Addr} (h : Bag H b) (np : H p = none) : p ≠ b := fun e => by
  obtain ⟨xs, ex⟩ := h.some
  rw [e, ex] at np
  cases np
abbrev s_is_integer : Stmt := topS 7
abbrev N_is_integer : List Str := ["value"]
theorem sc_is_integer : FnScope ["value"] ["value"] (defScope s_is_integer) := ⟨rfl, rfl, rfl, by decide +kernel, rfl, by decide +kernel, by decide +kernel⟩
abbrev s_number_word : Stmt := topS 11
abbrev N_number_word : List Str := ["word", "digit", "number"]
theorem sc_number_word : FnScope ["word", "digit", "number"] ["word"] (defScope s_number_word) := ⟨rfl, rfl, rfl, by decide +kernel, rfl, by decide +kernel, by decide +kernel⟩
abbrev s_word_of_number : Stmt := topS 12
abbrev N_word_of_number : List Str := ["number", "parts", "rest", "part"]
theorem sc_word_of_number : FnScope ["number", "parts", "rest", "part"] ["number"] (defScope s_word_of_number) := ⟨rfl, rfl, rfl, by decide +kernel, rfl, by decide +kernel, by decide +kernel⟩
abbrev s_is_term : Stmt := topS 15
abbrev N_is_term : List Str := ["value"]
theorem sc_is_term : FnScope ["value"] ["value"] (defScope s_is_term) := ⟨rfl, rfl, rfl, by decide +kernel, rfl, by decide +kernel, by decide +kernel⟩
abbrev s_as_ratio : Stmt := topS 16
abbrev N_as_ratio : List Str := ["term"]
theorem sc_as_ratio : FnScope ["term"] ["term"] (defScope s_as_ratio) := ⟨rfl, rfl, rfl, by decide +kernel, rfl, by decide +kernel, by decide +kernel⟩
abbrev s_terms_of : Stmt := topS 17
abbrev N_terms_of : List Str := ["value", "negative", "words", "numbers", "bottom", "word"]
theorem sc_terms_of : FnScope ["value", "negative", "words", "numbers", "bottom", "word"] ["value"] (defScope s_terms_of) := ⟨rfl, rfl, rfl, by decide +kernel, rfl, by decide +kernel, by decide +kernel⟩
abbrev s_law_bag : Stmt := topS 19
abbrev N_law_bag : List Str := ["_law_script"]
theorem sc_law_bag : FnScope ["_law_script"] ["_law_script"] (defScope s_law_bag) := ⟨rfl, rfl, rfl, by decide +kernel, rfl, by decide +kernel, by decide +kernel⟩
abbrev s_law_pull : Stmt := topS 20
abbrev N_law_pull : List Str := ["_law_bag_here", "_law_many", "_law_cell", "_law_digit", "_law_twice"]
theorem sc_law_pull : FnScope ["_law_bag_here", "_law_many", "_law_cell", "_law_digit", "_law_twice"] ["_law_bag_here", "_law_many"] (defScope s_law_pull) := ⟨rfl, rfl, rfl, by decide +kernel, rfl, by decide +kernel, by decide +kernel⟩
abbrev s_law_of : Stmt := topS 21
abbrev N_law_of : List Str := ["_law_bag_here", "_law_some"]
theorem sc_law_of : FnScope ["_law_bag_here", "_law_some"] ["_law_bag_here", "_law_some"] (defScope s_law_of) := ⟨rfl, rfl, rfl, by decide +kernel, rfl, by decide +kernel, by decide +kernel⟩
abbrev s_law_like : Stmt := topS 22
abbrev N_law_like : List Str := ["_law_found", "_law_due", "_law_a", "_law_b"]
theorem sc_law_like : FnScope ["_law_found", "_law_due", "_law_a", "_law_b"] ["_law_found", "_law_due"] (defScope s_law_like) := ⟨rfl, rfl, rfl, by decide +kernel, rfl, by decide +kernel, by decide +kernel⟩
abbrev s_law_field : Stmt := topS 23
abbrev N_law_field : List Str := ["_law_e"]
theorem sc_law_field : FnScope ["_law_e"] ["_law_e"] (defScope s_law_field) := ⟨rfl, rfl, rfl, by decide +kernel, rfl, by decide +kernel, by decide +kernel⟩
abbrev s_law_try : Stmt := topS 24
abbrev N_law_try : List Str := ["_law_ask", "_law_e"]
theorem sc_law_try : FnScope ["_law_ask", "_law_e"] ["_law_ask"] (defScope s_law_try) := ⟨rfl, rfl, rfl, by decide +kernel, rfl, by decide +kernel, by decide +kernel⟩
abbrev s_law_plain : Stmt := topS 25
abbrev N_law_plain : List Str := ["_law_top_z", "_law_bottom_z", "_law_one", "_law_other_z", "_law_turn", "_law_sign"]
theorem sc_law_plain : FnScope ["_law_top_z", "_law_bottom_z", "_law_one", "_law_other_z", "_law_turn", "_law_sign"] ["_law_top_z", "_law_bottom_z"] (defScope s_law_plain) := ⟨rfl, rfl, rfl, by decide +kernel, rfl, by decide +kernel, by decide +kernel⟩
abbrev s_law_number : Stmt := topS 26
abbrev N_law_number : List Str := ["_law_bag_here", "_law_way", "_law_most", "_law_found"]
theorem sc_law_number : FnScope ["_law_bag_here", "_law_way", "_law_most", "_law_found"] ["_law_bag_here"] (defScope s_law_number) := ⟨rfl, rfl, rfl, by decide +kernel, rfl, by decide +kernel, by decide +kernel⟩
abbrev s_law_so : Stmt := topS 27
abbrev N_law_so : List Str := ["_law_ratio", "_law_due", "_law_top_z", "_law_bottom_z", "_law_text_z"]
theorem sc_law_so : FnScope ["_law_ratio", "_law_due", "_law_top_z", "_law_bottom_z", "_law_text_z"] ["_law_ratio", "_law_due"] (defScope s_law_so) := ⟨rfl, rfl, rfl, by decide +kernel, rfl, by decide +kernel, by decide +kernel⟩
abbrev s_law_zero : Stmt := topS 28
abbrev N_law_zero : List Str := ["_law_ask"]
theorem sc_law_zero : FnScope ["_law_ask"] ["_law_ask"] (defScope s_law_zero) := ⟨rfl, rfl, rfl, by decide +kernel, rfl, by decide +kernel, by decide +kernel⟩
abbrev s_law : Stmt := topS 29
abbrev N_law : List Str := ["_law_script", "_law_bag_here", "_law_turn", "_law_b", "_law_c", "_law_other_z", "_law_n", "_law_pairs_z", "_law_told", "_law_signs", "_law_floors", "_law_asks", "_law_wrong", "_law_a", "_law_d", "_law_one", "_law_pair", "_law_ask", "_law_text_z"]
theorem sc_law : FnScope ["_law_script", "_law_bag_here", "_law_turn", "_law_b", "_law_c", "_law_other_z", "_law_n", "_law_pairs_z", "_law_told", "_law_signs", "_law_floors", "_law_asks", "_law_wrong", "_law_a", "_law_d", "_law_one", "_law_pair", "_law_ask", "_law_text_z"] ["_law_script"] (defScope s_law) := ⟨rfl, rfl, rfl, by decide +kernel, rfl, by decide +kernel, by decide +kernel⟩
abbrev s_mr_init : Stmt := inS 14 0
abbrev N_mr_init : List Str := ["self", "top", "bottom", "common"]
theorem sc_mr_init : FnScope ["self", "top", "bottom", "common"] ["self", "top", "bottom"] (defScope s_mr_init) := ⟨rfl, rfl, rfl, by decide +kernel, rfl, by decide +kernel, by decide +kernel⟩
abbrev s_mr_read : Stmt := inS 14 1
abbrev N_mr_read : List Str := ["cls", "text", "terms"]
theorem sc_mr_read : FnScope ["cls", "text", "terms"] ["cls", "text"] (defScope s_mr_read) := ⟨rfl, rfl, rfl, by decide +kernel, rfl, by decide +kernel, by decide +kernel⟩
abbrev s_mr_over : Stmt := inS 14 2
abbrev N_mr_over : List Str := ["self", "other", "term"]
theorem sc_mr_over : FnScope ["self", "other", "term"] ["self", "other"] (defScope s_mr_over) := ⟨rfl, rfl, rfl, by decide +kernel, rfl, by decide +kernel, by decide +kernel⟩
abbrev s_mr_compare : Stmt := inS 14 3
abbrev N_mr_compare : List Str := ["self", "other", "term", "difference"]
theorem sc_mr_compare : FnScope ["self", "other", "term", "difference"] ["self", "other"] (defScope s_mr_compare) := ⟨rfl, rfl, rfl, by decide +kernel, rfl, by decide +kernel, by decide +kernel⟩
abbrev s_mr_floor : Stmt := inS 14 4
abbrev N_mr_floor : List Str := ["self"]
theorem sc_mr_floor : FnScope ["self"] ["self"] (defScope s_mr_floor) := ⟨rfl, rfl, rfl, by decide +kernel, rfl, by decide +kernel, by decide +kernel⟩
abbrev s_mr_ceiling : Stmt := inS 14 5
abbrev N_mr_ceiling : List Str := ["self"]
theorem sc_mr_ceiling : FnScope ["self"] ["self"] (defScope s_mr_ceiling) := ⟨rfl, rfl, rfl, by decide +kernel, rfl, by decide +kernel, by decide +kernel⟩
abbrev s_mr_add : Stmt := inS 14 6
abbrev N_mr_add : List Str := ["self", "other", "term"]
theorem sc_mr_add : FnScope ["self", "other", "term"] ["self", "other"] (defScope s_mr_add) := ⟨rfl, rfl, rfl, by decide +kernel, rfl, by decide +kernel, by decide +kernel⟩
abbrev s_mr_radd : Stmt := inS 14 7
abbrev N_mr_radd : List Str := ["self", "other"]
theorem sc_mr_radd : FnScope ["self", "other"] ["self", "other"] (defScope s_mr_radd) := ⟨rfl, rfl, rfl, by decide +kernel, rfl, by decide +kernel, by decide +kernel⟩
abbrev s_mr_sub : Stmt := inS 14 8
abbrev N_mr_sub : List Str := ["self", "other"]
theorem sc_mr_sub : FnScope ["self", "other"] ["self", "other"] (defScope s_mr_sub) := ⟨rfl, rfl, rfl, by decide +kernel, rfl, by decide +kernel, by decide +kernel⟩
abbrev s_mr_rsub : Stmt := inS 14 9
abbrev N_mr_rsub : List Str := ["self", "other"]
theorem sc_mr_rsub : FnScope ["self", "other"] ["self", "other"] (defScope s_mr_rsub) := ⟨rfl, rfl, rfl, by decide +kernel, rfl, by decide +kernel, by decide +kernel⟩
abbrev s_mr_mul : Stmt := inS 14 10
abbrev N_mr_mul : List Str := ["self", "other", "term"]
theorem sc_mr_mul : FnScope ["self", "other", "term"] ["self", "other"] (defScope s_mr_mul) := ⟨rfl, rfl, rfl, by decide +kernel, rfl, by decide +kernel, by decide +kernel⟩
abbrev s_mr_rmul : Stmt := inS 14 11
abbrev N_mr_rmul : List Str := ["self", "other"]
theorem sc_mr_rmul : FnScope ["self", "other"] ["self", "other"] (defScope s_mr_rmul) := ⟨rfl, rfl, rfl, by decide +kernel, rfl, by decide +kernel, by decide +kernel⟩
abbrev s_mr_floordiv : Stmt := inS 14 12
abbrev N_mr_floordiv : List Str := ["self", "other", "term"]
theorem sc_mr_floordiv : FnScope ["self", "other", "term"] ["self", "other"] (defScope s_mr_floordiv) := ⟨rfl, rfl, rfl, by decide +kernel, rfl, by decide +kernel, by decide +kernel⟩
abbrev s_mr_neg : Stmt := inS 14 13
abbrev N_mr_neg : List Str := ["self"]
theorem sc_mr_neg : FnScope ["self"] ["self"] (defScope s_mr_neg) := ⟨rfl, rfl, rfl, by decide +kernel, rfl, by decide +kernel, by decide +kernel⟩
abbrev s_mr_abs : Stmt := inS 14 14
abbrev N_mr_abs : List Str := ["self"]
theorem sc_mr_abs : FnScope ["self"] ["self"] (defScope s_mr_abs) := ⟨rfl, rfl, rfl, by decide +kernel, rfl, by decide +kernel, by decide +kernel⟩
abbrev s_mr_bool : Stmt := inS 14 15
abbrev N_mr_bool : List Str := ["self"]
theorem sc_mr_bool : FnScope ["self"] ["self"] (defScope s_mr_bool) := ⟨rfl, rfl, rfl, by decide +kernel, rfl, by decide +kernel, by decide +kernel⟩
abbrev s_mr_eq : Stmt := inS 14 16
abbrev N_mr_eq : List Str := ["self", "other"]
theorem sc_mr_eq : FnScope ["self", "other"] ["self", "other"] (defScope s_mr_eq) := ⟨rfl, rfl, rfl, by decide +kernel, rfl, by decide +kernel, by decide +kernel⟩
abbrev s_mr_str : Stmt := inS 14 17
abbrev N_mr_str : List Str := ["self"]
theorem sc_mr_str : FnScope ["self"] ["self"] (defScope s_mr_str) := ⟨rfl, rfl, rfl, by decide +kernel, rfl, by decide +kernel, by decide +kernel⟩
abbrev s_mr_repr : Stmt := inS 14 18
abbrev N_mr_repr : List Str := ["self"]
theorem sc_mr_repr : FnScope ["self"] ["self"] (defScope s_mr_repr) := ⟨rfl, rfl, rfl, by decide +kernel, rfl, by decide +kernel, by decide +kernel⟩
theorem sc_i_InvalidText : FnScope ["self", "line"] ["self", "line"] (defScope (inS 3 0)) := ⟨rfl, rfl, rfl, by decide +kernel, rfl, by decide +kernel, by decide +kernel⟩
/-- an own exception class with an own __init__ -/
structure DX (K : PySem.W.Frag) (mg : Str → Option Value) (x qual : Str) (st : Stmt) (ps nm : List Str) (B newId initId : String) (bmB : List Value) where
  C : Addr
  f : Addr
  fd : FuncData
  g : mg x = some (.ref C)
  T : XC K C B newId initId bmB
  iC : PySem.W.findIn K (.ref C) "__init__" = some (some (.ref f))
  tI : PySem.W.typeIn K (.ref f) = some (.type "function")
  F : Fun K "__init__" qual st f fd
  b : Binds K fd ps []
  xf : XF K C
  no : ∀ n, nm.contains n = true → PySem.W.findIn K (.ref C) n = some none
  ty : PySem.W.typeIn K (.ref C) = some (.type "type")
/-- a class with own instances -/
structure ClsD (K : PySem.W.Frag) (C init : Addr) (fs : List Str) : Prop where
  cls : Cls K C
  made : Mk K C init
  no : ∀ f, fs.contains f = true → NoAttr K C f
  ha : PySem.W.findIn K (.ref C) "__class__" = some (some (.builtin "object.__class__"))
  mo : PySem.W.mroIn K C (.type "object") = some true
  nt : ∀ t, ["NoneType", "str", "int", "bool", "tuple", "list"].contains t = true → PySem.W.notFirst K C (.type t) = true
  self : PySem.W.notFirst K C (.ref C) = true
  is : PySem.W.kitOne K (.ref C) (.ref C) = some true
  nis : ∀ t, ["NoneType", "str", "int", "bool", "tuple", "list"].contains t = true → PySem.W.kitOne K (.type t) (.ref C) = some false
  ne : PySem.W.findIn K (.ref C) "__ne__" = some (some (.builtin "object.__ne__"))
structure MD0 (K : PySem.W.Frag) (m qual : Str) (st : Stmt) (ps : List Str) where
  f : Addr
  fd : FuncData
  F : Fun K m qual st f fd
  b : Binds K fd ps []
structure MD (K : PySem.W.Frag) (C : Addr) (m qual : Str) (st : Stmt) (ps : List Str) extends MD0 K m qual st ps where
  M : MethF K (fun D => D = C) m f
/-- a def with defaults -/
structure KDd (K : PySem.W.Frag) (m qual : Str) (st : Stmt) (dvs : List V) where
  f : Addr
  fd : FuncData
  F : FunD K m qual (defArgs st) (defBody st) (defScope st) dvs [] f fd
structure Txt (K : PySem.W.Frag) (mg : Str → Option Value) where
  z_ZeroDivisionError : mg "ZeroDivisionError" = none
  z_abs : mg "abs" = none
  z_all : mg "all" = none
  z_bool : mg "bool" = none
  z_divmod : mg "divmod" = none
  z_int : mg "int" = none
  z_isinstance : mg "isinstance" = none
  z_len : mg "len" = none
  z_list : mg "list" = none
  z_range : mg "range" = none
  z_repr : mg "repr" = none
  z_str : mg "str" = none
  z_tuple : mg "tuple" = none
  z_zip : mg "zip" = none
  d_is_integer : Def K mg "is_integer" s_is_integer ["value"]
  d_number_word : Def K mg "number_word" s_number_word ["word"]
  d_word_of_number : Def K mg "word_of_number" s_word_of_number ["number"]
  d_is_term : Def K mg "is_term" s_is_term ["value"]
  d_as_ratio : Def K mg "as_ratio" s_as_ratio ["term"]
  d_terms_of : Def K mg "terms_of" s_terms_of ["value"]
  d__law_bag : Def K mg "_law_bag" s_law_bag ["_law_script"]
  d__law_pull : Def K mg "_law_pull" s_law_pull ["_law_bag_here", "_law_many"]
  d__law_of : Def K mg "_law_of" s_law_of ["_law_bag_here", "_law_some"]
  d__law_like : Def K mg "_law_like" s_law_like ["_law_found", "_law_due"]
  d__law_field : Def K mg "_law_field" s_law_field ["_law_e"]
  d__law_try : Def K mg "_law_try" s_law_try ["_law_ask"]
  d__law_plain : Def K mg "_law_plain" s_law_plain ["_law_top_z", "_law_bottom_z"]
  d__law_number : Def K mg "_law_number" s_law_number ["_law_bag_here"]
  d__law_so : Def K mg "_law_so" s_law_so ["_law_ratio", "_law_due"]
  d__law_zero : Def K mg "_law_zero" s_law_zero ["_law_ask"]
  d_law : Def K mg "law" s_law ["_law_script"]
  c_gcd : mg "gcd" = some (.builtin "math.gcd")
  tL : Tok
  c_DIGITS : mg "DIGITS" = some (.str "0123456789" tL)
  tM : Tok
  c_PART : mg "PART" = some (.int 1000000000 tM)
  x_InvalidText : DX K mg "InvalidText" "InvalidText.__init__" (inS 3 0) ["self", "line"] ["line", "code"] "ValueError" "ValueError.__new__" "ValueError.__init__" [.type "ValueError", .type "Exception", .type "BaseException", .type "object"]
  aDayError : Addr
  c_DayError : mg "DayError" = some (.ref aDayError)
  aMissing : Addr
  c_Missing : mg "Missing" = some (.ref aMissing)
  aNothingLeft : Addr
  c_NothingLeft : mg "NothingLeft" = some (.ref aNothingLeft)
  aRatio : Addr
  c_Ratio : mg "Ratio" = some (.ref aRatio)
  mr_init : KDd K "__init__" "Ratio.__init__" s_mr_init [.int 1]
  kRatio : ClsD K aRatio mr_init.f ["top", "bottom"]
  mr_read : MD0 K "read" "Ratio.read" s_mr_read ["cls", "text"]
  pRead : Addr
  rdr : ClX.CRead K aRatio (.type "type")
  rdm : ClX.CMet K aRatio (.type "type") "read" pRead mr_read.f
  mr_over : MD K aRatio "over" "Ratio.over" s_mr_over ["self", "other"]
  mr_compare : MD K aRatio "compare" "Ratio.compare" s_mr_compare ["self", "other"]
  mr_floor : MD K aRatio "floor" "Ratio.floor" s_mr_floor ["self"]
  mr_ceiling : MD K aRatio "ceiling" "Ratio.ceiling" s_mr_ceiling ["self"]
  mr_add : MD K aRatio "__add__" "Ratio.__add__" s_mr_add ["self", "other"]
  mr_radd : MD K aRatio "__radd__" "Ratio.__radd__" s_mr_radd ["self", "other"]
  mr_sub : MD K aRatio "__sub__" "Ratio.__sub__" s_mr_sub ["self", "other"]
  mr_rsub : MD K aRatio "__rsub__" "Ratio.__rsub__" s_mr_rsub ["self", "other"]
  mr_mul : MD K aRatio "__mul__" "Ratio.__mul__" s_mr_mul ["self", "other"]
  mr_rmul : MD K aRatio "__rmul__" "Ratio.__rmul__" s_mr_rmul ["self", "other"]
  mr_floordiv : MD K aRatio "__floordiv__" "Ratio.__floordiv__" s_mr_floordiv ["self", "other"]
  mr_neg : MD K aRatio "__neg__" "Ratio.__neg__" s_mr_neg ["self"]
  mr_abs : MD K aRatio "__abs__" "Ratio.__abs__" s_mr_abs ["self"]
  mr_bool : MD K aRatio "__bool__" "Ratio.__bool__" s_mr_bool ["self"]
  mr_eq : MD K aRatio "__eq__" "Ratio.__eq__" s_mr_eq ["self", "other"]
  mr_str : MD K aRatio "__str__" "Ratio.__str__" s_mr_str ["self"]
  mr_repr : MD K aRatio "__repr__" "Ratio.__repr__" s_mr_repr ["self"]
  hn : PySem.W.specialIn K (.builtin "object.__class__") "__get__" = some (some (.builtin "getset_descriptor.__get__"))
  htk : PySem.W.takesIn K (.builtin "object.__class__") = some true
  selfR : PySem.W.selfFirst K aRatio = true
  subI : PySem.W.subIn K (.type "int") (.ref aRatio) = some false
  subR : PySem.W.subIn K (.ref aRatio) (.type "int") = some false
  noRF : PySem.W.findIn K (.ref aRatio) "__rfloordiv__" = some none
  ex_InvalidText : ∃ b, PySem.W.exmAny K (.ref x_InvalidText.C) [.ref aDayError, .ref aMissing, .ref aNothingLeft] = some b ∧ b = true
section
variable {K : PySem.W.Frag} {mg : Str → Option Value} (T : Txt K mg)
abbrev Txt.sR : Addr → Prop := fun D => D = T.aRatio
theorem Txt.famRatio : Fam K T.sR := ⟨fun _ h => h ▸ T.kRatio.cls, fun _ h => h ▸ T.kRatio.mo⟩
theorem Txt.eqRatio : EqF K T.sR T.mr_eq.f := ⟨fun C h => (T.mr_eq.M C h).at_, fun _ h => h ▸ T.kRatio.ne, (T.mr_eq.M _ rfl).fn⟩
theorem Txt.insR {H : Hp} {a d : Addr} {fs : List (Str × V)} (e : H a = some (.ins T.aRatio d fs)) : TyX K H (.ref a) (.ref T.aRatio) := .base (.ins e T.kRatio.cls T.kRatio.ha T.hn T.htk T.kRatio.mo)
theorem Txt.o_add : OwnOp K T.aRatio T.mr_add.f .Add := ⟨T.selfR, (T.mr_add.M _ rfl).at_, (T.mr_add.M _ rfl).fn, ⟨_, (T.mr_radd.M _ rfl).at_, .inr ⟨_, rfl⟩⟩, ⟨_, rfl⟩, ⟨_, rfl⟩, T.subI⟩
theorem Txt.o_sub : OwnOp K T.aRatio T.mr_sub.f .Sub := ⟨T.selfR, (T.mr_sub.M _ rfl).at_, (T.mr_sub.M _ rfl).fn, ⟨_, (T.mr_rsub.M _ rfl).at_, .inr ⟨_, rfl⟩⟩, ⟨_, rfl⟩, ⟨_, rfl⟩, T.subI⟩
theorem Txt.o_mul : OwnOp K T.aRatio T.mr_mul.f .Mult := ⟨T.selfR, (T.mr_mul.M _ rfl).at_, (T.mr_mul.M _ rfl).fn, ⟨_, (T.mr_rmul.M _ rfl).at_, .inr ⟨_, rfl⟩⟩, ⟨_, rfl⟩, ⟨_, rfl⟩, T.subI⟩
theorem Txt.o_floordiv : OwnOp K T.aRatio T.mr_floordiv.f .FloorDiv := ⟨T.selfR, (T.mr_floordiv.M _ rfl).at_, (T.mr_floordiv.M _ rfl).fn, ⟨_, T.noRF, .inl rfl⟩, ⟨_, rfl⟩, ⟨_, rfl⟩, T.subI⟩
theorem Txt.r_add : OwnOpR K T.aRatio T.mr_radd.f .Add := ⟨T.selfR, ⟨_, (T.mr_add.M _ rfl).at_⟩, (T.mr_radd.M _ rfl).at_, (T.mr_radd.M _ rfl).fn, T.subR⟩
theorem Txt.r_sub : OwnOpR K T.aRatio T.mr_rsub.f .Sub := ⟨T.selfR, ⟨_, (T.mr_sub.M _ rfl).at_⟩, (T.mr_rsub.M _ rfl).at_, (T.mr_rsub.M _ rfl).fn, T.subR⟩
theorem Txt.r_mul : OwnOpR K T.aRatio T.mr_rmul.f .Mult := ⟨T.selfR, ⟨_, (T.mr_mul.M _ rfl).at_⟩, (T.mr_rmul.M _ rfl).at_, (T.mr_rmul.M _ rfl).fn, T.subR⟩
theorem Txt.s_neg : PySem.W.findIn K (.ref T.aRatio) "__neg__" = some (some (.ref T.mr_neg.f)) ∧ PySem.W.isFn K (.ref T.mr_neg.f) = true := ⟨(T.mr_neg.M _ rfl).at_, (T.mr_neg.M _ rfl).fn⟩
end
def bl (c : Addr) (i r m n : Int) : HO := .lst [.ref c, .int i, .int r, .int m, .int n]
section
variable {P : Program} {w : World} {K : PySem.W.Frag} {mg : Str → Option Value} {base : Heap}
def spDraw : Sp := fun vs H Q _ => ∃ (b : Addr) (k : Int), vs = [.ref b, .int k] ∧ Bag H b ∧ 0 < k ∧ k ≤ 1000000001 ∧
  ∀ d H', Go b H H' → 0 ≤ d → d < k → Q (.int d) H'
theorem at0 {α : Type} {x : α} {r : List α} : atI (x :: r) 0 = some x := atI_nat (j := 0) rfl
theorem ok_law_pull (T : Txt K mg) : FnOk P w K mg base CX0 1 T.d__law_pull.f T.d__law_pull.fd ["_law_bag_here", "_law_many"] spDraw := by
  refine T.d__law_pull.F.ok sc_law_pull (fun vs H Q E h => ?_) (fun cdv A outer s H vs Q E hr h => ?_)
  · obtain ⟨b, k, rfl, _⟩ := h
    rfl
  · obtain ⟨b, k, rfl, hB, k0, k1, q⟩ := h
    refine ⟨_, (pss_cut (ps_if (PW.pt (pw_and (pt_cmpR op_eq (pe_ix ix_list (pv 0) pe_int (fun _ _ => rfl)) pe_int (nomark _)) (pw_and1 (pt_cmpR op_lt (pe_ix ix_list (pv 0) pe_int (fun _ _ => rfl)) (pe_callB call_len_seq (by rfl) T.z_len (by decide +kernel) (pa_cons (pe_ix ix_list (pv 0) pe_int (fun _ _ => rfl)) pa_nil)) (nomark _))))) (pss_cons (ps_set (i := 2) sc_law_pull.nd rfl (Or.inl rfl) (pe_callTy call_int1 (by rfl) T.z_int (by decide +kernel) (pa_cons (pe_ix ix_list (pe_ix ix_list (pv 0) pe_int (fun _ _ => rfl)) (pe_ix ix_list (pv 0) pe_int (fun _ _ => rfl)) (fun _ _ => rfl)) pa_nil)))
      (pss_cons (ps_asg (pe_op op_add (pe_ix ix_list (pv 0) pe_int (fun _ _ => rfl)) pe_int) (pg_sub (pv 0) pe_int set_list))
      (pss_one (ps_if (pt_cmpR op_ge (pe_callB call_abs (by rfl) T.z_abs (by decide +kernel) (pa_cons (pv 2) pa_nil)) (pe_op op_pow pe_int pe_int) (nomark _)) (pss_one (ps_asg (pe_callB call_abs (by rfl) T.z_abs (by decide +kernel) (pa_cons (pv 2) pa_nil)) (pg_sub (pv 0) pe_int set_list))) (pss_one (ps_asg (pe_op op_mod (pe_callTy call_int1 (by rfl) T.z_int (by decide +kernel) (pa_cons (pe_op op_add (pe_op op_add (pe_op op_mul (pe_ix ix_list (pv 0) pe_int (fun _ _ => rfl)) pe_int) (pe_op op_mul (pe_op op_mod (pe_callTy call_int1 (by rfl) T.z_int (by decide +kernel) (pa_cons (pv 2) pa_nil)) pe_int) pe_int)) pe_int) pa_nil)) pe_int) (pg_sub (pv 0) pe_int set_list))))))) pss_nil)
      (pss_cut (ps_if (pt_cmpR op_gt (pe_ix ix_list (pv 0) pe_int (fun _ _ => rfl)) pe_int (nomark _)) (pss_cons (ps_set (i := 3) sc_law_pull.nd rfl (Or.inl rfl) (pe_op op_mod (pe_callTy call_int1 (by rfl) T.z_int (by decide +kernel) (pa_cons (pe_ix ix_list (pv 0) pe_int (fun _ _ => rfl)) pa_nil)) (pv 1)))
      (pss_cons (ps_asg (pe_op op_fdiv (pe_ix ix_list (pv 0) pe_int (fun _ _ => rfl)) (pv 1)) (pg_sub (pv 0) pe_int set_list))
      (pss_one (ps_ret (pv 3))))) pss_nil)
      (pss_cons (ps_asg (pe_op op_add (pe_ix ix_list (pv 0) pe_int (fun _ _ => rfl)) pe_int) (pg_sub (pv 0) pe_int set_list))
      (pss_cons (ps_set (i := 4) sc_law_pull.nd rfl (Or.inl rfl) (pe_op op_mod (pe_callTy call_int1 (by rfl) T.z_int (by decide +kernel) (pa_cons (pe_op op_add (pe_op op_mul (pe_ix ix_list (pv 0) pe_int (fun _ _ => rfl)) (pe_ix ix_list (pv 0) pe_int (fun _ _ => rfl))) (pe_op op_mul (pe_ix ix_list (pv 0) pe_int (fun _ _ => rfl)) pe_int)) pa_nil)) pe_int))
      (pss_cons (ps_asg (pe_op op_mod (pe_callTy call_int1 (by rfl) T.z_int (by decide +kernel) (pa_cons (pe_op op_add (pe_op op_add (pe_op op_mul (pv 4) pe_int) (pe_op op_mul (pe_ix ix_list (pv 0) pe_int (fun _ _ => rfl)) pe_int)) pe_int) pa_nil)) pe_int) (pg_sub (pv 0) pe_int set_list))
      (pss_one (ps_ret (pe_op op_mod (pe_callTy call_int1 (by rfl) T.z_int (by decide +kernel) (pa_cons (pe_op op_fdiv (pe_ix ix_list (pv 0) pe_int (fun _ _ => rfl)) pe_int) pa_nil)) (pv 1))))))))), ?_⟩
    obtain ⟨c, ns, i, r, m, n, hb, hc, ec, i0, r0, m0, m1⟩ := hB
    have hcb : ∀ o, (upd H b o) c = some (.lst (ns.map V.int)) := fun o => by rw [upd_ne hc]; exact ec
    have h0 : upd H b (bl c i r m n) = H := by
      funext z
      by_cases e : z = b
      · subst e; rw [upd_same]; exact hb.symm
      · rw [upd_ne e]
    rw [← h0]
    refine ⟨fun σ H' => ∃ v i r m n, σ = [some (.ref b), some (.int k), v, none, none] ∧ H' = upd H b (bl c i r m n) ∧ 0 ≤ i ∧ 0 ≤ r ∧ 0 ≤ m ∧ m < 2147483587, ?_, ?_⟩
    · refine ⟨.ref b, rfl, b, _, 2, .int r, rfl, rfl, SqL.of upd_same, atI_nat (j := 2) rfl, rfl, _, rfl, ite2 (fun e => ?_) (fun e => ?_)⟩
      · refine ⟨.ref b, rfl, b, _, 1, .int i, rfl, rfl, SqL.of upd_same, atI_nat (j := 1) rfl, .ref b, rfl, b, _, 0, .ref c, rfl, rfl, SqL.of upd_same, atI_nat (j := 0) rfl, c, _, rfl, .inl (SqL.of (hcb _)), i, _, rfl, rfl, _, rfl, ite2 (fun e2 => ?_) (fun e2 => ?_)⟩
        · have hi : i < ns.length := by
            have := of_decide_eq_true e2
            rw [List.length_map] at this
            exact this
          obtain ⟨x, hx⟩ : ∃ x, (ns.map V.int)[i.toNat]? = some (.int x) := by
            have hj : i.toNat < ns.length := by omega
            exact ⟨ns[i.toNat], by rw [List.getElem?_map, List.getElem?_eq_getElem hj]; rfl⟩
          have ha : atI (ns.map V.int) i = some (.int x) := by
            have := atI_nat hx
            rwa [Int.toNat_of_nonneg i0] at this
          refine ⟨.ref b, rfl, b, _, 0, .ref c, rfl, rfl, SqL.of upd_same, atI_nat (j := 0) rfl, .ref b, rfl, b, _, 1, .int i, rfl, rfl, SqL.of upd_same, atI_nat (j := 1) rfl, c, _, i, .int x, rfl, rfl, SqL.of (hcb _), ha, .inl ⟨x, rfl, ?_⟩⟩
          refine ⟨.ref b, rfl, b, _, 1, .int i, rfl, rfl, SqL.of upd_same, atI_nat (j := 1) rfl, i, 1, rfl, rfl, .ref b, rfl, b, _, 1, 1, rfl, rfl, upd_same, rfl, ?_⟩
          rw [upd_upd]
          refine ⟨.int x, rfl, x, rfl, 10, 18, rfl, rfl, ⟨by decide, by decide, by decide⟩, _, _, rfl, rfl, _, rfl, ite2 (fun e3 => ?_) (fun e3 => ?_)⟩
          · refine ⟨.int x, rfl, x, rfl, .ref b, rfl, b, _, 2, 2, rfl, rfl, upd_same, rfl, ?_⟩
            rw [upd_upd]
            exact ⟨_, i + 1, _, m, n, rfl, rfl, by omega, by split <;> omega, m0, m1⟩
          · refine ⟨.ref b, rfl, b, _, 3, .int m, rfl, rfl, SqL.of upd_same, atI_nat (j := 3) rfl, m, _, rfl, rfl, .inr ⟨by decide, by decide⟩, .int x, rfl, .inl ⟨x, rfl, x, _, rfl, rfl, (by show (0 : Int) < 1000003; decide), _, _, rfl, rfl, .inr ⟨by decide, by decide⟩, _, _, rfl, rfl, _, _, rfl, rfl, .inl ⟨_, rfl, ?_⟩⟩⟩
            refine ⟨_, _, rfl, rfl, (by show (0 : Int) < 2147483587; decide), .ref b, rfl, b, _, 3, 3, rfl, rfl, upd_same, rfl, ?_⟩
            rw [upd_upd]
            exact ⟨_, i + 1, r, _, n, rfl, rfl, by omega, r0, Int.emod_nonneg _ (by decide), Int.emod_lt_of_pos _ (by decide)⟩
        · exact ⟨none, i, r, m, n, rfl, rfl, i0, r0, m0, m1⟩
      · exact iteF ⟨none, i, r, m, n, rfl, rfl, i0, r0, m0, m1⟩
    rintro σ H' ⟨v, i, r, m, n, rfl, rfl, i0, r0, m0, m1⟩
    have fin : ∀ i r m n : Int, 0 ≤ i → 0 ≤ r → 0 ≤ m → m < 2147483587 → Go b H (upd H b (bl c i r m n)) := fun i r m n i0 r0 m0 m1 =>
      ⟨⟨c, ns, i, r, m, n, upd_same, hc, hcb _, i0, r0, m0, m1⟩, fun a o na e => by rw [upd_ne na]; exact e, fun c2 h2 => by
        obtain ⟨r2, e2⟩ := h2
        rw [hb] at e2
        cases e2
        exact ⟨_, upd_same⟩⟩
    refine ⟨fun σ H' => σ = [some (.ref b), some (.int k), v, none, none] ∧ H' = upd H b (bl c i r m n), ?_, ?_⟩
    · refine ⟨.ref b, rfl, b, _, 2, .int r, rfl, rfl, SqL.of upd_same, atI_nat (j := 2) rfl, r, _, rfl, rfl, _, rfl, ite2 (fun e => ?_) (fun e => ?_)⟩
      · refine ⟨.ref b, rfl, b, _, 2, .int r, rfl, rfl, SqL.of upd_same, atI_nat (j := 2) rfl, .inl ⟨r, rfl, .int k, rfl, r, k, rfl, rfl, k0, ?_⟩⟩
        refine ⟨.ref b, rfl, b, _, 2, .int r, rfl, rfl, SqL.of upd_same, atI_nat (j := 2) rfl, .int k, rfl, r, k, rfl, rfl, ⟨k0, by omega⟩, .ref b, rfl, b, _, 2, 2, rfl, rfl, upd_same, rfl, ?_⟩
        rw [upd_upd]
        refine ⟨_, rfl, ?_⟩
        exact q _ _ (fin i (r / k) m n i0 (Int.ediv_nonneg r0 (by omega)) m0 m1) (Int.emod_nonneg _ (by omega)) (Int.emod_lt_of_pos _ k0)
      · exact ⟨rfl, rfl⟩
    rintro σ H' ⟨rfl, rfl⟩
    refine ⟨.ref b, rfl, b, _, 4, .int n, rfl, rfl, SqL.of upd_same, atI_nat (j := 4) rfl, n, 1, rfl, rfl, .ref b, rfl, b, _, 4, 4, rfl, rfl, upd_same, rfl, ?_⟩
    rw [upd_upd]
    refine ⟨.ref b, rfl, b, _, 3, .int m, rfl, rfl, SqL.of upd_same, atI_nat (j := 3) rfl, .ref b, rfl, b, _, 3, .int m, rfl, rfl, SqL.of upd_same, atI_nat (j := 3) rfl, m, m, rfl, rfl, .inl ⟨by omega, by omega⟩, .ref b, rfl, b, _, 4, .int (n + 1), rfl, rfl, SqL.of upd_same, atI_nat (j := 4) rfl, n + 1, _, rfl, rfl, .inr ⟨by decide, by decide⟩, _, _, rfl, rfl, .inl ⟨_, rfl, _, _, rfl, rfl, (by show (0 : Int) < 2147483543; decide), ?_⟩⟩
    dsimp only
    generalize ez : (m * m + (n + 1) * 8111) % 2147483543 = z
    have z0 : 0 ≤ z := by rw [← ez]; exact Int.emod_nonneg _ (by decide)
    have z1 : z < 2147483543 := by rw [← ez]; exact Int.emod_lt_of_pos _ (by decide)
    refine ⟨.int z, rfl, z, _, rfl, rfl, .inr ⟨by decide, by decide⟩, .ref b, rfl, b, _, 3, .int m, rfl, rfl, SqL.of upd_same, atI_nat (j := 3) rfl, m, _, rfl, rfl, .inr ⟨by decide, by decide⟩, _, _, rfl, rfl, _, _, rfl, rfl, .inl ⟨_, rfl, _, _, rfl, rfl, (by show (0 : Int) < 2147483587; decide), .ref b, rfl, b, _, 3, 3, rfl, rfl, upd_same, rfl, ?_⟩⟩
    rw [upd_upd]
    dsimp only
    generalize ey : (z * 16421 + m * 60107 + 54347) % 2147483587 = y
    have y0 : 0 ≤ y := by rw [← ey]; exact Int.emod_nonneg _ (by decide)
    have y1 : y < 2147483587 := by rw [← ey]; exact Int.emod_lt_of_pos _ (by decide)
    refine ⟨.ref b, rfl, b, _, 3, .int y, rfl, rfl, SqL.of upd_same, atI_nat (j := 3) rfl, y, _, rfl, rfl, ⟨by decide, by decide⟩, .inl ⟨_, rfl, .int k, rfl, _, k, rfl, rfl, k0, ?_⟩⟩
    exact q _ _ (fin i r y (n + 1) i0 r0 y0 y1) (Int.emod_nonneg _ (by omega)) (Int.emod_lt_of_pos _ k0)
end
end Rd
set_option maxHeartbeats 2000000
namespace Rd
open PySem PySem.Spec PyProof.Rows L2
open C8 (pss_cut tCut)
section
variable {P : Program} {w : World} {K : PySem.W.Frag} {mg : Str → Option Value} {base : Heap}
theorem same_new {H : Hp} {p : Addr} {o : HO} (h : H p = none) : Same H (upd H p o) := fun b x e => by
  rw [upd_ne (ne_of_none e h)]
  exact e
theorem ints_at {ns : List Int} {i : Nat} {y : V} (h : (ns.map V.int)[i]? = some y) : ∃ z, y = V.int z := by
  rw [List.getElem?_map] at h
  cases e : ns[i]? with
  | none => rw [e] at h; cases h
  | some z => rw [e] at h; exact ⟨z, (Option.some.inj h).symm⟩
theorem cut63 (ns : List Int) (h : ns.length ≤ 63) : cutV (ns.map V.int) none (some 63) = ns.map V.int := by
  unfold cutV
  have e1 : HT.sIx (ns.map V.int).length 0 none = 0 := HT.sIx_none _ _
  have e2 : HT.sIx (ns.map V.int).length (ns.map V.int).length (some 63) = min 63 (ns.map V.int).length := HT.sIx_nat _ _ 63
  rw [e1, e2, List.drop_zero, List.length_map]
  exact List.take_of_length_le (by rw [List.length_map]; omega)
def spBag (K : PySem.W.Frag) : Sp := fun vs H Q _ => ∃ (a : Addr) (ns : List Int), vs = [.ref a] ∧ SqL K H a (ns.map V.int) ∧ ns.length ≤ 63 ∧
  ∀ b H', H b = none → Same H H' → Bag H' b → Q (.ref b) H'
theorem ok_law_bag (T : Txt K mg) : FnOk P w K mg base CX0 1 T.d__law_bag.f T.d__law_bag.fd ["_law_script"] (spBag K) := by
  refine T.d__law_bag.F.ok sc_law_bag (fun vs H Q E h => ?_) (fun cdv A outer s H vs Q E hr h => ?_)
  · obtain ⟨b, k, rfl, _⟩ := h
    rfl
  · obtain ⟨a, ns, rfl, hS, hl, q⟩ := h
    refine ⟨_, (pss_one (ps_ret (pe_lst (pa_cons (pe_callTy call_list_of (by rfl) T.z_list (by decide +kernel) (pa_cons (pe_slice sl_list (pv 0) po_none (po_some pe_int)) pa_nil)) (pa_cons pe_int (pa_cons pe_int (pa_cons (pe_op op_add pe_int (pe_op op_mul pe_int (pe_callB call_len_seq (by rfl) T.z_len (by decide +kernel) (pa_cons (pe_slice sl_list (pv 0) po_none (po_some pe_int)) pa_nil)))) (pa_cons pe_int pa_nil)))))))), ?_⟩
    refine ⟨.ref a, rfl, 63, rfl, a, _, rfl, hS, fun p np => ?_⟩
    rw [cut63 ns hl]
    have s1 := same_new (o := .lst (ns.map V.int)) np
    refine ⟨p, _, rfl, .inl (SqL.of upd_same), fun c nc => ?_⟩
    have s2 := s1.trans (same_new (o := .lst (ns.map V.int)) nc)
    refine ⟨.ref a, rfl, 63, rfl, a, _, rfl, s2.seq hS, fun p2 np2 => ?_⟩
    rw [cut63 ns hl]
    have s3 := s2.trans (same_new (o := .lst (ns.map V.int)) np2)
    refine ⟨p2, _, rfl, .inl (SqL.of upd_same), _, _, rfl, rfl, .inl ⟨by decide, by decide⟩, _, _, rfl, rfl, by show 5 ≤ sizeLine; decide, fun b nb => ?_⟩
    have ncb : c ≠ b := ne_of_none (same_new (o := .lst (ns.map V.int)) np2 _ _ upd_same) nb
    have hl2 : (ns.map V.int).length ≤ 63 := by rw [List.length_map]; exact hl
    refine q b _ (s3.free nb) (s3.trans (same_new nb)) ⟨c, ns, 0, 0, _, 0, upd_same, ncb, by rw [upd_ne ncb]; exact same_new np2 _ _ upd_same, by decide, by decide, by omega, by omega⟩
/-! ### one of some -/
def spOfL : Sp := fun vs H Q _ => ∃ (b l : Addr) (xs : List V), vs = [.ref b, .ref l] ∧ Bag H b ∧ l ≠ b ∧ H l = some (.lst xs) ∧ 0 < xs.length ∧ xs.length < 1000 ∧
  ∀ v H', Go b H H' → v ∈ xs → Q v H'
theorem sc_of' : FnScope N_law_of ["_law_bag_here", "_law_some"] (defScope s_law_of) := sc_law_of
theorem atI_mem {xs : List V} {d : Int} (h0 : 0 ≤ d) (h1 : d < xs.length) : ∃ v, atI xs d = some v ∧ v ∈ xs := by
  have hj : d.toNat < xs.length := by omega
  refine ⟨xs[d.toNat], ?_, List.getElem_mem hj⟩
  have := atI_nat (xs := xs) (j := d.toNat) (v := xs[d.toNat]) (List.getElem?_eq_getElem hj)
  rwa [Int.toNat_of_nonneg h0] at this
theorem ok_law_ofL (T : Txt K mg) : FnOk P w K mg base CX0 2 T.d__law_of.f T.d__law_of.fd ["_law_bag_here", "_law_some"] spOfL := by
  refine T.d__law_of.F.ok sc_law_of (fun vs H Q E h => ?_) (fun cdv A outer s H vs Q E hr h => ?_)
  · obtain ⟨b, l, xs, rfl, _⟩ := h
    rfl
  · obtain ⟨b, l, xs, rfl, hB, nl, hl, h0, h1, q⟩ := h
    refine ⟨_, (pss_one (ps_ret (pe_ix ix_list (pv 1) (pe_call (ok_law_pull T) (hr.mono (by decide)) (by rfl) T.d__law_pull.g T.d__law_pull.F.kp T.d__law_pull.b .nil pass0 (pa_cons (pv 0) (pa_cons (pe_callB call_len_seq (by rfl) T.z_len (by decide +kernel) (pa_cons (pv 1) pa_nil)) pa_nil))) (fun _ _ => rfl)))), ?_⟩
    refine ⟨.ref l, rfl, .ref b, rfl, .ref l, rfl, l, xs, rfl, .inl (SqL.of hl), b, _, rfl, hB, by omega, by omega, fun d H' g d0 d1 => ?_⟩
    obtain ⟨v, hv, mv⟩ := atI_mem d0 d1
    exact ⟨l, xs, d, v, rfl, rfl, SqL.of (g.2 _ _ nl hl), hv, q v H' g mv⟩
/-- one sign of a text -/
def spOfS : Sp := fun vs H Q _ => ∃ (b : Addr) (z : Str), vs = [.ref b, .str z] ∧ Bag H b ∧ 0 < z.length ∧ z.length < 1000 ∧
  ∀ c H', Go b H H' → c ∈ z.cps.toList → Q (.str ⟨#[c]⟩) H'
theorem ok_law_ofS (T : Txt K mg) : FnOk P w K mg base CX0 2 T.d__law_of.f T.d__law_of.fd ["_law_bag_here", "_law_some"] spOfS := by
  refine T.d__law_of.F.ok sc_law_of (fun vs H Q E h => ?_) (fun cdv A outer s H vs Q E hr h => ?_)
  · obtain ⟨b, z, rfl, _⟩ := h
    rfl
  · obtain ⟨b, z, rfl, hB, h0, h1, q⟩ := h
    refine ⟨_, (pss_one (ps_ret (pe_ix ix_str (pv 1) (pe_call (ok_law_pull T) (hr.mono (by decide)) (by rfl) T.d__law_pull.g T.d__law_pull.F.kp T.d__law_pull.b .nil pass0 (pa_cons (pv 0) (pa_cons (pe_callB call_len_str (by rfl) T.z_len (by decide +kernel) (pa_cons (pv 1) pa_nil)) pa_nil))) (fun _ _ => rfl)))), ?_⟩
    refine ⟨.str z, rfl, .ref b, rfl, .str z, rfl, z, rfl, Nat.le_of_lt (small1000 (by omega)), b, _, rfl, hB, by omega, by omega, fun d H' g d0 d1 => ?_⟩
    have e : z.cps.toList.length = z.length := by simp [Str.length]
    have hj : d.toNat < z.cps.toList.length := by omega
    have ha := atI_nat (xs := z.cps.toList) (j := d.toNat) (List.getElem?_eq_getElem hj)
    rw [Int.toNat_of_nonneg d0] at ha
    exact ⟨z, d, _, rfl, rfl, Nat.le_of_lt (small1000 (by omega)), ha, q _ H' g (List.getElem_mem hj)⟩
end
end Rd
set_option maxHeartbeats 4000000
namespace Rd
open PySem PySem.Spec PyProof.Rows L2
open C8 (pss_cut tCut)
open RZ (ItzT pi_zipA)
/-! ### two values that are the same data -/
def isSc : V → Bool
  | .non => true
  | .bl _ => true
  | .int _ => true
  | .str _ => true
  | _ => false
def Eqv (K : PySem.W.Frag) (H : Hp) : Nat → V → V → Prop
  | 0, x, y => x = y ∧ isSc x = true
  | n + 1, x, y => (x = y ∧ isSc x = true) ∨ ∃ (a b : Addr) (xs ys : List V), x = .ref a ∧ y = .ref b ∧ ((SqL K H a xs ∧ SqL K H b ys) ∨ (SqT K H a xs ∧ SqT K H b ys)) ∧ xs.length = ys.length ∧ xs.length ≤ 1000 ∧
      ∀ (i : Nat) (x y : V), xs[i]? = some x → ys[i]? = some y → Eqv K H n x y
theorem Eqv.sc {K : PySem.W.Frag} {H : Hp} {x : V} (h : isSc x = true) : ∀ n, Eqv K H n x x
  | 0 => ⟨rfl, h⟩
  | _ + 1 => .inl ⟨rfl, h⟩
theorem same_seqT {K : PySem.W.Frag} {H H' : Hp} {a : Addr} {xs : List V} (e : Same H H') (h : SqT K H a xs) : SqT K H' a xs := by
  rcases h with (h | ⟨o, h⟩) | h
  · exact .inl (.inl (e _ _ h))
  · exact .inl (.inr ⟨o, e _ _ h⟩)
  · exact .inr h
theorem Eqv.same {K : PySem.W.Frag} {H H' : Hp} (s : Same H H') : ∀ {n : Nat} {x y : V}, Eqv K H n x y → Eqv K H' n x y
  | 0, _, _, h => h
  | n + 1, _, _, h => by
    rcases h with h | ⟨a, b, xs, ys, e1, e2, hq, l, l2, r⟩
    · exact .inl h
    · refine .inr ⟨a, b, xs, ys, e1, e2, ?_, l, l2, fun i x y h1 h2 => (r i x y h1 h2).same s⟩
      rcases hq with ⟨h1, h2⟩ | ⟨h1, h2⟩
      · exact .inl ⟨s.seq h1, s.seq h2⟩
      · exact .inr ⟨same_seqT s h1, same_seqT s h2⟩
theorem ty_seqL {K : PySem.W.Frag} {H : Hp} {a : Addr} {xs : List V} (h : SqL K H a xs) : TyX K H (.ref a) (.type "list") := by
  rcases h with (h | ⟨o, h⟩) | ⟨o, its, n, h, c, _⟩
  · exact .base (.lst h)
  · exact .base (.frz h)
  · exact .kList h c
theorem ty_seqT {K : PySem.W.Frag} {H : Hp} {a : Addr} {xs : List V} (h : SqT K H a xs) : TyX K H (.ref a) (.type "tuple") := by
  rcases h with (h | ⟨o, h⟩) | ⟨o, its, n, h, c, _⟩
  · exact .base (.tup h)
  · exact .fTuple h
  · exact .kTuple h c
/-- the built-in type of a value that is no object of an own class -/
def tyn : V → String
  | .non => "NoneType"
  | .bl _ => "bool"
  | .int _ => "int"
  | .str _ => "str"
  | _ => "list"
theorem ty_sc {K : PySem.W.Frag} {H : Hp} {x : V} (h : isSc x = true) : TyX K H x (.type (tyn x)) := by
  cases x with
  | non => exact .base .non
  | bl b => exact .base (.bl b)
  | int i => exact .base (.int i)
  | str s => exact .base (.str s)
  | _ => cases h
theorem kit2 {K : PySem.W.Frag} {t c1 c2 : String} {b1 b2 : Bool} (h1 : kitB t c1 = some b1) (h2 : kitB t c2 = some b2) : PySem.W.kitAny K (.type t) [.type c1, .type c2] = some (b1 || b2) := by
  refine kitAny_cons (kit_ty h1) (fun e => kitAny_cons (kit_ty h2) (fun e2 => ?_) fun e2 => ?_) fun e => ?_
  · rw [e, e2]; exact kitAny_nil
  · rw [e, e2]; rfl
  · rw [e]; rfl
section
variable {K : PySem.W.Frag} {a b : Addr} {xs ys : List V}
theorem walk_zipT {n : Nat} (hn : n = min xs.length ys.length) : Walk (ItzT K a b) n (fun H => SqT K H a xs ∧ SqT K H b ys) (YPair (fun i => xs[i]?) (fun i => ys[i]?)) where
  goes := fun i H hi q => by
    have h1 : i < xs.length := by omega
    have h2 : i < ys.length := by omega
    exact ⟨xs, ys, xs[i], ys[i], q.1, q.2, List.getElem?_eq_getElem h1, List.getElem?_eq_getElem h2⟩
  stops := fun H q => ⟨xs, ys, q.1, q.2, by omega⟩
  yields := fun i H v H' hi q y => by
    obtain ⟨T, x, z, h1, h2, h3, h4, h5⟩ := y
    exact ⟨T, x, z, h1, h2, h3, h4 xs q.1, h5 ys q.2⟩
end
section
variable {P : Program} {w : World} {K : PySem.W.Frag} {mg : Str → Option Value} {base : Heap}
def spSame (K : PySem.W.Frag) (n : Nat) : Sp := fun vs H Q _ => ∃ x y, vs = [x, y] ∧ Eqv K H n x y ∧ ∀ H', Same H H' → Q (.bl true) H'
theorem all_true (k : Nat) : (List.replicate k true).all id = true := by
  induction k with
  | zero => rfl
  | succ n ih => rw [List.replicate_succ, List.all_cons, ih]; rfl
theorem ok_law_like (T : Txt K mg) : ∀ n, FnOk P w K mg base CX0 (n + 1) T.d__law_like.f T.d__law_like.fd ["_law_found", "_law_due"] (spSame K n) := by
  -- the way of a value that is no list and no tuple
  have sc : ∀ (n : Nat) (x : V), isSc x = true → ∀ (cdv : Value) (A : Around) (outer : List Env) (s : Shared) (H : Hp) (Q : VK) (E : XK), Room n (A.deeper (envOfC "_law_like" (defScope s_law_like) s.heap.objs.size T.d__law_like.f cdv)) →
      (∀ H', Same H H' → Q (.bl true) H') →
      ∃ t, PSs (cxOf CX0 P w K mg base N_law_like "_law_like" (defScope s_law_like) T.d__law_like.f cdv A outer s H E).nox (defBody s_law_like) t ∧ t { nx := fun _ H' => Q .non H', rt := Q } (start N_law_like [x, x]) H := by
    intro n x hx cdv A outer s H Q E hr q
    refine ⟨_, (pss_cons (ps_if (PW.pt (pw_or (pt_cmpR op_isN (pv 1) pe_non (nomark _)) (pw_or1 (pt_cmpR op_isN (pv 0) pe_non (nomark _))))) (pss_one (ps_ret (pe_and (pe_cmpR op_isN (pv 1) pe_non (nomark _)) (pe_one (pe_cmpR op_isN (pv 0) pe_non (nomark _)))))) pss_nil)
      (pss_cons (ps_if (pt_val (pe_callB call_isiT (by rfl) T.z_isinstance (by decide +kernel) (pa_cons (pv 1) (pa_cons (pe_tup (pa_cons (pe_bltn (v := .ty "list") (by rfl) T.z_list (by decide +kernel) rfl) (pa_cons (pe_bltn (v := .ty "tuple") (by rfl) T.z_tuple (by decide +kernel) rfl) pa_nil))) pa_nil)))) (pss_cons ps_never (pss_one ps_never)) pss_nil)
      (pss_cons (ps_if (PW.pt (pw_or (pt_cmpR op_ne (pe_callB call_isi (by rfl) T.z_isinstance (by decide +kernel) (pa_cons (pv 1) (pa_cons (pe_bltn (v := .ty "bool") (by rfl) T.z_bool (by decide +kernel) rfl) pa_nil))) (pe_callB call_isi (by rfl) T.z_isinstance (by decide +kernel) (pa_cons (pv 0) (pa_cons (pe_bltn (v := .ty "bool") (by rfl) T.z_bool (by decide +kernel) rfl) pa_nil))) (nomark _)) (pw_or1 (pt_cmpR op_ne (pe_callB call_isi (by rfl) T.z_isinstance (by decide +kernel) (pa_cons (pv 1) (pa_cons (pe_bltn (v := .ty "int") (by rfl) T.z_int (by decide +kernel) rfl) pa_nil))) (pe_callB call_isi (by rfl) T.z_isinstance (by decide +kernel) (pa_cons (pv 0) (pa_cons (pe_bltn (v := .ty "int") (by rfl) T.z_int (by decide +kernel) rfl) pa_nil))) (nomark _))))) (pss_one (ps_ret pe_bl)) pss_nil)
      (pss_one (ps_ret (pe_and (pe_cmpR op_eq (pe_callB call_isi (by rfl) T.z_isinstance (by decide +kernel) (pa_cons (pv 0) (pa_cons (pe_bltn (v := .ty "str") (by rfl) T.z_str (by decide +kernel) rfl) pa_nil))) (pe_callB call_isi (by rfl) T.z_isinstance (by decide +kernel) (pa_cons (pv 1) (pa_cons (pe_bltn (v := .ty "str") (by rfl) T.z_str (by decide +kernel) rfl) pa_nil))) (nomark _)) (pe_one (pe_cmpR op_eq (pv 0) (pv 1) (nomark _))))))))), ?_⟩
    by_cases hn : x = .non
    · subst hn
      exact ⟨.non, rfl, rfl, true, rfl, iteT (iteT ⟨.non, rfl, rfl, true, rfl, iteT ⟨.non, rfl, rfl, q H (Same.refl H)⟩⟩)⟩
    · have hd : decide (x = V.non) = false := decide_eq_false hn
      refine ⟨x, rfl, rfl, false, by rw [hd], iteF ⟨x, rfl, rfl, false, by rw [hd], iteF ?_⟩⟩
      have kl : kitB (tyn x) "list" = some false ∧ kitB (tyn x) "tuple" = some false := by
        cases x with
        | non => exact absurd rfl hn
        | bl b => exact ⟨by show kitB "bool" _ = _; decide +kernel, by show kitB "bool" _ = _; decide +kernel⟩
        | int b => exact ⟨by show kitB "int" _ = _; decide +kernel, by show kitB "int" _ = _; decide +kernel⟩
        | str b => exact ⟨by show kitB "str" _ = _; decide +kernel, by show kitB "str" _ = _; decide +kernel⟩
        | _ => cases hx
      obtain ⟨bb, kb⟩ : ∃ bb, kitB (tyn x) "bool" = some bb := by
        cases x with
        | non => exact absurd rfl hn
        | bl b => exact ⟨true, by show kitB "bool" _ = _; decide +kernel⟩
        | int b => exact ⟨false, by show kitB "int" _ = _; decide +kernel⟩
        | str b => exact ⟨false, by show kitB "str" _ = _; decide +kernel⟩
        | _ => cases hx
      obtain ⟨bi, ki⟩ : ∃ bi, kitB (tyn x) "int" = some bi := by
        cases x with
        | non => exact absurd rfl hn
        | bl b => exact ⟨true, by show kitB "bool" _ = _; decide +kernel⟩
        | int b => exact ⟨true, by show kitB "int" _ = _; decide +kernel⟩
        | str b => exact ⟨false, by show kitB "str" _ = _; decide +kernel⟩
        | _ => cases hx
      obtain ⟨bs, ks⟩ : ∃ bs, kitB (tyn x) "str" = some bs := by
        cases x with
        | non => exact absurd rfl hn
        | bl b => exact ⟨false, by show kitB "bool" _ = _; decide +kernel⟩
        | int b => exact ⟨false, by show kitB "int" _ = _; decide +kernel⟩
        | str b => exact ⟨true, by show kitB "str" _ = _; decide +kernel⟩
        | _ => cases hx
      refine ⟨x, rfl, by show 2 ≤ sizeLine; decide, fun p np => ?_⟩
      refine ⟨x, p, [.ty "list", .ty "tuple"], _, _, false, rfl, upd_same, .cons (.ty _) (.cons (.ty _) .nil), ty_sc hx, kit2 kl.1 kl.2, false, rfl, iteF ?_⟩
      refine ⟨x, rfl, x, _, _, _, bb, rfl, .ty _, ty_sc hx, kit_ty kb, x, rfl, x, _, _, _, bb, rfl, .ty _, ty_sc hx, kit_ty kb, rfl, false, by rw [decide_eq_true rfl]; rfl, iteF ?_⟩
      refine ⟨x, rfl, x, _, _, _, bi, rfl, .ty _, ty_sc hx, kit_ty ki, x, rfl, x, _, _, _, bi, rfl, .ty _, ty_sc hx, kit_ty ki, rfl, false, by rw [decide_eq_true rfl]; rfl, iteF ?_⟩
      refine ⟨x, rfl, x, _, _, _, bs, rfl, .ty _, ty_sc hx, kit_ty ks, x, rfl, x, _, _, _, bs, rfl, .ty _, ty_sc hx, kit_ty ks, rfl, true, by rw [decide_eq_true rfl], iteT ?_⟩
      refine ⟨x, rfl, x, rfl, ?_, ?_⟩
      · cases x with
        | non => rfl
        | bl b => rfl
        | int b => rfl
        | str b => rfl
        | _ => cases hx
      · rw [decide_eq_true rfl]
        exact q _ (same_new np)
  intro n
  induction n with
  | zero =>
    refine T.d__law_like.F.ok sc_law_like (fun vs H Q E h => ?_) (fun cdv A outer s H vs Q E hr h => ?_)
    · obtain ⟨x, y, rfl, _⟩ := h
      rfl
    · obtain ⟨x, y, rfl, ⟨rfl, hx⟩, q⟩ := h
      exact sc 0 x hx cdv A outer s H Q E hr q
  | succ n ih =>
    refine T.d__law_like.F.ok sc_law_like (fun vs H Q E h => ?_) (fun cdv A outer s H vs Q E hr h => ?_)
    · obtain ⟨x, y, rfl, _⟩ := h
      rfl
    · obtain ⟨x, y, rfl, h, q⟩ := h
      rcases h with ⟨rfl, hx⟩ | ⟨a, b, xs, ys, rfl, rfl, hq, hl, hm, hr2⟩
      · exact sc (n + 1) x hx cdv A outer s H Q E hr q
      · refine ⟨_, (pss_cons (ps_if (PW.pt (pw_or (pt_cmpR op_isN (pv 1) pe_non (nomark _)) (pw_or1 (pt_cmpR op_isN (pv 0) pe_non (nomark _))))) (pss_one (ps_ret (pe_and (pe_cmpR op_isN (pv 1) pe_non (nomark _)) (pe_one (pe_cmpR op_isN (pv 0) pe_non (nomark _)))))) pss_nil)
      (pss_cons (ps_if (pt_val (pe_callB call_isiT (by rfl) T.z_isinstance (by decide +kernel) (pa_cons (pv 1) (pa_cons (pe_tup (pa_cons (pe_bltn (v := .ty "list") (by rfl) T.z_list (by decide +kernel) rfl) (pa_cons (pe_bltn (v := .ty "tuple") (by rfl) T.z_tuple (by decide +kernel) rfl) pa_nil))) pa_nil)))) (pss_cons (ps_if (PW.pt (pw_or (pt_cmpR op_ne (pe_callB call_isi (by rfl) T.z_isinstance (by decide +kernel) (pa_cons (pv 0) (pa_cons (pe_bltn (v := .ty "list") (by rfl) T.z_list (by decide +kernel) rfl) pa_nil))) (pe_callB call_isi (by rfl) T.z_isinstance (by decide +kernel) (pa_cons (pv 1) (pa_cons (pe_bltn (v := .ty "list") (by rfl) T.z_list (by decide +kernel) rfl) pa_nil))) (nomark _)) (pw_or1 (pt_cmpR op_ne (pe_callB call_isi (by rfl) T.z_isinstance (by decide +kernel) (pa_cons (pv 0) (pa_cons (pe_bltn (v := .ty "tuple") (by rfl) T.z_tuple (by decide +kernel) rfl) pa_nil))) (pe_callB call_isi (by rfl) T.z_isinstance (by decide +kernel) (pa_cons (pv 1) (pa_cons (pe_bltn (v := .ty "tuple") (by rfl) T.z_tuple (by decide +kernel) rfl) pa_nil))) (nomark _))))) (pss_one (ps_ret pe_bl)) pss_nil)
      (pss_one (ps_ret (pe_and (pe_cmpR op_eq (pe_callB call_len_seq (by rfl) T.z_len (by decide +kernel) (pa_cons (pv 0) pa_nil)) (pe_callB call_len_seq (by rfl) T.z_len (by decide +kernel) (pa_cons (pv 1) pa_nil)) (nomark _)) (pe_one (pe_callB (cr_all rfl) (by rfl) T.z_all (by decide +kernel) (pa_cons (pe_lc (own := [("_law_a", 2), ("_law_b", 3)]) (g := gTup K 2 (gCons (gName 2) (gCons (gName 3) gNil))) (tt := tYes) (by rfl) sc_law_like.nd (pi_zipA (by rfl) T.z_zip (pa_cons (pv 0) (pa_cons (pv 1) pa_nil))) (blkOk_by (own := [("_law_a", 2), ("_law_b", 3)]) (N := N_law_like) (sc := defScope s_law_like) (by decide +kernel)) (fun _ _ _ _ _ => (pg_tup rfl (pgs_cons (pg_name (i := 2) sc_law_like.nd rfl (Or.inl rfl)) (pgs_cons (pg_name (i := 3) sc_law_like.nd rfl (Or.inl rfl)) pgs_nil)))) (fun _ _ _ _ _ => pts_nil) (fun _ _ _ _ _ => (pe_call ih (hr.mono (Nat.le_refl _)) (by rfl) T.d__law_like.g T.d__law_like.F.kp T.d__law_like.b .nil pass0 (pa_cons (pv 2) (pa_cons (pv 3) pa_nil))))) pa_nil))))))) pss_nil)
      (pss_cons ps_never (pss_one ps_never)))), ?_⟩
        refine ⟨.ref b, rfl, rfl, false, rfl, iteF ⟨.ref a, rfl, rfl, false, rfl, iteF ?_⟩⟩
        obtain ⟨t, bl', bt, kl, kt, kor, tya, tyb⟩ : ∃ (t : String) (bl' bt : Bool), kitB t "list" = some bl' ∧ kitB t "tuple" = some bt ∧ (bl' || bt) = true ∧ (∀ H', Same H H' → TyX K H' (.ref a) (.type t)) ∧ (∀ H', Same H H' → TyX K H' (.ref b) (.type t)) := by
          rcases hq with ⟨h1, h2⟩ | ⟨h1, h2⟩
          · exact ⟨"list", true, false, by decide +kernel, by decide +kernel, rfl, fun _ s => ty_seqL (s.seq h1), fun _ s => ty_seqL (s.seq h2)⟩
          · exact ⟨"tuple", false, true, by decide +kernel, by decide +kernel, rfl, fun _ s => ty_seqT (same_seqT s h1), fun _ s => ty_seqT (same_seqT s h2)⟩
        refine ⟨.ref b, rfl, by show 2 ≤ sizeLine; decide, fun p np => ?_⟩
        have s1 := same_new (o := .tup [.ty "list", .ty "tuple"]) np
        refine ⟨.ref b, p, [.ty "list", .ty "tuple"], _, _, true, rfl, upd_same, .cons (.ty _) (.cons (.ty _) .nil), tyb _ s1, by rw [← kor]; exact kit2 kl kt, true, rfl, iteT ?_⟩
        refine ⟨.ref a, rfl, .ref a, _, _, _, bl', rfl, .ty _, tya _ s1, kit_ty kl, .ref b, rfl, .ref b, _, _, _, bl', rfl, .ty _, tyb _ s1, kit_ty kl, rfl, false, by rw [decide_eq_true rfl]; rfl, iteF ?_⟩
        refine ⟨.ref a, rfl, .ref a, _, _, _, bt, rfl, .ty _, tya _ s1, kit_ty kt, .ref b, rfl, .ref b, _, _, _, bt, rfl, .ty _, tyb _ s1, kit_ty kt, rfl, false, by rw [decide_eq_true rfl]; rfl, iteF ?_⟩
        have hq1 : (SqL K (upd H p (.tup [.ty "list", .ty "tuple"])) a xs ∧ SqL K (upd H p (.tup [.ty "list", .ty "tuple"])) b ys) ∨ (SqT K (upd H p (.tup [.ty "list", .ty "tuple"])) a xs ∧ SqT K (upd H p (.tup [.ty "list", .ty "tuple"])) b ys) := by
          rcases hq with ⟨h1, h2⟩ | ⟨h1, h2⟩
          · exact .inl ⟨s1.seq h1, s1.seq h2⟩
          · exact .inr ⟨same_seqT s1 h1, same_seqT s1 h2⟩
        generalize upd H p (.tup [.ty "list", .ty "tuple"]) = H1 at s1 hq1
        have hxa : SqL K H1 a xs ∨ SqT K H1 a xs := by rcases hq1 with ⟨h, _⟩ | ⟨h, _⟩; exact .inl h; exact .inr h
        have hyb : SqL K H1 b ys ∨ SqT K H1 b ys := by rcases hq1 with ⟨_, h⟩ | ⟨_, h⟩; exact .inl h; exact .inr h
        refine ⟨.ref a, rfl, a, xs, rfl, hxa, .ref b, rfl, b, ys, rfl, hyb, rfl, true, by rw [hl, decide_eq_true rfl], iteT ?_⟩
        refine ⟨.ref a, rfl, .ref b, rfl, a, b, xs, ys, rfl, ?_⟩
        have fin : ∀ D (H2 : Hp), (Same H1 H2 ∧ H2 D = some (.lst ((List.replicate xs.length true).map V.bl))) → ∃ (a : Addr) (bs : List Bool), [V.ref D] = [V.ref a] ∧ SqL K H2 a (bs.map V.bl) ∧ Q (.bl (bs.all id)) H2 := fun D H2 h => ⟨D, _, rfl, SqL.of h.2, by rw [all_true]; exact q _ (s1.trans h.1)⟩
        have hmin : xs.length = min xs.length ys.length := by omega
        rcases hq1 with ⟨h1, h2⟩ | ⟨h1, h2⟩
        · refine .inl ⟨h1, h2, fun D nD => lc_it (walk_zip (xs := xs) (ys := ys) hmin) (fun i H2 => Same H1 H2 ∧ H2 D = some (.lst ((List.replicate i true).map V.bl))) ⟨same_new nD, upd_same⟩ (fun i H2 _ h => ⟨h.1.seq h1, h.1.seq h2⟩) ?_ (fun H2 h => fin D H2 h)⟩
          rintro i x H2 H3 hi ⟨sm, eD⟩ ⟨T', u, v, rfl, nT, rfl, hu, hv⟩
          have sT := same_new (o := .tup [u, v]) nT
          refine ⟨T', [u, v], rfl, SqT.of upd_same, rfl, u, [v], rfl, v, [], rfl, rfl, rfl, ?_⟩
          refine ⟨u, rfl, v, rfl, u, v, rfl, (hr2 i u v hu hv).same (s1.trans (sm.trans sT)), fun H' s => ?_⟩
          refine ⟨_, s _ _ (sT _ _ eD), ?_, ?_, ?_⟩
          · rw [List.length_map, List.length_replicate]
            exact small1000 (by omega)
          · exact fun z o e => by rw [upd_ne (ne_of_none e nD)]; exact s _ _ (sT _ _ (sm _ _ e))
          · rw [upd_same, List.replicate_succ', List.map_append]
            rfl
        · refine .inr ⟨h1, h2, fun D nD => lc_it (walk_zipT (xs := xs) (ys := ys) hmin) (fun i H2 => Same H1 H2 ∧ H2 D = some (.lst ((List.replicate i true).map V.bl))) ⟨same_new nD, upd_same⟩ (fun i H2 _ h => ⟨same_seqT h.1 h1, same_seqT h.1 h2⟩) ?_ (fun H2 h => fin D H2 h)⟩
          rintro i x H2 H3 hi ⟨sm, eD⟩ ⟨T', u, v, rfl, nT, rfl, hu, hv⟩
          have sT := same_new (o := .tup [u, v]) nT
          refine ⟨T', [u, v], rfl, SqT.of upd_same, rfl, u, [v], rfl, v, [], rfl, rfl, rfl, ?_⟩
          refine ⟨u, rfl, v, rfl, u, v, rfl, (hr2 i u v hu hv).same (s1.trans (sm.trans sT)), fun H' s => ?_⟩
          refine ⟨_, s _ _ (sT _ _ eD), ?_, ?_, ?_⟩
          · rw [List.length_map, List.length_replicate]
            exact small1000 (by omega)
          · exact fun z o e => by rw [upd_ne (ne_of_none e nD)]; exact s _ _ (sT _ _ (sm _ _ e))
          · rw [upd_same, List.replicate_succ', List.map_append]
            rfl
end
end Rd
set_option maxHeartbeats 4000000
namespace Rd
open PySem PySem.Spec PyProof.Rows L2
open C8 (pss_cut tCut)
open RZ (ItzT pi_zipA)
/-! ## the program: names, numbers, ends, entries -/
inductive Kd (K : PySem.W.Frag) (H : Hp) : V → String → Prop
  | sc {x : V} (h : isSc x = true) : Kd K H x (tyn x)
  | lst {a : Addr} {xs : List V} (h : SqL K H a xs) : Kd K H (.ref a) "list"
  | tup {a : Addr} {xs : List V} (h : SqT K H a xs) : Kd K H (.ref a) "tuple"
theorem Kd.ty {K : PySem.W.Frag} {H : Hp} {v : V} {t : String} (h : Kd K H v t) : TyX K H v (.type t) := by
  cases h with
  | sc h => exact ty_sc h
  | lst h => exact ty_seqL h
  | tup h => exact ty_seqT h
theorem Kd.same {K : PySem.W.Frag} {H H' : Hp} {v : V} {t : String} (s : Same H H') (h : Kd K H v t) : Kd K H' v t := by
  cases h with
  | sc h => exact .sc h
  | lst h => exact .lst (s.seq h)
  | tup h => exact .tup (same_seqT s h)
def isS : V → Bool
  | .str _ => true
  | _ => false
def isB : V → Bool
  | .bl _ => true
  | _ => false
def isI : V → Bool
  | .bl _ => true
  | .int _ => true
  | _ => false
section
variable {K : PySem.W.Frag} {H : Hp} {v : V} {t : String}
theorem kd_cases {p : V → String → Prop} (h : Kd K H v t) (h1 : p .non "NoneType") (h2 : ∀ b, p (.bl b) "bool") (h3 : ∀ i, p (.int i) "int") (h4 : ∀ z, p (.str z) "str") (h5 : ∀ a, p (.ref a) "list") (h6 : ∀ a, p (.ref a) "tuple") : p v t := by
  cases h with
  | sc h =>
    cases v with
    | non => exact h1
    | bl b => exact h2 b
    | int i => exact h3 i
    | str z => exact h4 z
    | _ => cases h
  | lst h => exact h5 _
  | tup h => exact h6 _
theorem kd_str (h : Kd K H v t) : kitB t "str" = some (isS v) :=
  kd_cases (p := fun v t => kitB t "str" = some (isS v)) h (by show kitB "NoneType" "str" = some false; decide +kernel) (fun _ => by show kitB "bool" "str" = some false; decide +kernel) (fun _ => by show kitB "int" "str" = some false; decide +kernel) (fun _ => by show kitB "str" "str" = some true; decide +kernel) (fun _ => by show kitB "list" "str" = some false; decide +kernel) (fun _ => by show kitB "tuple" "str" = some false; decide +kernel)
theorem kd_int (h : Kd K H v t) : kitB t "int" = some (isI v) :=
  kd_cases (p := fun v t => kitB t "int" = some (isI v)) h (by show kitB "NoneType" "int" = some false; decide +kernel) (fun _ => by show kitB "bool" "int" = some true; decide +kernel) (fun _ => by show kitB "int" "int" = some true; decide +kernel) (fun _ => by show kitB "str" "int" = some false; decide +kernel) (fun _ => by show kitB "list" "int" = some false; decide +kernel) (fun _ => by show kitB "tuple" "int" = some false; decide +kernel)
theorem kd_bool (h : Kd K H v t) : kitB t "bool" = some (isB v) :=
  kd_cases (p := fun v t => kitB t "bool" = some (isB v)) h (by show kitB "NoneType" "bool" = some false; decide +kernel) (fun _ => by show kitB "bool" "bool" = some true; decide +kernel) (fun _ => by show kitB "int" "bool" = some false; decide +kernel) (fun _ => by show kitB "str" "bool" = some false; decide +kernel) (fun _ => by show kitB "list" "bool" = some false; decide +kernel) (fun _ => by show kitB "tuple" "bool" = some false; decide +kernel)
theorem kd_tuple (h : Kd K H v t) : kitB t "tuple" = some (decide (t = "tuple")) :=
  kd_cases (p := fun v t => kitB t "tuple" = some (decide (t = "tuple"))) h (by decide +kernel) (fun _ => by decide +kernel) (fun _ => by decide +kernel) (fun _ => by decide +kernel) (fun _ => by decide +kernel) (fun _ => by decide +kernel)
end
section
variable {P : Program} {w : World} {K : PySem.W.Frag} {mg : Str → Option Value} {base : Heap}
def spInteger (K : PySem.W.Frag) : Sp := fun vs H Q _ => ∃ v t, vs = [v] ∧ Kd K H v t ∧ Q (.bl (isI v && !isB v)) H
theorem ok_is_integer (T : Txt K mg) : FnOk P w K mg base CX0 1 T.d_is_integer.f T.d_is_integer.fd ["value"] (spInteger K) := by
  refine T.d_is_integer.F.ok sc_is_integer (fun vs H Q E h => ?_) (fun cdv A outer s H vs Q E hr h => ?_)
  · obtain ⟨v, t, rfl, _⟩ := h
    rfl
  · obtain ⟨v, t, rfl, hk, q⟩ := h
    refine ⟨_, (pss_one (ps_ret (pe_and (pe_callB call_isi (by rfl) T.z_isinstance (by decide +kernel) (pa_cons (pv 0) (pa_cons (pe_bltn (v := .ty "int") (by rfl) T.z_int (by decide +kernel) rfl) pa_nil))) (pe_one (pe_not (pe_callB call_isi (by rfl) T.z_isinstance (by decide +kernel) (pa_cons (pv 0) (pa_cons (pe_bltn (v := .ty "bool") (by rfl) T.z_bool (by decide +kernel) rfl) pa_nil)))))))), ?_⟩
    refine ⟨v, rfl, v, _, _, _, isI v, rfl, .ty _, hk.ty, kit_ty (kd_int hk), _, rfl, ?_⟩
    by_cases hi' : isI v = true
    · rw [hi'] at q ⊢
      exact iteT ⟨v, rfl, v, _, _, _, isB v, rfl, .ty _, hk.ty, kit_ty (kd_bool hk), _, rfl, q⟩
    · rw [Bool.eq_false_iff.mpr hi'] at q ⊢
      exact iteF q
/-! ### ratios -/
def rf (t b : Int) : List (Str × V) := [("top", .int t), ("bottom", .int b)]
def IsR (T : Txt K mg) (H : Hp) (p : Addr) (t b : Int) : Prop := ∃ d, H p = some (.ins T.aRatio d (rf t b))
theorem IsR.same {T : Txt K mg} {H H' : Hp} {p : Addr} {t b : Int} (h : IsR T H p t b) (s : Same H H') : IsR T H' p t b := let ⟨d, e⟩ := h; ⟨d, s _ _ e⟩
theorem ClsD.noA {C init : Addr} {fs : List Str} (c : ClsD K C init fs) (f : Str) (h : fs.contains f = true := by decide +kernel) : NoAttr K C f := c.no f h
/-- numbers that are small enough -/
def Sm (x : Int) : Prop := x.natAbs < 2 ^ 200
theorem Sm.div {x y : Int} (hy : y ≠ 0) (h : Sm y) : CDivZ x (cmn x y) := ⟨cmn_ne hy, by
  have h1 := cmn_le (x := x) hy
  have h2 := PySem.Flt.log2_lt_of (n := (cmn x y).natAbs) (k := 200) (by decide) (Nat.lt_of_le_of_lt h1 h)
  omega⟩
def spInitN (T : Txt K mg) : Sp := fun vs H Q _ => ∃ (p d : Addr) (x y : Int), vs = [.ref p, .int x, .int y] ∧ H p = some (.ins T.aRatio d []) ∧ y ≠ 0 ∧ Sm y ∧ Q .non (upd H p (.ins T.aRatio d (rf (nT x y) (nB x y))))
theorem rf_put (t b : V) : putF ("bottom" : Str) b (putF ("top" : Str) t []) = [(("top" : Str), t), (("bottom" : Str), b)] := by
  show (if ("top" : Str) = "bottom" then [(("top" : Str), b)] else (("top" : Str), t) :: putF ("bottom" : Str) b []) = _
  rw [if_neg (by decide)]
  rfl
theorem int_ne {x y : Int} (h : x ≠ y) : decide (V.int x = V.int y) = false := decide_eq_false fun z => h (V.int.inj z)
theorem init_tail {T : Txt K mg} {p d : Addr} {x y g : Int} {H : Hp} {D : Ends} (ea : H p = some (.ins T.aRatio d [])) (hy : y ≠ 0) (sm : Sm y) (e : g = cmn x y)
    (q : D.nx [some (.ref p), some (.int x), some (.int y), some (.int g)] (upd H p (.ins T.aRatio d (rf (nT x y) (nB x y))))) :
    tSeq (sFld K (tVar 0) (tOp (rI CDivZ fun i j => .int (i.fdiv j)) (tVar 1) (tVar 3)) "top") (sFld K (tVar 0) (tOp (rI CDivZ fun i j => .int (i.fdiv j)) (tVar 2) (tVar 3)) "bottom") D [some (.ref p), some (.int x), some (.int y), some (.int g)] H := by
  subst e
  have c := T.kRatio
  exact ⟨.int x, rfl, .int (cmn x y), rfl, x, cmn x y, rfl, rfl, sm.div hy, .ref p, rfl, p, T.aRatio, d, [], rfl, ea, c.cls, c.noA "top", by simp,
    .int y, rfl, .int (cmn x y), rfl, y, cmn x y, rfl, rfl, sm.div hy, .ref p, rfl, p, T.aRatio, d, _, rfl, upd_same, c.cls, c.noA "bottom", by show 1 < 1000; decide, by rw [rf_put, upd_upd]; exact q⟩
theorem ok_mr_initN (T : Txt K mg) : FnOk P w K mg base CX0 1 T.mr_init.f T.mr_init.fd ["self", "top", "bottom"] (spInitN T) := by
  refine FunD.ok T.mr_init.F sc_mr_init (fun vs H Q E h => ?_) (fun cdv A outer s H vs Q E hr h => ?_)
  · obtain ⟨p, d, x, y, rfl, _⟩ := h
    rfl
  · obtain ⟨p, d, x, y, rfl, ea, hy, sm, q⟩ := h
    have c := T.kRatio
    refine ⟨_, (pss_cons (ps_if (pt_cmpR op_eq (pv 2) pe_int (nomark _)) (pss_one ps_never) pss_nil)
      (pss_cons (ps_set (i := 3) sc_mr_init.nd rfl (Or.inl rfl) (pe_ifExp (pt_cmpR op_gt (pv 2) pe_int (nomark _)) (pe_callBfun cr_gcd (by rfl) T.c_gcd (pa_cons (pv 1) (pa_cons (pv 2) pa_nil))) (pe_un un_neg (pe_callBfun cr_gcd (by rfl) T.c_gcd (pa_cons (pv 1) (pa_cons (pv 2) pa_nil))))))
      (pss_cons (ps_fld (pv 0) (pe_op op_fdivZ (pv 1) (pv 3)) (by rfl))
      (pss_one (ps_fld (pv 0) (pe_op op_fdivZ (pv 2) (pv 3)) (by rfl)))))), ?_⟩
    refine ⟨.int y, rfl, rfl, _, rfl, ?_⟩
    rw [int_ne hy]
    refine iteF ?_
    refine ⟨.int y, rfl, y, 0, rfl, rfl, _, rfl, ite2 (fun e => ?_) (fun e => ?_)⟩
    · refine ⟨.int x, rfl, .int y, rfl, x, y, rfl, init_tail ea hy sm (by unfold cmn; rw [if_pos (of_decide_eq_true e)]; rfl) q⟩
    · refine ⟨.int x, rfl, .int y, rfl, x, y, rfl, _, rfl, init_tail ea hy sm (by unfold cmn; rw [if_neg (of_decide_eq_false (by simpa using e))]; rfl) q⟩
def spInitZ (T : Txt K mg) : Sp := fun vs H Q E => ∃ (p d : Addr) (x : Int), vs = [.ref p, .int x, .int 0] ∧ E (.type "ZeroDivisionError") none H
theorem ok_mr_initZ (T : Txt K mg) : FnOk P w K mg base (L2N.CX P w) 1 T.mr_init.f T.mr_init.fd ["self", "top", "bottom"] (spInitZ T) := by
  refine FunD.ok T.mr_init.F sc_mr_init (fun vs H Q E h => ?_) (fun cdv A outer s H vs Q E hr h => ?_)
  · obtain ⟨p, d, x, rfl, _⟩ := h
    rfl
  · obtain ⟨p, d, x, rfl, q⟩ := h
    refine ⟨_, (pss_cons (ps_if (pt_cmpR op_eq (pv 2) pe_int (nomark _)) (pss_one (L2N.ps_raise rfl (L2N.takes_of rfl rfl rfl rfl) (pmk_exN exb_ZeroDivisionError (by rfl) T.z_ZeroDivisionError boot_ZeroDivisionError))) pss_nil)
      (pss_cons (ps_set (i := 3) sc_mr_init.nd rfl (Or.inl rfl) (pe_ifExp (pt_cmpR op_gt (pv 2) pe_int (nomark _)) (pe_callBfun cr_gcd (by rfl) T.c_gcd (pa_cons (pv 1) (pa_cons (pv 2) pa_nil))) (pe_un un_neg (pe_callBfun cr_gcd (by rfl) T.c_gcd (pa_cons (pv 1) (pa_cons (pv 2) pa_nil))))))
      (pss_cons (ps_fld (pv 0) (pe_op op_fdivZ (pv 1) (pv 3)) (by rfl))
      (pss_one (ps_fld (pv 0) (pe_op op_fdivZ (pv 2) (pv 3)) (by rfl)))))), ?_⟩
    refine ⟨.int 0, rfl, rfl, _, rfl, iteT ?_⟩
    exact q
end
end Rd
set_option maxHeartbeats 4000000
namespace Rd
open PySem PySem.Spec PyProof.Rows L2
open C8 (pss_cut tCut)
section
variable {P : Program} {w : World} {K : PySem.W.Frag} {mg : Str → Option Value} {base : Heap} {T : Txt K mg}
/-- a ratio or a number -/
def OT (T : Txt K mg) (H : Hp) (v : V) (t b : Int) : Prop := (∃ p, v = .ref p ∧ IsR T H p t b) ∨ (v = .int t ∧ b = 1)
theorem OT.same {H H' : Hp} {v : V} {t b : Int} (h : OT T H v t b) (s : Same H H') : OT T H' v t b := by
  rcases h with ⟨p, e, h⟩ | h
  · exact .inl ⟨p, e, h.same s⟩
  · exact .inr h
def Lo (x : Int) : Prop := -(2 ^ 64) < x ∧ x < 2 ^ 64
theorem lo_nat {x : Int} (h : Lo x) : x.natAbs < 2 ^ 64 := by unfold Lo at h; omega
theorem sm_mul {x y : Int} (h : Lo x) (k : Lo y) : Sm (x * y) := by
  unfold Sm
  have := wide_lt (lo_nat h) (lo_nat k)
  exact Nat.lt_trans this (by decide)
theorem sm_lo {x : Int} (h : Lo x) : Sm x := Nat.lt_trans (lo_nat h) (by decide)
theorem Txt.bd1 (T : Txt K mg) : ∃ ds, Vals [V.int 1] ds ∧ Binds K T.mr_init.fd ["self", "top", "bottom"] ds :=
  FunD.binds1 (ps := ["self", "top", "bottom"]) T.mr_init.F 2 0 (by simp) rfl fun A kV doc pm an cdv ct us its l1 l2 => match us, its, l1, l2 with | [_, _], [_], _, _ => ⟨_, rfl, rfl⟩
theorem Txt.bd2 (T : Txt K mg) : Binds K T.mr_init.fd ["self", "top", "bottom"] [] := by
  obtain ⟨ds, v, b⟩ := FunD.binds1 (ps := ["self", "top", "bottom"]) T.mr_init.F 3 1 (by simp) rfl fun A kV doc pm an cdv ct us its l1 l2 => match us, its, l1, l2 with | [_, _, _], [_], _, _ => ⟨_, rfl, rfl⟩
  cases v
  exact b
/-- what the making of a ratio comes to -/
theorem mk_r {H : Hp} {x y : Int} {Q : VK} {E : XK} (hy : y ≠ 0) (sm : Sm y) (q : ∀ r H', Same H H' → IsR T H' r (nT x y) (nB x y) → Q (.ref r) H') :
    ∀ a dx, H a = none → H dx = none → dx ≠ a → spInitN T [.ref a, .int x, .int y] (upd (upd H dx (.own a)) a (.ins T.aRatio dx [])) (fun v H3 => v = .non ∧ Q (.ref a) H3) E := fun a dx na nd ne =>
  ⟨a, dx, x, y, rfl, upd_same, hy, sm, rfl, by
    rw [upd_upd]
    exact q a _ (fun b o e => by rw [upd_ne (ne_of_none e na), upd_ne (ne_of_none e nd)]; exact e) ⟨dx, upd_same⟩⟩
def spTerm (T : Txt K mg) : Sp := fun vs H Q _ => ∃ v t b, vs = [v] ∧ OT T H v t b ∧ Q (.bl true) H
theorem ok_is_term (T : Txt K mg) : FnOk P w K mg base CX0 2 T.d_is_term.f T.d_is_term.fd ["value"] (spTerm T) := by
  refine T.d_is_term.F.ok sc_is_term (fun vs H Q E h => ?_) (fun cdv A outer s H vs Q E hr h => ?_)
  · obtain ⟨v, t, b, rfl, _⟩ := h
    rfl
  · obtain ⟨v, t, b, rfl, h, q⟩ := h
    have c := T.kRatio
    refine ⟨_, (pss_one (ps_ret (pe_or (pe_callB call_isi (by rfl) T.z_isinstance (by decide +kernel) (pa_cons (pv 0) (pa_cons (pe_glob (v := .ref T.aRatio) rfl T.c_Ratio rfl) pa_nil))) (pe_one (pe_call (ok_is_integer T) (hr.mono (by decide)) (by rfl) T.d_is_integer.g T.d_is_integer.F.kp T.d_is_integer.b .nil pass0 (pa_cons (pv 0) pa_nil)))))), ?_⟩
    rcases h with ⟨p, rfl, d, e⟩ | ⟨rfl, _⟩
    · exact ⟨.ref p, rfl, .ref p, _, _, _, true, rfl, .own _, T.insR e, c.is, _, rfl, iteT q⟩
    · exact ⟨.int t, rfl, .int t, _, _, _, false, rfl, .own _, ty_sc rfl, c.nis "int" (by decide +kernel), _, rfl, iteF ⟨.int t, rfl, .int t, _, rfl, .sc rfl, q⟩⟩
def spAs (T : Txt K mg) : Sp := fun vs H Q _ => ∃ v t b, vs = [v] ∧ OT T H v t b ∧ ∀ r H', Same H H' → IsR T H' r t b → Q (.ref r) H'
theorem ok_as_ratio (T : Txt K mg) : FnOk P w K mg base CX0 3 T.d_as_ratio.f T.d_as_ratio.fd ["term"] (spAs T) := by
  refine T.d_as_ratio.F.ok sc_as_ratio (fun vs H Q E h => ?_) (fun cdv A outer s H vs Q E hr h => ?_)
  · obtain ⟨v, t, b, rfl, _⟩ := h
    rfl
  · obtain ⟨v, t, b, rfl, h, q⟩ := h
    have c := T.kRatio
    obtain ⟨ds, vd1, bd1⟩ := T.bd1
    refine ⟨_, (pss_one (ps_ret (pe_ifExp (pt_val (pe_callB call_isi (by rfl) T.z_isinstance (by decide +kernel) (pa_cons (pv 0) (pa_cons (pe_glob (v := .ref T.aRatio) rfl T.c_Ratio rfl) pa_nil)))) (pv 0) (pe_make T.kRatio.made (ok_mr_initN T) (hr.mono (by decide)) (by rfl) T.c_Ratio bd1 vd1 pass0 (pa_cons (pv 0) pa_nil))))), ?_⟩
    rcases h with ⟨p, rfl, d, e⟩ | ⟨rfl, rfl⟩
    · exact ⟨.ref p, rfl, .ref p, _, _, _, true, rfl, .own _, T.insR e, c.is, true, rfl, iteT ⟨.ref p, rfl, q p H (Same.refl H) ⟨d, e⟩⟩⟩
    · refine ⟨.int t, rfl, .int t, _, _, _, false, rfl, .own _, ty_sc rfl, c.nis "int" (by decide +kernel), false, rfl, iteF ⟨.int t, rfl, mk_r (by decide) (by unfold Sm; decide) fun r H' s i => ?_⟩⟩
      rw [(norm_of_red (red_int t)).1, (norm_of_red (red_int t)).2] at i
      exact q r H' s i
def sp_add (T : Txt K mg) : Sp := fun vs H Q _ => ∃ (p : Addr) (v : V) (x y z u : Int), vs = [.ref p, v] ∧ IsR T H p x y ∧ OT T H v z u ∧ Lo x ∧ Lo y ∧ Lo z ∧ Lo u ∧ y ≠ 0 ∧ u ≠ 0 ∧
  ∀ r H', Same H H' → IsR T H' r (nT (x * u + z * y) (y * u)) (nB (x * u + z * y) (y * u)) → Q (.ref r) H'
theorem ok_mr_add (T : Txt K mg) : FnOk P w K mg base CX0 4 T.mr_add.f T.mr_add.fd ["self", "other"] (sp_add T) := by
  refine T.mr_add.F.ok sc_mr_add (fun vs H Q E h => ?_) (fun cdv A outer s H vs Q E hr h => ?_)
  · obtain ⟨p, v, x, y, z, u, rfl, _⟩ := h
    rfl
  · obtain ⟨p, v, x, y, z, u, rfl, hp, ho, lx, ly, lz, lu, hy, hu, q⟩ := h
    have c := T.kRatio
    have bd2 := T.bd2
    refine ⟨_, (pss_cons (ps_if (pt_not (pt_val (pe_call (ok_is_term T) (hr.mono (by decide)) (by rfl) T.d_is_term.g T.d_is_term.F.kp T.d_is_term.b .nil pass0 (pa_cons (pv 1) pa_nil)))) (pss_one ps_never) pss_nil)
      (pss_cons (ps_set (i := 2) sc_mr_add.nd rfl (Or.inl rfl) (pe_call (ok_as_ratio T) (hr.mono (by decide)) (by rfl) T.d_as_ratio.g T.d_as_ratio.F.kp T.d_as_ratio.b .nil pass0 (pa_cons (pv 1) pa_nil)))
      (pss_one (ps_ret (pe_make T.kRatio.made (ok_mr_initN T) (hr.mono (by decide)) (by rfl) T.c_Ratio bd2 .nil pass0 (pa_cons (pe_op op_add (pe_op op_mul (pe_fld (pv 0) (by rfl)) (pe_fld (pv 2) (by rfl))) (pe_op op_mul (pe_fld (pv 2) (by rfl)) (pe_fld (pv 0) (by rfl)))) (pa_cons (pe_op op_mul (pe_fld (pv 0) (by rfl)) (pe_fld (pv 2) (by rfl))) pa_nil))))))), ?_⟩
    refine ⟨v, rfl, v, z, u, rfl, ho, _, rfl, iteF ?_⟩
    refine ⟨v, rfl, v, z, u, rfl, ho, fun r H1 s1 i1 => ?_⟩
    obtain ⟨dp, ep⟩ := hp.same s1
    obtain ⟨dr, er⟩ := i1
    exact ⟨.ref p, rfl, p, _, dp, _, _, rfl, ep, c.cls, c.noA "top", rfl, .ref r, rfl, r, _, dr, _, _, rfl, er, c.cls, c.noA "bottom", rfl, x, u, rfl, rfl, .inl lx, .ref r, rfl, r, _, dr, _, _, rfl, er, c.cls, c.noA "top", rfl, .ref p, rfl, p, _, dp, _, _, rfl, ep, c.cls, c.noA "bottom", rfl, z, y, rfl, rfl, .inl lz, _, _, rfl, rfl, .ref p, rfl, p, _, dp, _, _, rfl, ep, c.cls, c.noA "bottom", rfl, .ref r, rfl, r, _, dr, _, _, rfl, er, c.cls, c.noA "bottom", rfl, y, u, rfl, rfl, .inl ly,
      mk_r (Int.mul_ne_zero hy hu) (sm_mul ly lu) fun r' H' s2 i2 => q r' H' (s1.trans s2) i2⟩
def sp_mul (T : Txt K mg) : Sp := fun vs H Q _ => ∃ (p : Addr) (v : V) (x y z u : Int), vs = [.ref p, v] ∧ IsR T H p x y ∧ OT T H v z u ∧ Lo x ∧ Lo y ∧ Lo z ∧ Lo u ∧ y ≠ 0 ∧ u ≠ 0 ∧
  ∀ r H', Same H H' → IsR T H' r (nT (x * z) (y * u)) (nB (x * z) (y * u)) → Q (.ref r) H'
theorem ok_mr_mul (T : Txt K mg) : FnOk P w K mg base CX0 4 T.mr_mul.f T.mr_mul.fd ["self", "other"] (sp_mul T) := by
  refine T.mr_mul.F.ok sc_mr_mul (fun vs H Q E h => ?_) (fun cdv A outer s H vs Q E hr h => ?_)
  · obtain ⟨p, v, x, y, z, u, rfl, _⟩ := h
    rfl
  · obtain ⟨p, v, x, y, z, u, rfl, hp, ho, lx, ly, lz, lu, hy, hu, q⟩ := h
    have c := T.kRatio
    have bd2 := T.bd2
    refine ⟨_, (pss_cons (ps_if (pt_not (pt_val (pe_call (ok_is_term T) (hr.mono (by decide)) (by rfl) T.d_is_term.g T.d_is_term.F.kp T.d_is_term.b .nil pass0 (pa_cons (pv 1) pa_nil)))) (pss_one ps_never) pss_nil)
      (pss_cons (ps_set (i := 2) sc_mr_mul.nd rfl (Or.inl rfl) (pe_call (ok_as_ratio T) (hr.mono (by decide)) (by rfl) T.d_as_ratio.g T.d_as_ratio.F.kp T.d_as_ratio.b .nil pass0 (pa_cons (pv 1) pa_nil)))
      (pss_one (ps_ret (pe_make T.kRatio.made (ok_mr_initN T) (hr.mono (by decide)) (by rfl) T.c_Ratio bd2 .nil pass0 (pa_cons (pe_op op_mul (pe_fld (pv 0) (by rfl)) (pe_fld (pv 2) (by rfl))) (pa_cons (pe_op op_mul (pe_fld (pv 0) (by rfl)) (pe_fld (pv 2) (by rfl))) pa_nil))))))), ?_⟩
    refine ⟨v, rfl, v, z, u, rfl, ho, _, rfl, iteF ?_⟩
    refine ⟨v, rfl, v, z, u, rfl, ho, fun r H1 s1 i1 => ?_⟩
    obtain ⟨dp, ep⟩ := hp.same s1
    obtain ⟨dr, er⟩ := i1
    exact ⟨.ref p, rfl, p, _, dp, _, _, rfl, ep, c.cls, c.noA "top", rfl, .ref r, rfl, r, _, dr, _, _, rfl, er, c.cls, c.noA "top", rfl, x, z, rfl, rfl, .inl lx, .ref p, rfl, p, _, dp, _, _, rfl, ep, c.cls, c.noA "bottom", rfl, .ref r, rfl, r, _, dr, _, _, rfl, er, c.cls, c.noA "bottom", rfl, y, u, rfl, rfl, .inl ly,
      mk_r (Int.mul_ne_zero hy hu) (sm_mul ly lu) fun r' H' s2 i2 => q r' H' (s1.trans s2) i2⟩
end
end Rd
set_option maxHeartbeats 4000000
namespace Rd
open PySem PySem.Spec PyProof.Rows L2
open C8 (pss_cut tCut)
section
variable {P : Program} {w : World} {K : PySem.W.Frag} {mg : Str → Option Value} {base : Heap} {T : Txt K mg}
theorem OT.two {H : Hp} {v : V} {t b : Int} (h : OT T H v t b) : (∃ b dy gs, v = .ref b ∧ H b = some (.ins T.aRatio dy gs)) ∨ ∃ i, v = .int i := by
  rcases h with ⟨p, e, d, h⟩ | ⟨h, _⟩
  · exact .inl ⟨p, d, _, e, h⟩
  · exact .inr ⟨t, h⟩
theorem int_dec (x y : Int) : decide (V.int x = V.int y) = decide (x = y) := decide_eq_decide.mpr ⟨fun z => V.int.inj z, fun z => by rw [z]⟩
def sp_radd (T : Txt K mg) : Sp := fun vs H Q E => ∃ (p : Addr) (v : V) (x y z u : Int), vs = [.ref p, v] ∧ IsR T H p x y ∧ OT T H v z u ∧ Lo x ∧ Lo y ∧ Lo z ∧ Lo u ∧ y ≠ 0 ∧ u ≠ 0 ∧ ∀ r H', Same H H' → IsR T H' r (nT (x * u + z * y) (y * u)) (nB (x * u + z * y) (y * u)) → Q (.ref r) H'
theorem ok_mr_radd (T : Txt K mg) : FnOk P w K mg base CX0 5 T.mr_radd.f T.mr_radd.fd ["self", "other"] (sp_radd T) := by
  refine T.mr_radd.F.ok sc_mr_radd (fun vs H Q E h => ?_) (fun cdv A outer s H vs Q E hr h => ?_)
  · obtain ⟨p, v, x, y, z, u, rfl, _⟩ := h
    rfl
  · obtain ⟨p, v, x, y, z, u, rfl, h⟩ := h
    have c := T.kRatio
    have bd2 := T.bd2
    refine ⟨_, (pss_one (ps_ret (pe_op (op_own T.o_add (ok_mr_add T) (hr.mono (by decide)) T.mr_add.b pass0) (pv 0) (pv 1)))), ?_⟩
    obtain ⟨hp, ho, lx, ly, lz, lu, hy, hu, q⟩ := h
    obtain ⟨d, e⟩ := hp
    exact ⟨.ref p, rfl, v, rfl, p, d, _, rfl, e, ho.two, p, v, x, y, z, u, rfl, ⟨d, e⟩, ho, lx, ly, lz, lu, hy, hu, fun r H' s i => ⟨.inl ⟨r, rfl⟩, q r H' s i⟩⟩
def sp_rmul (T : Txt K mg) : Sp := fun vs H Q E => ∃ (p : Addr) (v : V) (x y z u : Int), vs = [.ref p, v] ∧ IsR T H p x y ∧ OT T H v z u ∧ Lo x ∧ Lo y ∧ Lo z ∧ Lo u ∧ y ≠ 0 ∧ u ≠ 0 ∧ ∀ r H', Same H H' → IsR T H' r (nT (x * z) (y * u)) (nB (x * z) (y * u)) → Q (.ref r) H'
theorem ok_mr_rmul (T : Txt K mg) : FnOk P w K mg base CX0 5 T.mr_rmul.f T.mr_rmul.fd ["self", "other"] (sp_rmul T) := by
  refine T.mr_rmul.F.ok sc_mr_rmul (fun vs H Q E h => ?_) (fun cdv A outer s H vs Q E hr h => ?_)
  · obtain ⟨p, v, x, y, z, u, rfl, _⟩ := h
    rfl
  · obtain ⟨p, v, x, y, z, u, rfl, h⟩ := h
    have c := T.kRatio
    have bd2 := T.bd2
    refine ⟨_, (pss_one (ps_ret (pe_op (op_own T.o_mul (ok_mr_mul T) (hr.mono (by decide)) T.mr_mul.b pass0) (pv 0) (pv 1)))), ?_⟩
    obtain ⟨hp, ho, lx, ly, lz, lu, hy, hu, q⟩ := h
    obtain ⟨d, e⟩ := hp
    exact ⟨.ref p, rfl, v, rfl, p, d, _, rfl, e, ho.two, p, v, x, y, z, u, rfl, ⟨d, e⟩, ho, lx, ly, lz, lu, hy, hu, fun r H' s i => ⟨.inl ⟨r, rfl⟩, q r H' s i⟩⟩
def sp_neg (T : Txt K mg) : Sp := fun vs H Q _ => ∃ (p : Addr) (x y : Int), vs = [.ref p] ∧ IsR T H p x y ∧ Red x y ∧ Lo y ∧ ∀ r H', Same H H' → IsR T H' r (-x) y → Q (.ref r) H'
theorem ok_mr_neg (T : Txt K mg) : FnOk P w K mg base CX0 3 T.mr_neg.f T.mr_neg.fd ["self"] (sp_neg T) := by
  refine T.mr_neg.F.ok sc_mr_neg (fun vs H Q E h => ?_) (fun cdv A outer s H vs Q E hr h => ?_)
  · obtain ⟨p, x, y, rfl, _⟩ := h
    rfl
  · obtain ⟨p, x, y, rfl, h⟩ := h
    have c := T.kRatio
    have bd2 := T.bd2
    refine ⟨_, (pss_one (ps_ret (pe_make T.kRatio.made (ok_mr_initN T) (hr.mono (by decide)) (by rfl) T.c_Ratio bd2 .nil pass0 (pa_cons (pe_un un_neg (pe_fld (pv 0) (by rfl))) (pa_cons (pe_fld (pv 0) (by rfl)) pa_nil))))), ?_⟩
    obtain ⟨⟨dp, ep⟩, hd, ly, q⟩ := h
    refine ⟨.ref p, rfl, p, _, dp, _, _, rfl, ep, c.cls, c.noA "top", rfl, x, rfl, .ref p, rfl, p, _, dp, _, _, rfl, ep, c.cls, c.noA "bottom", rfl, mk_r (Int.ne_of_gt hd.pos) (sm_lo ly) fun r H' s i => ?_⟩
    rw [(norm_of_red (red_neg hd)).1, (norm_of_red (red_neg hd)).2] at i
    exact q r H' s i
theorem red_abs' {x y : Int} (h : Red x y) : Red (if x < 0 then -x else x) y := by
  split
  · exact red_neg h
  · exact h
def sp_abs (T : Txt K mg) : Sp := fun vs H Q _ => ∃ (p : Addr) (x y : Int), vs = [.ref p] ∧ IsR T H p x y ∧ Red x y ∧ Lo y ∧ ∀ r H', Same H H' → IsR T H' r (if x < 0 then -x else x) y → Q (.ref r) H'
theorem ok_mr_abs (T : Txt K mg) : FnOk P w K mg base CX0 3 T.mr_abs.f T.mr_abs.fd ["self"] (sp_abs T) := by
  refine T.mr_abs.F.ok sc_mr_abs (fun vs H Q E h => ?_) (fun cdv A outer s H vs Q E hr h => ?_)
  · obtain ⟨p, x, y, rfl, _⟩ := h
    rfl
  · obtain ⟨p, x, y, rfl, h⟩ := h
    have c := T.kRatio
    have bd2 := T.bd2
    refine ⟨_, (pss_one (ps_ret (pe_make T.kRatio.made (ok_mr_initN T) (hr.mono (by decide)) (by rfl) T.c_Ratio bd2 .nil pass0 (pa_cons (pe_callB call_abs (by rfl) T.z_abs (by decide +kernel) (pa_cons (pe_fld (pv 0) (by rfl)) pa_nil)) (pa_cons (pe_fld (pv 0) (by rfl)) pa_nil))))), ?_⟩
    obtain ⟨⟨dp, ep⟩, hd, ly, q⟩ := h
    refine ⟨.ref p, rfl, p, _, dp, _, _, rfl, ep, c.cls, c.noA "top", rfl, x, rfl, .ref p, rfl, p, _, dp, _, _, rfl, ep, c.cls, c.noA "bottom", rfl, mk_r (Int.ne_of_gt hd.pos) (sm_lo ly) fun r H' s i => ?_⟩
    rw [(norm_of_red (red_abs' hd)).1, (norm_of_red (red_abs' hd)).2] at i
    exact q r H' s i
def sp_sub (T : Txt K mg) : Sp := fun vs H Q E => ∃ (p : Addr) (v : V) (x y z u : Int), vs = [.ref p, v] ∧ IsR T H p x y ∧ OT T H v z u ∧ Lo x ∧ Lo y ∧ Lo z ∧ Lo u ∧ y ≠ 0 ∧ u ≠ 0 ∧ Red z u ∧ ∀ r H', Same H H' → IsR T H' r (nT (x * u - z * y) (y * u)) (nB (x * u - z * y) (y * u)) → Q (.ref r) H'
theorem ok_mr_sub (T : Txt K mg) : FnOk P w K mg base CX0 5 T.mr_sub.f T.mr_sub.fd ["self", "other"] (sp_sub T) := by
  refine T.mr_sub.F.ok sc_mr_sub (fun vs H Q E h => ?_) (fun cdv A outer s H vs Q E hr h => ?_)
  · obtain ⟨p, v, x, y, z, u, rfl, _⟩ := h
    rfl
  · obtain ⟨p, v, x, y, z, u, rfl, h⟩ := h
    have c := T.kRatio
    have bd2 := T.bd2
    refine ⟨_, (pss_cons (ps_if (pt_not (pt_val (pe_call (ok_is_term T) (hr.mono (by decide)) (by rfl) T.d_is_term.g T.d_is_term.F.kp T.d_is_term.b .nil pass0 (pa_cons (pv 1) pa_nil)))) (pss_one ps_never) pss_nil)
      (pss_one (ps_ret (pe_op (op_own T.o_add (ok_mr_add T) (hr.mono (by decide)) T.mr_add.b pass0) (pv 0) (pe_un (un_own T.s_neg.1 T.s_neg.2 (ok_mr_neg T) (hr.mono (by decide)) T.mr_neg.b pass0) (pe_call (ok_as_ratio T) (hr.mono (by decide)) (by rfl) T.d_as_ratio.g T.d_as_ratio.F.kp T.d_as_ratio.b .nil pass0 (pa_cons (pv 1) pa_nil))))))), ?_⟩
    obtain ⟨hp, ho, lx, ly, lz, lu, hy, hu, hd, q⟩ := h
    refine ⟨v, rfl, v, z, u, rfl, ho, _, rfl, iteF ?_⟩
    refine ⟨.ref p, rfl, v, rfl, v, z, u, rfl, ho, fun r H1 s1 i1 => ?_⟩
    obtain ⟨dr, er⟩ := i1
    refine ⟨r, dr, _, rfl, er, r, z, u, rfl, ⟨dr, er⟩, hd, lu, fun r2 H2 s2 i2 => ?_⟩
    obtain ⟨d, e⟩ := (hp.same s1).same s2
    obtain ⟨d2, e2⟩ := i2
    have lz' : Lo (-z) := by unfold Lo at *; omega
    refine ⟨p, d, _, rfl, e, .inl ⟨r2, d2, _, rfl, e2⟩, p, .ref r2, x, y, -z, u, rfl, ⟨d, e⟩, .inl ⟨r2, rfl, d2, e2⟩, lx, ly, lz', lu, hy, hu, fun r3 H3 s3 i3 => ⟨.inl ⟨r3, rfl⟩, q r3 H3 ((s1.trans s2).trans s3) ?_⟩⟩
    rw [Int.sub_eq_add_neg, ← Int.neg_mul]
    exact i3
def sp_rsub (T : Txt K mg) : Sp := fun vs H Q E => ∃ (p : Addr) (v : V) (x y z u : Int), vs = [.ref p, v] ∧ IsR T H p x y ∧ OT T H v z u ∧ Lo x ∧ Lo y ∧ Lo z ∧ Lo u ∧ y ≠ 0 ∧ u ≠ 0 ∧ Red x y ∧ ∀ r H', Same H H' → IsR T H' r (nT (z * y - x * u) (y * u)) (nB (z * y - x * u) (y * u)) → Q (.ref r) H'
theorem ok_mr_rsub (T : Txt K mg) : FnOk P w K mg base CX0 5 T.mr_rsub.f T.mr_rsub.fd ["self", "other"] (sp_rsub T) := by
  refine T.mr_rsub.F.ok sc_mr_rsub (fun vs H Q E h => ?_) (fun cdv A outer s H vs Q E hr h => ?_)
  · obtain ⟨p, v, x, y, z, u, rfl, _⟩ := h
    rfl
  · obtain ⟨p, v, x, y, z, u, rfl, h⟩ := h
    have c := T.kRatio
    have bd2 := T.bd2
    refine ⟨_, (pss_one (ps_ret (pe_op (op_own T.o_add (ok_mr_add T) (hr.mono (by decide)) T.mr_add.b pass0) (pe_un (un_own T.s_neg.1 T.s_neg.2 (ok_mr_neg T) (hr.mono (by decide)) T.mr_neg.b pass0) (pv 0)) (pv 1)))), ?_⟩
    obtain ⟨hp, ho, lx, ly, lz, lu, hy, hu, hd, q⟩ := h
    obtain ⟨d, e⟩ := hp
    refine ⟨.ref p, rfl, p, d, _, rfl, e, p, x, y, rfl, ⟨d, e⟩, hd, ly, fun r H1 s1 i1 => ?_⟩
    obtain ⟨dr, er⟩ := i1
    have lx' : Lo (-x) := by unfold Lo at *; omega
    refine ⟨v, rfl, r, dr, _, rfl, er, (ho.same s1).two, r, v, -x, y, z, u, rfl, ⟨dr, er⟩, ho.same s1, lx', ly, lz, lu, hy, hu, fun r3 H3 s3 i3 => ⟨.inl ⟨r3, rfl⟩, q r3 H3 (s1.trans s3) ?_⟩⟩
    rw [Int.sub_eq_add_neg, Int.add_comm, ← Int.neg_mul]
    exact i3
def sp_bool (T : Txt K mg) : Sp := fun vs H Q _ => ∃ (p : Addr) (x y : Int), vs = [.ref p] ∧ IsR T H p x y ∧ Q (.bl (!decide (x = 0))) H
theorem ok_mr_bool (T : Txt K mg) : FnOk P w K mg base CX0 1 T.mr_bool.f T.mr_bool.fd ["self"] (sp_bool T) := by
  refine T.mr_bool.F.ok sc_mr_bool (fun vs H Q E h => ?_) (fun cdv A outer s H vs Q E hr h => ?_)
  · obtain ⟨p, x, y, rfl, _⟩ := h
    rfl
  · obtain ⟨p, x, y, rfl, h⟩ := h
    have c := T.kRatio
    have bd2 := T.bd2
    refine ⟨_, (pss_one (ps_ret (pe_callTy call_bool1 (by rfl) T.z_bool (by decide +kernel) (pa_cons (pe_cmpR op_ne (pe_fld (pv 0) (by rfl)) pe_int (nomark _)) pa_nil)))), ?_⟩
    obtain ⟨⟨dp, ep⟩, q⟩ := h
    refine ⟨.ref p, rfl, p, _, dp, _, _, rfl, ep, c.cls, c.noA "top", rfl, rfl, .inr ⟨_, rfl, ?_⟩⟩
    rw [int_dec]
    exact q
theorem cdz {x y : Int} (hy : y ≠ 0) (h : Sm y) : CDivZ x y := ⟨hy, by
  have h2 := PySem.Flt.log2_lt_of (n := y.natAbs) (k := 200) (by decide) h
  omega⟩
def sp_floor (T : Txt K mg) : Sp := fun vs H Q _ => ∃ (p : Addr) (x y : Int), vs = [.ref p] ∧ IsR T H p x y ∧ y ≠ 0 ∧ Lo y ∧ Q (.int (x.fdiv y)) H
theorem ok_mr_floor (T : Txt K mg) : FnOk P w K mg base CX0 1 T.mr_floor.f T.mr_floor.fd ["self"] (sp_floor T) := by
  refine T.mr_floor.F.ok sc_mr_floor (fun vs H Q E h => ?_) (fun cdv A outer s H vs Q E hr h => ?_)
  · obtain ⟨p, x, y, rfl, _⟩ := h
    rfl
  · obtain ⟨p, x, y, rfl, h⟩ := h
    have c := T.kRatio
    have bd2 := T.bd2
    refine ⟨_, (pss_one (ps_ret (pe_op op_fdivZ (pe_fld (pv 0) (by rfl)) (pe_fld (pv 0) (by rfl))))), ?_⟩
    obtain ⟨⟨dp, ep⟩, hy, ly, q⟩ := h
    exact ⟨.ref p, rfl, p, _, dp, _, _, rfl, ep, c.cls, c.noA "top", rfl, .ref p, rfl, p, _, dp, _, _, rfl, ep, c.cls, c.noA "bottom", rfl, x, y, rfl, rfl, cdz hy (sm_lo ly), q⟩
def sp_ceiling (T : Txt K mg) : Sp := fun vs H Q _ => ∃ (p : Addr) (x y : Int), vs = [.ref p] ∧ IsR T H p x y ∧ y ≠ 0 ∧ Lo y ∧ Q (.int (-((-x).fdiv y))) H
theorem ok_mr_ceiling (T : Txt K mg) : FnOk P w K mg base CX0 1 T.mr_ceiling.f T.mr_ceiling.fd ["self"] (sp_ceiling T) := by
  refine T.mr_ceiling.F.ok sc_mr_ceiling (fun vs H Q E h => ?_) (fun cdv A outer s H vs Q E hr h => ?_)
  · obtain ⟨p, x, y, rfl, _⟩ := h
    rfl
  · obtain ⟨p, x, y, rfl, h⟩ := h
    have c := T.kRatio
    have bd2 := T.bd2
    refine ⟨_, (pss_one (ps_ret (pe_un un_neg (pe_op op_fdivZ (pe_un un_neg (pe_fld (pv 0) (by rfl))) (pe_fld (pv 0) (by rfl)))))), ?_⟩
    obtain ⟨⟨dp, ep⟩, hy, ly, q⟩ := h
    exact ⟨.ref p, rfl, p, _, dp, _, _, rfl, ep, c.cls, c.noA "top", rfl, x, rfl, .ref p, rfl, p, _, dp, _, _, rfl, ep, c.cls, c.noA "bottom", rfl, -x, y, rfl, rfl, cdz hy (sm_lo ly), _, rfl, q⟩
def sgn (d : Int) : Int := if d = 0 then 0 else if 0 < d then 1 else -1
def sp_compare (T : Txt K mg) : Sp := fun vs H Q _ => ∃ (p : Addr) (v : V) (x y z u : Int), vs = [.ref p, v] ∧ IsR T H p x y ∧ OT T H v z u ∧ Lo x ∧ Lo y ∧ Lo z ∧ Lo u ∧ ∀ H', Same H H' → Q (.int (sgn (x * u - z * y))) H'
theorem ok_mr_compare (T : Txt K mg) : FnOk P w K mg base CX0 4 T.mr_compare.f T.mr_compare.fd ["self", "other"] (sp_compare T) := by
  refine T.mr_compare.F.ok sc_mr_compare (fun vs H Q E h => ?_) (fun cdv A outer s H vs Q E hr h => ?_)
  · obtain ⟨p, v, x, y, z, u, rfl, _⟩ := h
    rfl
  · obtain ⟨p, v, x, y, z, u, rfl, h⟩ := h
    have c := T.kRatio
    have bd2 := T.bd2
    refine ⟨_, (pss_cons (ps_set (i := 2) sc_mr_compare.nd rfl (Or.inl rfl) (pe_call (ok_as_ratio T) (hr.mono (by decide)) (by rfl) T.d_as_ratio.g T.d_as_ratio.F.kp T.d_as_ratio.b .nil pass0 (pa_cons (pv 1) pa_nil)))
      (pss_cons (ps_set (i := 3) sc_mr_compare.nd rfl (Or.inl rfl) (pe_op op_sub (pe_op op_mul (pe_fld (pv 0) (by rfl)) (pe_fld (pv 2) (by rfl))) (pe_op op_mul (pe_fld (pv 2) (by rfl)) (pe_fld (pv 0) (by rfl)))))
      (pss_cons (ps_if (pt_cmpR op_eq (pv 3) pe_int (nomark _)) (pss_one (ps_ret pe_int)) pss_nil)
      (pss_one (ps_ret (pe_ifExp (pt_cmpR op_gt (pv 3) pe_int (nomark _)) pe_int (pe_un un_neg pe_int))))))), ?_⟩
    obtain ⟨hp, ho, lx, ly, lz, lu, q⟩ := h
    refine ⟨v, rfl, v, z, u, rfl, ho, fun r H1 s1 i1 => ?_⟩
    obtain ⟨dp, ep⟩ := hp.same s1
    obtain ⟨dr, er⟩ := i1
    refine ⟨.ref p, rfl, p, _, dp, _, _, rfl, ep, c.cls, c.noA "top", rfl, .ref r, rfl, r, _, dr, _, _, rfl, er, c.cls, c.noA "bottom", rfl, x, u, rfl, rfl, .inl lx, .ref r, rfl, r, _, dr, _, _, rfl, er, c.cls, c.noA "top", rfl, .ref p, rfl, p, _, dp, _, _, rfl, ep, c.cls, c.noA "bottom", rfl, z, y, rfl, rfl, .inl lz, _, _, rfl, rfl, ?_⟩
    have q1 := q H1 s1
    unfold sgn at q1
    refine ⟨.int (x * u - z * y), rfl, rfl, _, rfl, ?_⟩
    rw [int_dec]
    refine ite2 (fun e => ?_) (fun e => ?_)
    · rw [if_pos (of_decide_eq_true e)] at q1
      exact q1
    · have e' : ¬ (x * u - z * y) = 0 := of_decide_eq_false (by simpa using e)
      rw [if_neg e'] at q1
      refine ⟨.int (x * u - z * y), rfl, x * u - z * y, 0, rfl, rfl, _, rfl, ite2 (fun e2 => ?_) (fun e2 => ?_)⟩
      · rw [if_pos (of_decide_eq_true e2)] at q1
        exact q1
      · rw [if_neg (of_decide_eq_false (by simpa using e2))] at q1
        exact ⟨1, rfl, q1⟩
def sp_eq (T : Txt K mg) : Sp := fun vs H Q _ => ∃ (p : Addr) (v : V) (x y : Int), vs = [.ref p, v] ∧ IsR T H p x y ∧ ((∃ r z u, v = .ref r ∧ IsR T H r z u ∧ Q (.bl (decide (x = z) && decide (y = u))) H) ∨ (∃ n, v = .int n ∧ Q (.bl (decide (y = 1) && decide (x = n))) H) ∨ ∃ s, v = .str s ∧ Q (.bl false) H)
theorem ok_mr_eq (T : Txt K mg) : FnOk P w K mg base CX0 2 T.mr_eq.f T.mr_eq.fd ["self", "other"] (sp_eq T) := by
  refine T.mr_eq.F.ok sc_mr_eq (fun vs H Q E h => ?_) (fun cdv A outer s H vs Q E hr h => ?_)
  · obtain ⟨p, v, x, y, rfl, _⟩ := h
    rfl
  · obtain ⟨p, v, x, y, rfl, h⟩ := h
    have c := T.kRatio
    have bd2 := T.bd2
    refine ⟨_, (pss_cons (ps_if (pt_val (pe_callB call_isi (by rfl) T.z_isinstance (by decide +kernel) (pa_cons (pv 1) (pa_cons (pe_glob (v := .ref T.aRatio) rfl T.c_Ratio rfl) pa_nil)))) (pss_one (ps_ret (pe_and (pe_cmpR op_eq (pe_fld (pv 0) (by rfl)) (pe_fld (pv 1) (by rfl)) (nomark _)) (pe_one (pe_cmpR op_eq (pe_fld (pv 0) (by rfl)) (pe_fld (pv 1) (by rfl)) (nomark _)))))) pss_nil)
      (pss_one (ps_ret (pe_and (pe_call (ok_is_integer T) (hr.mono (by decide)) (by rfl) T.d_is_integer.g T.d_is_integer.F.kp T.d_is_integer.b .nil pass0 (pa_cons (pv 1) pa_nil)) (pe_and (pe_cmpR op_eq (pe_fld (pv 0) (by rfl)) pe_int (nomark _)) (pe_one (pe_cmpR op_eq (pe_fld (pv 0) (by rfl)) (pv 1) (nomark _)))))))), ?_⟩
    obtain ⟨⟨dp, ep⟩, h⟩ := h
    rcases h with ⟨r, z, u, rfl, ⟨dr, er⟩, q⟩ | ⟨n, rfl, q⟩ | ⟨t, rfl, q⟩
    · refine ⟨.ref r, rfl, .ref r, _, _, _, true, rfl, .own _, T.insR er, c.is, _, rfl, iteT ?_⟩
      refine ⟨.ref p, rfl, p, _, dp, _, _, rfl, ep, c.cls, c.noA "top", rfl, .ref r, rfl, r, _, dr, _, _, rfl, er, c.cls, c.noA "top", rfl, rfl, _, rfl, ?_⟩
      rw [int_dec]
      by_cases e : x = z
      · rw [decide_eq_true e] at q ⊢
        refine iteT ⟨.ref p, rfl, p, _, dp, _, _, rfl, ep, c.cls, c.noA "bottom", rfl, .ref r, rfl, r, _, dr, _, _, rfl, er, c.cls, c.noA "bottom", rfl, rfl, ?_⟩
        rw [int_dec]
        exact q
      · rw [decide_eq_false e] at q ⊢
        exact iteF q
    · refine ⟨.int n, rfl, .int n, _, _, _, false, rfl, .own _, ty_sc rfl, c.nis "int" (by decide +kernel), _, rfl, iteF ?_⟩
      refine ⟨.int n, rfl, .int n, _, rfl, .sc rfl, _, rfl, iteT ⟨.ref p, rfl, p, _, dp, _, _, rfl, ep, c.cls, c.noA "bottom", rfl, rfl, _, rfl, ?_⟩⟩
      rw [int_dec]
      by_cases e : y = 1
      · rw [decide_eq_true e] at q ⊢
        refine iteT ⟨.ref p, rfl, p, _, dp, _, _, rfl, ep, c.cls, c.noA "top", rfl, .int n, rfl, rfl, ?_⟩
        rw [int_dec]
        exact q
      · rw [decide_eq_false e] at q ⊢
        exact iteF q
    · refine ⟨.str t, rfl, .str t, _, _, _, false, rfl, .own _, ty_sc rfl, c.nis "str" (by decide +kernel), _, rfl, iteF ?_⟩
      exact ⟨.str t, rfl, .str t, _, rfl, .sc rfl, _, rfl, iteF q⟩
def sp_overN (T : Txt K mg) : Sp := fun vs H Q E => ∃ (p : Addr) (v : V) (x y z u : Int), vs = [.ref p, v] ∧ IsR T H p x y ∧ OT T H v z u ∧ Lo x ∧ Lo y ∧ Lo z ∧ Lo u ∧ y ≠ 0 ∧ u ≠ 0 ∧ z ≠ 0 ∧ ∀ r H', Same H H' → IsR T H' r (nT (x * u) (y * z)) (nB (x * u) (y * z)) → Q (.ref r) H'
theorem ok_mr_overN (T : Txt K mg) : FnOk P w K mg base CX0 4 T.mr_over.f T.mr_over.fd ["self", "other"] (sp_overN T) := by
  refine T.mr_over.F.ok sc_mr_over (fun vs H Q E h => ?_) (fun cdv A outer s H vs Q E hr h => ?_)
  · obtain ⟨p, v, x, y, z, u, rfl, _⟩ := h
    rfl
  · obtain ⟨p, v, x, y, z, u, rfl, h⟩ := h
    have c := T.kRatio
    have bd2 := T.bd2
    refine ⟨_, (pss_cons (ps_set (i := 2) sc_mr_over.nd rfl (Or.inl rfl) (pe_call (ok_as_ratio T) (hr.mono (by decide)) (by rfl) T.d_as_ratio.g T.d_as_ratio.F.kp T.d_as_ratio.b .nil pass0 (pa_cons (pv 1) pa_nil)))
      (pss_one (ps_ret (pe_make T.kRatio.made (ok_mr_initN T) (hr.mono (by decide)) (by rfl) T.c_Ratio bd2 .nil pass0 (pa_cons (pe_op op_mul (pe_fld (pv 0) (by rfl)) (pe_fld (pv 2) (by rfl))) (pa_cons (pe_op op_mul (pe_fld (pv 0) (by rfl)) (pe_fld (pv 2) (by rfl))) pa_nil)))))), ?_⟩
    obtain ⟨hp, ho, lx, ly, lz, lu, hy, hu, hz, q⟩ := h
    refine ⟨v, rfl, v, z, u, rfl, ho, fun r H1 s1 i1 => ?_⟩
    obtain ⟨dp, ep⟩ := hp.same s1
    obtain ⟨dr, er⟩ := i1
    exact ⟨.ref p, rfl, p, _, dp, _, _, rfl, ep, c.cls, c.noA "top", rfl, .ref r, rfl, r, _, dr, _, _, rfl, er, c.cls, c.noA "bottom", rfl, x, u, rfl, rfl, .inl lx, .ref p, rfl, p, _, dp, _, _, rfl, ep, c.cls, c.noA "bottom", rfl, .ref r, rfl, r, _, dr, _, _, rfl, er, c.cls, c.noA "top", rfl, y, z, rfl, rfl, .inl ly, mk_r (Int.mul_ne_zero hy hz) (sm_mul ly lz) fun r' H' s2 i2 => q r' H' (s1.trans s2) i2⟩
def sp_overZ (T : Txt K mg) : Sp := fun vs H Q E => ∃ (p : Addr) (v : V) (x y z u : Int), vs = [.ref p, v] ∧ IsR T H p x y ∧ OT T H v z u ∧ Lo x ∧ Lo y ∧ Lo z ∧ Lo u ∧ y ≠ 0 ∧ u ≠ 0 ∧ z = 0 ∧ ∀ d H', Same H H' → E (.type "ZeroDivisionError") d H'
theorem ok_mr_overZ (T : Txt K mg) : FnOk P w K mg base (L2N.CX P w) 4 T.mr_over.f T.mr_over.fd ["self", "other"] (sp_overZ T) := by
  refine Fun.okXN T.mr_over.F sc_mr_over (fun vs H Q E h => ?_) (fun cdv A outer s H vs Q E hr h => ?_)
  · obtain ⟨p, v, x, y, z, u, rfl, _⟩ := h
    rfl
  · obtain ⟨p, v, x, y, z, u, rfl, h⟩ := h
    have c := T.kRatio
    have bd2 := T.bd2
    refine ⟨_, (pss_cons (ps_set (i := 2) sc_mr_over.nd rfl (Or.inl rfl) (pe_call (ok_as_ratio T) (hr.mono (by decide)) (by rfl) T.d_as_ratio.g T.d_as_ratio.F.kp T.d_as_ratio.b .nil pass0 (pa_cons (pv 1) pa_nil)))
      (pss_one (ps_ret (pe_make T.kRatio.made (ok_mr_initZ T) (hr.mono (by decide)) (by rfl) T.c_Ratio bd2 .nil (L2N.passes_call (L2N.takes_of rfl rfl rfl rfl) (fun _ _ _ _ h => h)) (pa_cons (pe_op op_mul (pe_fld (pv 0) (by rfl)) (pe_fld (pv 2) (by rfl))) (pa_cons (pe_op op_mul (pe_fld (pv 0) (by rfl)) (pe_fld (pv 2) (by rfl))) pa_nil)))))), ?_⟩
    obtain ⟨hp, ho, lx, ly, lz, lu, hy, hu, hz, q⟩ := h
    refine ⟨v, rfl, v, z, u, rfl, ho, fun r H1 s1 i1 => ?_⟩
    obtain ⟨dp, ep⟩ := hp.same s1
    obtain ⟨dr, er⟩ := i1
    refine ⟨.ref p, rfl, p, _, dp, _, _, rfl, ep, c.cls, c.noA "top", rfl, .ref r, rfl, r, _, dr, _, _, rfl, er, c.cls, c.noA "bottom", rfl, x, u, rfl, rfl, .inl lx, .ref p, rfl, p, _, dp, _, _, rfl, ep, c.cls, c.noA "bottom", rfl, .ref r, rfl, r, _, dr, _, _, rfl, er, c.cls, c.noA "top", rfl, y, z, rfl, rfl, .inl ly, fun a dx na nd ne => ?_⟩
    show spInitZ T [.ref a, .int (x * u), .int (y * z)] _ _ _
    rw [hz, Int.mul_zero]
    exact ⟨a, dx, _, rfl, q none _ (s1.trans fun b o e => by rw [upd_ne (ne_of_none e na), upd_ne (ne_of_none e nd)]; exact e)⟩
def sp_floordivN (T : Txt K mg) : Sp := fun vs H Q E => ∃ (p : Addr) (v : V) (x y z u : Int), vs = [.ref p, v] ∧ IsR T H p x y ∧ OT T H v z u ∧ Lo x ∧ Lo y ∧ Lo z ∧ Lo u ∧ y ≠ 0 ∧ u ≠ 0 ∧ z ≠ 0 ∧ ∀ H', Same H H' → Q (.int ((x * u).fdiv (y * z))) H'
theorem ok_mr_floordivN (T : Txt K mg) : FnOk P w K mg base CX0 4 T.mr_floordiv.f T.mr_floordiv.fd ["self", "other"] (sp_floordivN T) := by
  refine T.mr_floordiv.F.ok sc_mr_floordiv (fun vs H Q E h => ?_) (fun cdv A outer s H vs Q E hr h => ?_)
  · obtain ⟨p, v, x, y, z, u, rfl, _⟩ := h
    rfl
  · obtain ⟨p, v, x, y, z, u, rfl, h⟩ := h
    have c := T.kRatio
    have bd2 := T.bd2
    refine ⟨_, (pss_cons (ps_if (pt_not (pt_val (pe_call (ok_is_term T) (hr.mono (by decide)) (by rfl) T.d_is_term.g T.d_is_term.F.kp T.d_is_term.b .nil pass0 (pa_cons (pv 1) pa_nil)))) (pss_one ps_never) pss_nil)
      (pss_cons (ps_set (i := 2) sc_mr_floordiv.nd rfl (Or.inl rfl) (pe_call (ok_as_ratio T) (hr.mono (by decide)) (by rfl) T.d_as_ratio.g T.d_as_ratio.F.kp T.d_as_ratio.b .nil pass0 (pa_cons (pv 1) pa_nil)))
      (pss_one (ps_ret (pe_op op_fdivZ (pe_op op_mul (pe_fld (pv 0) (by rfl)) (pe_fld (pv 2) (by rfl))) (pe_op op_mul (pe_fld (pv 0) (by rfl)) (pe_fld (pv 2) (by rfl)))))))), ?_⟩
    obtain ⟨hp, ho, lx, ly, lz, lu, hy, hu, hz, q⟩ := h
    refine ⟨v, rfl, v, z, u, rfl, ho, _, rfl, iteF ?_⟩
    refine ⟨v, rfl, v, z, u, rfl, ho, fun r H1 s1 i1 => ?_⟩
    obtain ⟨dp, ep⟩ := hp.same s1
    obtain ⟨dr, er⟩ := i1
    exact ⟨.ref p, rfl, p, _, dp, _, _, rfl, ep, c.cls, c.noA "top", rfl, .ref r, rfl, r, _, dr, _, _, rfl, er, c.cls, c.noA "bottom", rfl, x, u, rfl, rfl, .inl lx, .ref p, rfl, p, _, dp, _, _, rfl, ep, c.cls, c.noA "bottom", rfl, .ref r, rfl, r, _, dr, _, _, rfl, er, c.cls, c.noA "top", rfl, y, z, rfl, rfl, .inl ly, _, _, rfl, rfl, cdz (Int.mul_ne_zero hy hz) (sm_mul ly lz), q H1 s1⟩
def sp_floordivZ (T : Txt K mg) : Sp := fun vs H Q E => ∃ (p : Addr) (v : V) (x y z u : Int), vs = [.ref p, v] ∧ IsR T H p x y ∧ OT T H v z u ∧ Lo x ∧ Lo y ∧ Lo z ∧ Lo u ∧ y ≠ 0 ∧ u ≠ 0 ∧ z = 0 ∧ ∀ d H', Same H H' → E (.type "ZeroDivisionError") d H'
theorem ok_mr_floordivZ (T : Txt K mg) : FnOk P w K mg base (L2N.CX P w) 4 T.mr_floordiv.f T.mr_floordiv.fd ["self", "other"] (sp_floordivZ T) := by
  refine Fun.okXN T.mr_floordiv.F sc_mr_floordiv (fun vs H Q E h => ?_) (fun cdv A outer s H vs Q E hr h => ?_)
  · obtain ⟨p, v, x, y, z, u, rfl, _⟩ := h
    rfl
  · obtain ⟨p, v, x, y, z, u, rfl, h⟩ := h
    have c := T.kRatio
    have bd2 := T.bd2
    refine ⟨_, (pss_cons (ps_if (pt_not (pt_val (pe_call (ok_is_term T) (hr.mono (by decide)) (by rfl) T.d_is_term.g T.d_is_term.F.kp T.d_is_term.b .nil pass0 (pa_cons (pv 1) pa_nil)))) (pss_one ps_never) pss_nil)
      (pss_cons (ps_set (i := 2) sc_mr_floordiv.nd rfl (Or.inl rfl) (pe_call (ok_as_ratio T) (hr.mono (by decide)) (by rfl) T.d_as_ratio.g T.d_as_ratio.F.kp T.d_as_ratio.b .nil pass0 (pa_cons (pv 1) pa_nil)))
      (pss_one (ps_ret (pe_fdivX rfl (L2N.takes_of rfl rfl rfl rfl) (pe_op op_mul (pe_fld (pv 0) (by rfl)) (pe_fld (pv 2) (by rfl))) (pe_op op_mul (pe_fld (pv 0) (by rfl)) (pe_fld (pv 2) (by rfl)))))))), ?_⟩
    obtain ⟨hp, ho, lx, ly, lz, lu, hy, hu, hz, q⟩ := h
    refine ⟨v, rfl, v, z, u, rfl, ho, _, rfl, iteF ?_⟩
    refine ⟨v, rfl, v, z, u, rfl, ho, fun r H1 s1 i1 => ?_⟩
    obtain ⟨dp, ep⟩ := hp.same s1
    obtain ⟨dr, er⟩ := i1
    exact ⟨.ref p, rfl, p, _, dp, _, _, rfl, ep, c.cls, c.noA "top", rfl, .ref r, rfl, r, _, dr, _, _, rfl, er, c.cls, c.noA "bottom", rfl, x, u, rfl, rfl, .inl lx, .ref p, rfl, p, _, dp, _, _, rfl, ep, c.cls, c.noA "bottom", rfl, .ref r, rfl, r, _, dr, _, _, rfl, er, c.cls, c.noA "top", rfl, y, z, rfl, rfl, .inl ly, _, _, rfl, rfl, .inr ⟨by rw [hz, Int.mul_zero], fun d => q d H1 s1⟩⟩
end
end Rd
set_option maxHeartbeats 4000000
namespace Rd
open PySem PySem.Spec PyProof.Rows L2 TL
open C8 (pss_cut tCut)
section
variable {P : Program} {w : World} {K : PySem.W.Frag} {mg : Str → Option Value} {base : Heap} {T : Txt K mg}
theorem digits_dg (c : Nat) : decide (c ∈ ("0123456789" : Str).cps.toList) = isDg c := by
  have e : ("0123456789" : Str).cps.toList = List.range' 48 10 := by decide +kernel
  rw [e]
  unfold isDg
  rw [← Bool.decide_and]
  exact decide_eq_decide.mpr (by rw [List.mem_range'_1]; omega)
theorem int_dg : ∀ c, 48 ≤ c → c ≤ 57 → PySem.intText? (⟨#[c]⟩ : Str) = some ((c - 48 : Nat) : Int) := by
  intro c h1 h2
  have : ∀ k, k < 10 → PySem.intText? (⟨#[48 + k]⟩ : Str) = some (k : Int) := by decide +kernel
  have e := this (c - 48) (by omega)
  rw [show 48 + (c - 48) = c by omega] at e
  exact e
theorem tl_eq (z : Str) (x : Str) : decide (V.str z = V.str x) = decide (tl z = tl x) := decide_eq_decide.mpr ⟨fun h => by rw [V.str.inj h], fun h => by rw [ext_tl h]⟩
/-- what number_word gives for a word's number -/
def vW : Option Nat → V
  | none => .non
  | some n => .int n
def spWord (T : Txt K mg) : Sp := fun vs H Q _ => ∃ z, vs = [.str z] ∧ z.length ≤ 1000 ∧ ∀ H', Same H H' → Q (vW (numW (tl z))) H'
theorem ok_number_word (T : Txt K mg) : FnOk P w K mg base CX0 1 T.d_number_word.f T.d_number_word.fd ["word"] (spWord T) := by
  refine T.d_number_word.F.ok sc_number_word (fun vs H Q E h => ?_) (fun cdv A outer s H vs Q E hr h => ?_)
  · obtain ⟨z, rfl, _⟩ := h
    rfl
  · obtain ⟨z, rfl, hz, q⟩ := h
    have hz' : z.length ≤ sizeLine := Nat.le_of_lt (small1000 hz)
    have lz : (tl z).length = z.length := by rw [len_tl]
    refine ⟨_, (pss_cons (ps_if (PW.pt (pw_or (pt_cmpR op_eq (pv 0) pe_str (nomark _)) (pw_or1 (pt_not (pt_val (pe_callB (cr_all rfl) (by rfl) T.z_all (by decide +kernel) (pa_cons (pe_lc (own := [("digit", 1)]) (g := gName 1) (tt := tYes) (by rfl) sc_number_word.nd (pi_str (pv 0)) (blkOk_by (own := [("digit", 1)]) (N := N_number_word) (sc := defScope s_number_word) (by decide +kernel)) (fun _ _ _ _ _ => (pg_name (i := 1) sc_number_word.nd rfl (Or.inl rfl))) (fun _ _ _ _ _ => pts_nil) (fun _ _ _ _ _ => (pe_cmpR op_in_sign (pv 1) (pe_glob (v := .str "0123456789") rfl T.c_DIGITS ⟨_, rfl⟩) (by rfl)))) pa_nil))))))) (pss_one (ps_ret pe_non)) pss_nil)
      (pss_cons (ps_if (PW.pt (pw_and (pt_cmpR op_eq (pe_ix ix_str (pv 0) pe_int (fun _ _ => rfl)) pe_str (nomark _)) (pw_and1 (pt_cmpR op_ne (pv 0) pe_str (nomark _))))) (pss_one (ps_ret pe_non)) pss_nil)
      (pss_cons (ps_set (i := 2) sc_number_word.nd rfl (Or.inl rfl) pe_int)
      (pss_cons (ps_for PassesOwn.never rfl (pi_str (pv 0)) (pg_name (i := 1) sc_number_word.nd rfl (Or.inl rfl)) (pss_one (ps_set (i := 2) sc_number_word.nd rfl (Or.inl rfl) (pe_op op_add (pe_op op_mul (pv 2) pe_int) (pe_callTy call_int_str (by rfl) T.z_int (by decide +kernel) (pa_cons (pv 1) pa_nil))))))
      (pss_one (ps_ret (pv 2))))))), ?_⟩
    refine ⟨.str z, rfl, rfl, _, rfl, ?_⟩
    rw [tl_eq, show tl ("" : Str) = [] from by decide +kernel]
    unfold numW at q
    by_cases h0 : tl z = []
    · rw [decide_eq_true h0]
      have q1 := q H (Same.refl H)
      rw [if_pos (.inl h0)] at q1
      exact iteT (iteT q1)
    rw [decide_eq_false h0]
    refine iteF ?_
    refine ⟨.str z, rfl, z, rfl, fun D nD => lc_it walk_str (fun i H2 => Same H H2 ∧ H2 D = some (.lst ((((tl z).take i).map isDg).map V.bl))) ⟨same_new nD, upd_same⟩ (fun _ _ _ _ => trivial) ?_ ?_⟩
    · rintro i x H2 H3 hi ⟨sm, eD⟩ ⟨rfl, c, hc, rfl⟩
      refine ⟨rfl, ?_⟩
      refine ⟨.str ⟨#[c]⟩, rfl, c, _, rfl, rfl, ?_⟩
      rw [digits_dg]
      have hc' : (tl z)[i]? = some c := by show z.cps.toList[i]? = some c; rw [Array.getElem?_toList]; exact hc
      refine ⟨_, eD, ?_, fun b o e => by rw [upd_ne (ne_of_none e nD)]; exact sm _ _ e, ?_⟩
      · rw [List.length_map, List.length_map, List.length_take]
        exact small1000 (by omega)
      · rw [upd_same, List.take_add_one, hc', List.map_append, List.map_append]
        rfl
    rintro H2 ⟨sm, eD⟩
    refine ⟨D, _, rfl, SqL.of eD, ?_⟩
    have e : ((tl z).take z.cps.size).map isDg = (tl z).map isDg := by rw [List.take_of_length_le (by show z.cps.toList.length ≤ _; simp)]
    rw [e, List.all_map]
    refine ⟨_, rfl, ?_⟩
    show if (!((tl z).all isDg)) = true then _ else _
    by_cases ha : (tl z).all isDg = true
    · rw [ha]
      refine iteF ?_
      rw [if_neg (by rw [ha]; simp [h0])] at q
      obtain ⟨c0, r0, ez⟩ : ∃ c0 r0, tl z = c0 :: r0 := by
        cases h : tl z with
        | nil => exact absurd h h0
        | cons a b => exact ⟨a, b, rfl⟩
      refine ⟨.str z, rfl, z, 0, c0, rfl, rfl, hz', by show atI (tl z) 0 = _; rw [ez]; exact at0, rfl, _, rfl, ?_⟩
      rw [tl_eq, show tl ("0" : Str) = [48] from by decide +kernel, show tl (⟨#[c0]⟩ : Str) = [c0] from rfl]
      have q' : ∀ H', Same H H' → (if (tl z).head? = some 48 ∧ tl z ≠ [48] then Q .non H' else Q (.int (val (tl z))) H') := fun H' s => by
        have := q H' s
        split
        · rename_i g; rw [if_pos g] at this; exact this
        · rename_i g; rw [if_neg g] at this; exact this
      have go : ¬ ((tl z).head? = some 48 ∧ tl z ≠ [48]) → ∀ v1, (tSeq (tAsg (tC (.int 0)) (gName 2)) (tSeq (tFor (iStr (tVar 0)) (gName 1) (tAsg (tOp (rI0 fun i j => V.int (i + j)) (tOp (rI CMul fun i j => V.int (i * j)) (tVar 2) (tC (V.int 10))) (tCB (fun xs H Q => ∃ a n, xs = [V.str a] ∧ intText? a = some n ∧ a.length ≤ 640 ∧ Q (V.int n) H) (tCons (tVar 1) tNil))) (gName 2))) (tRet (tVar 2)))) { nx := fun _ H' => Q .non H', rt := Q } [some (.str z), v1, none] H2 := fun hn v1 => by
        have qn : ∀ H', Same H H' → Q (.int (val (tl z))) H' := fun H' s => by have := q' H' s; rw [if_neg hn] at this; exact this
        refine ⟨.str z, rfl, z, rfl, for_it walk_str (fun i σ H3 => H3 = H2 ∧ ∃ x, σ = [some (.str z), x, some (.int (val ((tl z).take i)))]) ⟨rfl, v1, rfl⟩ (fun _ _ _ _ _ => trivial) ?_ ?_⟩
        · rintro i x σ H3 H4 hi ⟨rfl, y, rfl⟩ ⟨rfl, c, hc, rfl⟩
          have hc' : (tl z)[i]? = some c := by show z.cps.toList[i]? = some c; rw [Array.getElem?_toList]; exact hc
          have hd := List.all_eq_true.mp ha c (List.mem_of_getElem? hc')
          unfold isDg at hd
          rw [Bool.and_eq_true] at hd
          have d1 := of_decide_eq_true hd.1
          refine ⟨.int _, rfl, _, 10, rfl, rfl, .inr ⟨by decide, by decide⟩, .str ⟨#[c]⟩, rfl, ⟨#[c]⟩, _, rfl, int_dg c d1 (of_decide_eq_true hd.2), (by show 1 ≤ 640; decide), _, _, rfl, rfl, rfl, some (.str ⟨#[c]⟩), ?_⟩
          rw [List.take_add_one, hc']
          show _ = [_, _, some (V.int (val ((tl z).take i ++ [c])))]
          rw [val_snoc, Int.natCast_add, Int.natCast_mul]
          rfl
        · rintro σ H3 ⟨rfl, y, rfl⟩
          refine ⟨_, rfl, ?_⟩
          rw [List.take_of_length_le (by show z.cps.toList.length ≤ _; simp)]
          exact qn _ sm
      by_cases hc : c0 = 48
      · rw [decide_eq_true (by rw [hc])]
        refine iteT ⟨.str z, rfl, rfl, _, rfl, ?_⟩
        rw [tl_eq, show tl ("0" : Str) = [48] from by decide +kernel]
        by_cases h1 : tl z = [48]
        · rw [decide_eq_true h1]
          exact iteF (go (fun g => g.2 h1) _)
        · rw [decide_eq_false h1]
          refine iteT ?_
          have := q' H2 sm
          rw [if_pos ⟨by rw [ez, hc]; rfl, h1⟩] at this
          exact this
      · rw [decide_eq_false (fun g => hc (List.cons.inj g).1)]
        exact iteF (go (fun g => hc (by have := g.1; rw [ez] at this; exact Option.some.inj this)) _)
    · rw [Bool.eq_false_iff.mpr ha]
      have := q H2 sm
      rw [if_pos (.inr (Bool.eq_false_iff.mpr ha))] at this
      exact iteT this
/-! ### the text of a number -/
def catL : List Str → Str
  | [] => Str.empty
  | x :: r => catL r ++ x
theorem catL_snoc (ps : List Str) (x : Str) : catL (ps ++ [x]) = x ++ catL ps := by
  induction ps with
  | nil => refine ext_tl ?_; show tl (Str.empty ++ x) = tl (x ++ Str.empty); rw [tl_append, tl_append]; simp [Str.empty, TL.tl]
  | cons y r ih =>
    show catL (r ++ [x]) ++ y = x ++ (catL r ++ y)
    rw [ih, str_assoc]
def flatS : List Str → Str
  | [] => Str.empty
  | x :: r => x ++ flatS r
theorem app_empty (x : Str) : x ++ Str.empty = x := ext_tl (by rw [tl_append]; simp [Str.empty, TL.tl])
theorem empty_app (x : Str) : Str.empty ++ x = x := ext_tl (by rw [tl_append]; simp [Str.empty, TL.tl])
theorem join_flat : ∀ l : List Str, Txt.join "" l = flatS l
  | [] => by rw [join_eq]; rfl
  | [x] => by rw [join_eq]; show x = x ++ Str.empty; rw [app_empty]
  | x :: z :: r => by
    have ih := join_flat (z :: r)
    rw [join_eq] at ih ⊢
    show x ++ Str.empty ++ Str.join "" (z :: r) = x ++ flatS (z :: r)
    rw [ih, app_empty]
theorem flat_snoc (l : List Str) (x : Str) : flatS (l ++ [x]) = flatS l ++ x := by
  induction l with
  | nil => show x ++ Str.empty = Str.empty ++ x; rw [app_empty, empty_app]
  | cons y r ih => show y ++ flatS (r ++ [x]) = y ++ flatS r ++ x; rw [ih, str_assoc]
theorem join_rev (ps : List Str) : Txt.join "" ps.reverse = catL ps := by
  rw [join_flat]
  induction ps with
  | nil => rfl
  | cons x r ih => rw [List.reverse_cons, flat_snoc, ih]; rfl
theorem nine_len (p : Nat) (h : p < 10 ^ 9) : (nine (p : Int)).length = 9 := by
  rw [len_tl, tl_nine p h]
  rfl
theorem dg_len (k n : Nat) (h : n < 10 ^ (k + 1)) : (dg n).length ≤ k + 1 := by
  unfold dg
  rw [List.length_map]
  exact digits10_le (by omega) h
theorem log_small {n : Nat} (h : n < 10 ^ 30) : n.log2 < 1920 := by
  have := PySem.Flt.log2_lt_of (n := n) (k := 100) (by decide) (Nat.lt_trans h (by decide))
  omega
theorem sum_le : ∀ l : List Str, (∀ x ∈ l, x.length ≤ 10) → (l.map (·.length)).sum ≤ 10 * l.length
  | [], _ => by simp
  | x :: r, h => by
    have h1 := h x List.mem_cons_self
    have ih := sum_le r fun y hy => h y (List.mem_cons_of_mem _ hy)
    rw [List.map_cons, List.sum_cons, List.length_cons]
    omega
theorem app_len (a b : Str) : (a ++ b).length = a.length + b.length := by rw [len_tl, tl_append, List.length_append, ← len_tl, ← len_tl]
def restOf (σ : L2.St) : Nat := match σ[2]? with
  | some (some (V.int r)) => r.toNat
  | _ => 0
def spDigits (T : Txt K mg) : Sp := fun vs H Q _ => ∃ n, vs = [.int n] ∧ n.natAbs < 10 ^ 27 ∧ ∀ H', Same H H' → Q (.str (decS n)) H'
theorem ok_word_of_number (T : Txt K mg) : FnOk P w K mg base CX0 1 T.d_word_of_number.f T.d_word_of_number.fd ["number"] (spDigits T) := by
  refine T.d_word_of_number.F.ok sc_word_of_number (fun vs H Q E h => ?_) (fun cdv A outer s H vs Q E hr h => ?_)
  · obtain ⟨n, rfl, _⟩ := h
    rfl
  · obtain ⟨n, rfl, hn, q⟩ := h
    refine ⟨_, (pss_cons (ps_set (i := 1) sc_word_of_number.nd rfl (Or.inl rfl) (pe_lst pa_nil))
      (pss_cons (ps_set (i := 2) sc_word_of_number.nd rfl (Or.inl rfl) (pe_callB call_abs (by rfl) T.z_abs (by decide +kernel) (pa_cons (pv 0) pa_nil)))
      (pss_cons (ps_while PassesOwn.never (pt_cmpR op_ge (pv 2) (pe_glob (v := .int 1000000000) rfl T.c_PART ⟨_, rfl⟩) (nomark _)) (pss_cons (ps_asg (pe_callB call_divmod (by rfl) T.z_divmod (by decide +kernel) (pa_cons (pv 2) (pa_cons (pe_glob (v := .int 1000000000) rfl T.c_PART ⟨_, rfl⟩) pa_nil))) (pg_tup rfl (pgs_cons (pg_name (i := 2) sc_word_of_number.nd rfl (Or.inl rfl)) (pgs_cons (pg_name (i := 3) sc_word_of_number.nd rfl (Or.inl rfl)) pgs_nil))))
      (pss_one (ps_expr (pe_bm PySem.F.plainAttrs_list PySem.F.slot_list_append PySem.F.type_list_append mt_append (pv 1) (pa_cons (pe_joined1 (pe_fmt9 (pv 3))) pa_nil))))))
      (pss_cons (ps_expr (pe_bm PySem.F.plainAttrs_list PySem.F.slot_list_append PySem.F.type_list_append mt_append (pv 1) (pa_cons (pe_ifExp (pt_cmpR op_ge (pv 0) pe_int (nomark _)) (pe_callTy call_str_int (by rfl) T.z_str (by decide +kernel) (pa_cons (pv 2) pa_nil)) (pe_joined (PJ.cons pe_str (PJ.cons (pe_fmt (pv 2)) PJ.nil)))) pa_nil)))
      (pss_one (ps_ret (pe_join pe_str (pe_revL (pv 1))))))))), ?_⟩
    refine ⟨by decide, fun l nl => ?_⟩
    refine ⟨.int n, rfl, n, rfl, ?_⟩
    have habs : (if n < 0 then -n else n) = (n.natAbs : Int) := by split <;> omega
    rw [habs]
    refine while_by (fun σ H1 => ∃ (r : Nat) (ps : List Str) (x : Option V), σ = [some (.int n), some (.ref l), some (.int r), x] ∧ Same H H1 ∧ H1 l = some (.lst (ps.map V.str)) ∧ decS (n.natAbs : Int) = decS r ++ catL ps ∧ (ps = [] ∨ 1 ≤ r) ∧ r * (10 ^ 9) ^ ps.length ≤ n.natAbs ∧ ∀ x ∈ ps, x.length = 9)
      (fun σ _ => restOf σ) ⟨n.natAbs, [], none, rfl, same_new nl, upd_same, (app_empty _).symm, .inl rfl, by simp, by simp⟩ ?_ ?_
    · rintro σ H1 ⟨r, ps, x, rfl, sm, el, ed, hp, hb, h9⟩
      refine ⟨.int r, rfl, (r : Int), 1000000000, rfl, rfl, _, rfl, ite2 (fun e => ?_) (fun e => ?_)⟩
      · have hr : 10 ^ 9 ≤ r := by have := of_decide_eq_true e; omega
        have hlen : ps.length < 3 := by
          by_cases h : ps.length < 3
          · exact h
          · exfalso
            have h1 : (10 ^ 9) ^ 3 ≤ (10 ^ 9) ^ ps.length := Nat.pow_le_pow_right (by decide) (by omega)
            have h2 : 1 * (10 ^ 9) ^ ps.length ≤ r * (10 ^ 9) ^ ps.length := Nat.mul_le_mul_right _ (by omega)
            omega
        have e1 : ((r : Int) / 1000000000) = ((r / 10 ^ 9 : Nat) : Int) := by omega
        have e2 : ((r : Int) % 1000000000) = ((r % 10 ^ 9 : Nat) : Int) := by omega
        refine ⟨.int r, rfl, (r : Int), 1000000000, rfl, ⟨by decide, by decide⟩, fun t nt => ?_⟩
        rw [e1, e2]
        have st := same_new (o := .tup [.int ((r / 10 ^ 9 : Nat) : Int), .int ((r % 10 ^ 9 : Nat) : Int)]) nt
        have hm : r % 10 ^ 9 < 10 ^ 9 := Nat.mod_lt _ (by decide)
        refine ⟨t, _, rfl, SqT.of upd_same, rfl, _, _, rfl, _, [], rfl, rfl, ?_⟩
        refine ⟨.ref l, rfl, .inl ⟨rfl, _, SqL.of (st _ _ el)⟩, .int ((r % 10 ^ 9 : Nat) : Int), rfl, _, rfl, by rw [Int.natAbs_natCast]; exact log_small (Nat.lt_trans hm (by decide)), by rw [nine_len _ hm]; decide, l, _, _, rfl, rfl, st _ _ el, by rw [List.length_map]; exact small1000 (by omega), ?_⟩
        refine ⟨⟨r / 10 ^ 9, ps ++ [nine ((r % 10 ^ 9 : Nat) : Int)], _, rfl, fun b o h => ?_, ?_, ?_, .inr ?_, ?_, ?_⟩, ?_⟩
        · rw [upd_ne (ne_of_none h nl)]; exact st _ _ (sm _ _ h)
        · rw [upd_same, List.map_append]; rfl
        · rw [catL_snoc, ← str_assoc, ← dec_nine _ _ (Nat.div_pos hr (by decide)) hm, ed]
          congr 2
          omega
        · exact Nat.div_pos hr (by decide)
        · rw [List.length_append, List.length_singleton, @Nat.pow_succ (10 ^ 9) ps.length, Nat.mul_comm ((10 ^ 9) ^ ps.length), ← Nat.mul_assoc]
          exact Nat.le_trans (Nat.mul_le_mul_right _ (Nat.div_mul_le_self r (10 ^ 9))) hb
        · intro x hx
          rcases List.mem_append.mp hx with hx | hx
          · exact h9 x hx
          · rw [List.mem_singleton.mp hx]; exact nine_len _ hm
        · show (((r / 10 ^ 9 : Nat) : Int)).toNat < ((r : Nat) : Int).toNat
          omega
      · have hr : r < 10 ^ 9 := by have := of_decide_eq_false (by simpa using e : decide ((r : Int) ≥ 1000000000) = false); omega
        have hlen : ps.length ≤ 3 := by
          by_cases h : ps.length ≤ 3
          · exact h
          · exfalso
            rcases hp with hp | hp
            · rw [hp] at h; exact h (by decide)
            · have h1 : (10 ^ 9) ^ 3 ≤ (10 ^ 9) ^ ps.length := Nat.pow_le_pow_right (by decide) (by omega)
              have h2 : 1 * (10 ^ 9) ^ ps.length ≤ r * (10 ^ 9) ^ ps.length := Nat.mul_le_mul_right _ hp
              omega
        have lr : (decS (r : Int)).length ≤ 9 := by rw [len_tl, tl_decN]; exact dg_len 8 r hr
        have sz : ∀ z : Str, z.length ≤ 10 → (((ps ++ [z]).reverse.map (·.length)).sum + (ps ++ [z]).reverse.length * ("" : Str).length ≤ 16777216) := fun z hz => by
          have h1 := sum_le (ps ++ [z]).reverse (fun x hx => by
            rw [List.mem_reverse, List.mem_append, List.mem_singleton] at hx
            rcases hx with hx | hx
            · have := h9 x hx; omega
            · rw [hx]; exact hz)
          rw [List.length_reverse, List.length_append, List.length_singleton] at h1
          rw [show ("" : Str).length = 0 from by decide, Nat.mul_zero]
          omega
        have ngen : ∀ H', Same H H' → Q (.str (decS n)) H' := q
        refine ⟨.ref l, rfl, .inl ⟨rfl, _, SqL.of el⟩, .int n, rfl, n, 0, rfl, rfl, _, rfl, ite2 (fun e2 => ?_) (fun e2 => ?_)⟩
        · have h0 : 0 ≤ n := of_decide_eq_true e2
          have en : decS n = decS r ++ catL ps := by rw [← ed]; congr 1; omega
          rw [en] at ngen
          refine ⟨.int r, rfl, _, rfl, by rw [Int.natAbs_natCast]; exact log_small (Nat.lt_trans hr (by decide)), l, _, _, rfl, rfl, el, by rw [List.length_map]; exact small1000 (by omega), ⟨_, rfl⟩, .ref l, rfl, l, _, rfl, SqL.of upd_same, fun p np => ⟨"", p, (ps ++ [decS r]).reverse, rfl, rfl, .inl (by
          rw [List.map_reverse, List.map_append]
          exact SqL.of upd_same), sz _ (by omega), ?_⟩⟩
          rw [join_rev, catL_snoc]
          refine ngen _ (fun b o h => ?_)
          have nlp : p ≠ l := ne_of_none upd_same np |>.symm
          rw [upd_ne (fun z => by subst z; rw [upd_ne (ne_of_none h nl)] at np; rw [sm _ _ h] at np; cases np), upd_ne (ne_of_none h nl)]
          exact sm _ _ h
        · have h0 : n < 0 := by have := of_decide_eq_false (by simpa using e2 : decide (n ≥ 0) = false); omega
          have en : decS n = ("-" ++ decS r) ++ catL ps := by
            rw [str_assoc, ← ed, ← dec_neg _ (by omega)]
            congr 1
            omega
          rw [en] at ngen
          have l10 : (("-" : Str) ++ decS r).length ≤ 10 := by rw [app_len, show ("-" : Str).length = 1 from by decide]; omega
          refine ⟨_, rfl, by decide, ?_⟩
          rw [empty_app]
          refine ⟨.int r, rfl, .inr ⟨_, rfl, by rw [Int.natAbs_natCast]; exact log_small (Nat.lt_trans hr (by decide)), _, rfl, Nat.le_of_lt (small1000 (show (("-" : Str) ++ decS r).length ≤ 1000 by omega)), ?_⟩⟩
          refine ⟨l, _, _, rfl, rfl, el, by rw [List.length_map]; exact small1000 (by omega), ⟨_, rfl⟩, .ref l, rfl, l, _, rfl, SqL.of upd_same, fun p np => ⟨"", p, (ps ++ ["-" ++ decS r]).reverse, rfl, rfl, .inl (by
          rw [List.map_reverse, List.map_append]
          exact SqL.of upd_same), sz _ (by exact l10), ?_⟩⟩
          rw [join_rev, catL_snoc]
          refine ngen _ (fun b o h => ?_)
          have nlp : p ≠ l := ne_of_none upd_same np |>.symm
          rw [upd_ne (fun z => by subst z; rw [upd_ne (ne_of_none h nl)] at np; rw [sm _ _ h] at np; cases np), upd_ne (ne_of_none h nl)]
          exact sm _ _ h
    · exact fun σ H1 Q Q' hq ⟨v, h1, h⟩ => ⟨v, h1, by obtain ⟨i, j, a, b, k, c, d⟩ := h; exact ⟨i, j, a, b, k, c, hq _ _ d⟩⟩
end
end Rd
set_option maxHeartbeats 2000000
namespace Rd
open PySem PySem.Spec PyProof.Rows L2
/-! ## methods that may raise, classmethods by keywords, a class in a local name -/
def tMethFE (S : Addr → Prop) (m : Str) (sp : Sp) (E : XK) (ta : TE) (t : TA) : TE := fun σ H Q => ta σ H fun x H1 => ∃ a C dx fs, x = .ref a ∧ S C ∧ H1 a = some (.ins C dx fs) ∧ fs.lookup m = none ∧ t σ H1 fun vs H2 => sp (x :: vs) H2 Q E
def tMethFKE (S : Addr → Prop) (m : Str) (n : Nat) (sp : Sp) (gV : List V → List V → List V) (E : XK) (ta : TE) (tk : TA) : TE := fun σ H Q => ta σ H fun x H1 => ∃ a C dx fs, x = .ref a ∧ S C ∧ H1 a = some (.ins C dx fs) ∧ fs.lookup m = none ∧ tk σ H1 fun zs H2 => zs.length = n ∧ sp (gV [x] zs) H2 Q E
def tCMethK (C : Addr) (n : Nat) (sp : Sp) (gV : List V → List V → List V) (E : XK) (ta : TE) (tk : TA) : TE := fun σ H Q => ta σ H fun x H1 => x = .ref C ∧ tk σ H1 fun zs H2 => zs.length = n ∧ sp (gV [.ref C] zs) H2 Q E
def tMakeV (i : Nat) (C : Addr) (sp : Sp) (dvs : List V) (E : XK) (t : TA) : TE := fun σ H Q => σ[i]? = some (some (.ref C)) ∧ tMake C sp dvs E t σ H Q
section
variable {X : Cx} {CX : CXT} {k : Nat} {f : Addr} {fd : FuncData} {ps ks : List Str} {sp : Sp} {S : Addr → Prop} {m : Str} {E : XK}
variable {o e : Expr} {es : List Expr} {kws : List Keyword} {ta : TE} {t tk : TA} {apos pos : Pos} {g : List Value → List Value → List Value} {gV : List V → List V → List V}
theorem pe_methFE {pl : Sem Bool} (he : PE X o ta) (W : Fam X.K S) (hm : MethF X.K S m f) (F : FnOk X.prog X.w X.K X.mg X.base CX k f fd ps sp) (hr : Room k X.A) (hb : Binds X.K fd ps []) (hx : Passes CX X E) (ha : PA X (e :: es) t)
    (hst : starEach (e :: es) X.env = (false, eval e X.env) :: starEach es X.env := by rfl) (hpl : (backTo pos (starEach es X.env)).any (·.1) = false := by rfl)
    (ht : eval (.Call (.Attribute o m apos) (e :: es) [] pos) X.env = (do
      let ov ← eval o X.env
      standAt apos.atName
      let (f, first) ← holding [ov] (getMethod ov m pl)
      callWith pos f first (backTo pos (starEach (e :: es) X.env)) (backToKw pos (keywordEach [] X.env))) := by rfl) :
    PE X (.Call (.Attribute o m apos) (e :: es) [] pos) (tMethFE S m sp E ta t) := by
  refine ⟨fun pins s σ H Q I h => ?_⟩
  refine PySem.W.methodCall_KW (pl := pl) (thn (he.run pins s σ H _ I h) fun u s1 ⟨x, H1, I1, rx, a, C, dx, fs, ex, hC, ea, l, q⟩ => ?_) ht
  subst ex
  obtain rfl : u = Value.ref a := rx
  refine getmeth_ok I1 ea (W.cls C hC) (hm C hC) l ?_
  refine PySem.W.callWith_K (first := [.ref a]) (h₀ := X.base) I.ok.mod.kin (hm C hC).kp (thn (ha.run pos pins s1 σ H1 _ I1 q) fun us s2 ⟨vs, H2, I2, r, q2⟩ => ⟨I2.kIn, ?_⟩) hst hpl
  exact call_atE (us := .ref a :: us) (vs := .ref a :: vs) F hr rfl hb hx I2 (.cons rfl r) q2
theorem run_kw {pins : List (Addr × Obj)} {σ : L2.St} {H2 : Hp} {s2 : Shared} {Q : VK} {ws : List Value} {zs : List V} {u : Value} {x : V} (F : FnOk X.prog X.w X.K X.mg X.base CX k f fd ps sp) (hr : Room k X.A) (hb : KBn X.K fd ps 1 ks g gV) (hx : Passes CX X E) (I2 : Inv X pins σ H2 s2) (ru : RelV x u)
    (rz : Vals zs ws) (l2 : zs.length = ks.length) (q2 : sp (gV [x] zs) H2 Q E) : wpAny (model X.prog X.w) X.A (call (.ref f) [u] (ks.zip ws)) (EP X pins σ Q) X.xe s2 := by
  have r2 := hb.rel (vs := [x]) (us := [u]) (.cons ru .nil) rz
  have hl : (g [u] ws).length = ps.length := by rw [← r2.length]; exact F.len _ _ _ _ q2
  refine wpAny_call (codeAny_mono (F.run X.A X.stack s2 H2 ⟨[u], ks.zip ws⟩ (g [u] ws) (gV [x] zs) Q E hr I2.env0 (hb.to _ [u] ws I2.kIn rfl (rz.length.symm.trans l2)) r2 q2) fun r s' hq => ?_)
  cases r with
  | error e => exact hx pins σ H2 s2 e s' I2 hq
  | ok fl =>
    cases fl with
    | ret u => exact I2.after hq
    | next => exact False.elim hq
    | brk => exact False.elim hq
    | cont => exact False.elim hq
/-- o.m(k = v, ..) -/
theorem pe_methFKE {pl : Sem Bool} (he : PE X o ta) (W : Fam X.K S) (hm : MethF X.K S m f) (F : FnOk X.prog X.w X.K X.mg X.base CX k f fd ps sp) (hr : Room k X.A) (hb : KBn X.K fd ps 1 ks g gV) (hx : Passes CX X E) (hkw : PK X kws tk)
    (hall : (backToKw pos (keywordEach kws X.env)).all (·.1.isSome) = true := by rfl) (hks : (backToKw pos (keywordEach kws X.env)).filterMap (·.1) = ks := by rfl)
    (hpl : ((backTo pos (starEach [] X.env)).any (·.1) || (backToKw pos (keywordEach kws X.env)).any (·.1.isNone)) = false := by rfl)
    (ht : eval (.Call (.Attribute o m apos) [] kws pos) X.env = (do
      let ov ← eval o X.env
      standAt apos.atName
      let (f, first) ← holding [ov] (getMethod ov m pl)
      callWith pos f first (backTo pos (starEach [] X.env)) (backToKw pos (keywordEach kws X.env))) := by rfl) :
    PE X (.Call (.Attribute o m apos) [] kws pos) (tMethFKE S m ks.length sp gV E ta tk) := by
  refine ⟨fun pins s σ H Q I h => ?_⟩
  refine PySem.W.methodCall_KW (pl := pl) (thn (he.run pins s σ H _ I h) fun u s1 ⟨x, H1, I1, rx, a, C, dx, fs, ex, hC, ea, l, q⟩ => ?_) ht
  subst ex
  obtain rfl : u = Value.ref a := rx
  refine getmeth_ok I1 ea (W.cls C hC) (hm C hC) l ?_
  refine PySem.W.callWith_KW0 (first := [.ref a]) (h₀ := X.base) I.ok.mod.kin (hm C hC).kp hall (thn (hkw.run pos pins s1 σ H1 _ I1 q) fun ws s2 ⟨zs, H2, I2, rz, l2, q2⟩ => ⟨I2.kIn, ?_⟩) hpl
  rw [hks]
  exact run_kw (x := V.ref a) F hr hb hx I2 rfl rz l2 q2
/-- e.m(k = v, ..), e the class at C, m a classmethod -/
theorem pe_cmethK {C p : Addr} {mc : Value} {pl : Sem Bool} (he : PE X o ta) (r : ClX.CRead X.K C mc) (c : ClX.CMet X.K C mc m p f) (F : FnOk X.prog X.w X.K X.mg X.base CX k f fd ps sp) (hr : Room k X.A) (hb : KBn X.K fd ps 1 ks g gV) (hx : Passes CX X E) (hkw : PK X kws tk)
    (hall : (backToKw pos (keywordEach kws X.env)).all (·.1.isSome) = true := by rfl) (hks : (backToKw pos (keywordEach kws X.env)).filterMap (·.1) = ks := by rfl)
    (hpl : ((backTo pos (starEach [] X.env)).any (·.1) || (backToKw pos (keywordEach kws X.env)).any (·.1.isNone)) = false := by rfl)
    (ht : eval (.Call (.Attribute o m apos) [] kws pos) X.env = (do
      let ov ← eval o X.env
      standAt apos.atName
      let (f, first) ← holding [ov] (getMethod ov m pl)
      callWith pos f first (backTo pos (starEach [] X.env)) (backToKw pos (keywordEach kws X.env))) := by rfl) :
    PE X (.Call (.Attribute o m apos) [] kws pos) (tCMethK C ks.length sp gV E ta tk) := by
  refine ⟨fun pins s σ H Q I h => ?_⟩
  refine PySem.W.methodCall_KW (pl := pl) (thn (he.run pins s σ H _ I h) fun u s1 ⟨x, H1, I1, rx, ex, q⟩ => ?_) ht
  subst ex
  obtain rfl : u = Value.ref C := rx
  refine ClX.getmethcm_ok I1 r c fun s2 I2 => ?_
  refine PySem.W.callWith_of (P := PySem.W.MethP X.K s1.heap.objs.size f (.ref C)) hpl (PySem.W.keeps_M c.fi) (PyProof.Rows.evalArgs_kw2_nil hall (thn (hkw.run pos _ s2 σ H1 _ I2 q) fun ws s3 ⟨zs, H2, I3, rz, l2, q2⟩ => ⟨⟨ClX.pin_at I3, I3.kIn⟩, ?_⟩))
  rw [hks]
  have z : wpAny (model X.prog X.w) X.A (call (.ref s1.heap.objs.size) [] (ks.zip ws)) (EP X ((s1.heap.objs.size, PySem.W.methodObj (.ref f) (.ref C)) :: pins) σ Q) X.xe s3 := by
    have r2 := hb.rel (vs := [V.ref C]) (us := [Value.ref C]) (.cons rfl .nil) rz
    have hl : (g [Value.ref C] ws).length = ps.length := by rw [← r2.length]; exact F.len _ _ _ _ q2
    refine wpAny_call (PySem.W.method_call (ClX.pin_at I3) (codeAny_mono (F.run X.A X.stack s3 H2 ⟨[Value.ref C], ks.zip ws⟩ (g [Value.ref C] ws) (gV [V.ref C] zs) Q E hr I3.env0 (hb.to _ [Value.ref C] ws I3.kIn rfl (rz.length.symm.trans l2)) r2 q2) fun r s' hq => ?_))
    cases r with
    | error e => exact hx _ σ H2 s3 e s' I3 hq
    | ok fl =>
      cases fl with
      | ret u => exact I3.after hq
      | next => exact False.elim hq
      | brk => exact False.elim hq
      | cont => exact False.elim hq
  exact thn z fun _ _ y => ClX.unpinE y
theorem pe_makeV {C : Addr} {i : Nat} {x : Str} {p : Pos} {ds : List Value} {dvs : List V} (M : Mk X.K C f) (F : FnOk X.prog X.w X.K X.mg X.base CX k f fd ps sp) (hr : Room (k + 1) X.A) (hN : X.N[i]? = some x) (hv : Vis X.env.scope x) (hb : Binds X.K fd ps ds) (hd : Vals dvs ds) (hx : Passes CX X E)
    (ha : PA X (e :: es) t) (hdb : (x == ("__debug__" : Str)) = false := by decide) (hcd : (x == ("__classdict__" : Str)) = false := by decide) (he : starEach (e :: es) X.env = (false, eval e X.env) :: starEach es X.env := by rfl) (hpl : (backTo pos (starEach es X.env)).any (·.1) = false := by rfl) :
    PE X (.Call (.Name x p) (e :: es) [] pos) (tMakeV i C sp dvs E t) := by
  refine ⟨fun pins s σ H Q I h => ?_⟩
  obtain ⟨hs, h⟩ := h
  refine wpAny_Call_Name_kw (thn ((pe_var (pos := p) (i := i) hN hv hdb hcd).run pins s σ H (fun v H1 => v = .ref C ∧ H1 = H) I ⟨.ref C, hs, rfl, rfl⟩) fun u s1 ⟨v, H1, I1, r1, e1, e2⟩ => ?_)
  subst e1
  rw [e2] at I1
  obtain rfl : u = Value.ref C := r1
  refine PySem.W.callWith_K (h₀ := X.base) I.ok.mod.kin M.kp (thn (ha.run pos pins s1 σ H _ I1 h) fun us s2 ⟨vs, H2, I2, r, q⟩ => ⟨I2.kIn, ?_⟩) he hpl
  exact run_make M F hr hb hd hx I2 r q
end
end Rd
set_option maxHeartbeats 4000000
namespace Rd
open PySem PySem.Spec PyProof.Rows L2
open C8 (pss_cut tCut)
/-! ## the __init__ of the exceptions -/
/-- from one heap to a later one that has the exception a with the dict d beside -/
structure AtX (H' H : Hp) (a C d : Addr) (fs : List (Str × V)) : Prop where
  da : d ≠ a
  nd : H d = none
  ea : H' a = some (exo a C (some d))
  ed : H' d = some (exd d fs)
  keep : ∀ p, p ≠ a → p ≠ d → H' p = H p
section
variable {K : PySem.W.Frag} {B newId initId : String} {bmB : List Value} {C a d : Addr} {f : Str} {y : V} {fs : List (Str × V)} {σ : L2.St} {H H1 : Hp} {D : Ends} {te : TE}
theorem gst_first (h0 : σ[0]? = some (some (.ref a))) (T : XC K C B newId initId bmB) (n : PySem.W.findIn K (.ref C) f = some none) (e : H a = some (exo a C none)) (ht : ∀ Q : VK, Q y H → te σ H Q) (q : ∀ d H', AtX H' H a C d [(f, y)] → D.nx σ H') : tGst K f (tVar 0) te D σ H :=
  ht _ ⟨.ref a, h0, a, C, B, newId, initId, bmB, rfl, T, n, .inl ⟨e, fun dx nd da => q dx _ ⟨da, nd, upd_same, by rw [upd_ne da, upd_same], fun p pa pd => by rw [upd_ne pa, upd_ne pd]⟩⟩⟩
theorem gst_next (h0 : σ[0]? = some (some (.ref a))) (T : XC K C B newId initId bmB) (n : PySem.W.findIn K (.ref C) f = some none) (A : AtX H1 H a C d fs) (hl : fs.length ≤ 900) (ht : ∀ Q : VK, Q y H1 → te σ H1 Q) (q : ∀ H', AtX H' H a C d ((f, y) :: fs) → D.nx σ H') : tGst K f (tVar 0) te D σ H1 :=
  ht _ ⟨.ref a, h0, a, C, B, newId, initId, bmB, rfl, T, n, .inr ⟨d, fs, A.ea, A.ed, hl, q _ ⟨A.da, A.nd, by rw [upd_ne (Ne.symm A.da)]; exact A.ea, upd_same, fun p pa pd => by rw [upd_ne pd]; exact A.keep p pa pd⟩⟩⟩
end
def spInit (C : Addr) (nm : List Str) (code : Str) : Sp := fun vs H Q _ => ∃ (a : Addr) (ws : List V), vs = .ref a :: ws ∧ ws.length = nm.length ∧ H a = some (exo a C none) ∧
  ∀ d H', AtX H' H a C d (("code", .str code) :: (nm.zip ws).reverse) → Q .non H'
theorem spInit_len {C : Addr} {nm ps : List Str} {code : Str} {vs : List V} {H : Hp} {Q : VK} {E : XK} (e : ps.length = nm.length + 1) (h : spInit C nm code vs H Q E) : vs.length = ps.length := by
  obtain ⟨a, ws, rfl, l, _⟩ := h
  rw [List.length_cons, l, e]
theorem vals_rev {zs : List V} {ws : List Value} (h : Vals zs ws) : Vals zs.reverse ws.reverse := by
  induction h with
  | nil => exact .nil
  | cons h t ih => rw [List.reverse_cons, List.reverse_cons]; exact ih.append (.cons h .nil)
section
variable {P : Program} {w : World} {K : PySem.W.Frag} {mg : Str → Option Value} {base : Heap}
theorem DX.kw {x qual : Str} {st : Stmt} {ps nm : List Str} {B newId initId : String} {bmB : List Value} (D : DX K mg x qual st ps nm B newId initId bmB) (ks : List Str)
    (h : ∀ (kV doc pm : Value) (an : Option Addr) (cdv ct : Value) (us ws : List Value), us.length = 1 → ws.length = ks.length → bindArgs (PySem.W.fnOf "__init__" qual (defArgs st) (defBody st) (defScope st) .none kV doc pm an cdv ct) ⟨us, ks.zip ws⟩ = pure (ps.zip (us ++ ws.reverse))) :
    KBn K D.fd ps 1 ks (fun us ws => us ++ ws.reverse) (fun vs zs => vs ++ zs.reverse) where
  to := fun s us ws _ l1 l2 => by
    obtain ⟨oc, od, kV, doc, pm, an, cdv, ct, osl, e, lk, hcd⟩ := D.F.ex
    rw [e]
    exact .of_eq (h kV doc pm an cdv ct us ws l1 l2)
  rel := fun r rz => r.append (vals_rev rz)
theorem ok_init_InvalidText (T : Txt K mg) : FnOk P w K mg base CX0 1 T.x_InvalidText.f T.x_InvalidText.fd ["self", "line"] (spInit T.x_InvalidText.C ["line"] "InvalidText") := by
  refine T.x_InvalidText.F.ok sc_i_InvalidText (fun vs H Q E h => spInit_len rfl h) (fun cdv A outer s H vs Q E hr h => ?_)
  obtain ⟨a, ws, rfl, l, e, q⟩ := h
  match ws, l with
  | [y0], _ =>
    refine ⟨_, (pss_cons (ps_gst (pv 0) (pv 1)) (pss_one (ps_gst (pv 0) pe_str))), ?_⟩
    refine gst_first (a := a) rfl T.x_InvalidText.T (T.x_InvalidText.no "line" (by decide +kernel)) e (fun Q q => ⟨y0, rfl, q⟩) fun d H1 A1 => ?_
    dsimp only
    refine gst_next (a := a) rfl T.x_InvalidText.T (T.x_InvalidText.no "code" (by decide +kernel)) A1 (Nat.le_of_ble_eq_true rfl) (fun Q q => q) fun H2 A2 => ?_
    exact q d _ A2
end
def exF (nm : List Str) (code : Str) (ws : List V) : List (Str × V) := ("code", .str code) :: (nm.zip ws).reverse
theorem mkqR {C : Addr} {nm : List Str} {code : Str} {ws : List V} {H1 : Hp} {Q : XK} (l : ws.length = nm.length) (q : ∀ d H', Same H1 H' → H' d = some (.xd (exF nm code ws)) → Q (.ref C) (some d) H') :
    MkQ (spInit C nm code) C (fun a => a :: ws) H1 (fun v H2 => ∃ (a d : Addr) (fs : List (Str × V)), v = .ref a ∧ H2 a = some (exo a C (some d)) ∧ H2 d = some (exd d fs) ∧ H1 d = none ∧ Q (.ref C) (some d) (upd (del H2 a) d (.xd fs))) := fun a na =>
  ⟨a, ws, rfl, l, upd_same, fun d H' A => ⟨rfl, by
    have nd : H1 d = none := by
      have := A.nd
      rw [upd_ne A.da] at this
      exact this
    refine ⟨a, d, _, rfl, A.ea, A.ed, nd, q d _ (fun p o e => ?_) upd_same⟩
    rw [upd_ne (ne_of_none e nd), del_ne (ne_of_none e na), A.keep p (ne_of_none e na) (ne_of_none e nd), upd_ne (ne_of_none e na)]
    exact e⟩⟩
end Rd
set_option maxHeartbeats 4000000
namespace Rd
open PySem PySem.Spec PyProof.Rows L2 TL
open C8 (pss_cut tCut)
section
variable {P : Program} {w : World} {K : PySem.W.Frag} {mg : Str → Option Value} {base : Heap} {T : Txt K mg}
/-- the words of a text, and their numbers -/
def wordsOf (z : Str) : List Str := Txt.split (if Txt.startswith z "-" then cutS z (some 1) none else z) "/"
def numsOf (z : Str) : List (Option Nat) := (wordsOf z).map fun w => numW (tl w)
/-- what terms_of gives -/
def TermsQ (Q : VK) (H : Hp) : Option (Int × Int) → Prop
  | none => ∀ H', Same H H' → Q .non H'
  | some (a, b) => ∀ p H', Same H H' → H' p = some (.tup [.int a, .int b]) → Q (.ref p) H'
theorem TermsQ.of {Q : VK} {H H1 : Hp} (s : Same H H1) : ∀ {o : Option (Int × Int)}, TermsQ Q H o → TermsQ Q H1 o
  | none, h => fun H' s1 => h H' (s.trans s1)
  | some (a, b), h => fun p H' s1 e => h p H' (s.trans s1) e
def spTerms (T : Txt K mg) : Sp := fun vs H Q _ => ∃ v, vs = [v] ∧ ((isSc v = true ∧ isS v = false ∧ ∀ H', Same H H' → Q .non H') ∨ ∃ z, v = .str z ∧ z.length ≤ 200 ∧ (∀ y ∈ wordsOf z, y.length ≤ 200) ∧ (wordsOf z).length ≤ 200 ∧ wordsOf z ≠ [] ∧ TermsQ Q H (termsOf z))
theorem sc_kd {H : Hp} {v : V} (h : isSc v = true) : Kd K H v (tyn v) := .sc h
theorem ok_terms_of (T : Txt K mg) : FnOk P w K mg base CX0 2 T.d_terms_of.f T.d_terms_of.fd ["value"] (spTerms T) := by
  refine T.d_terms_of.F.ok sc_terms_of (fun vs H Q E h => ?_) (fun cdv A outer s H vs Q E hr h => ?_)
  · obtain ⟨v, rfl, _⟩ := h
    rfl
  · obtain ⟨v, rfl, h⟩ := h
    refine ⟨_, (pss_cons (ps_if (pt_not (pt_val (pe_callB call_isi (by rfl) T.z_isinstance (by decide +kernel) (pa_cons (pv 0) (pa_cons (pe_bltn (v := .ty "str") (by rfl) T.z_str (by decide +kernel) rfl) pa_nil))))) (pss_one (ps_ret pe_non)) pss_nil)
      (pss_cons (ps_set (i := 1) sc_terms_of.nd rfl (Or.inl rfl) (pe_bm PySem.F.plainAttrs_str PySem.F.slot_str_startswith PySem.F.type_str_startswith mt_startswith (pv 0) (pa_cons pe_str pa_nil)))
      (pss_cons (ps_set (i := 2) sc_terms_of.nd rfl (Or.inl rfl) (pe_split (pe_ifExp (pt_val (pv 1)) (pe_slice sl_str (pv 0) (po_some pe_int) po_none) (pv 0)) pe_str))
      (pss_cons (ps_setLc (i := 3) (own := [("word", 5)]) (g := gName 5) (tt := tYes) (by rfl) sc_terms_of.nd rfl rfl (sw_true rfl rfl rfl (by decide +kernel)) (pi_list (pv 2)) (blkOk_by (own := [("word", 5)]) (N := N_terms_of) (sc := defScope s_terms_of) (by decide +kernel)) (fun _ _ _ _ _ => (pg_name (i := 5) sc_terms_of.nd rfl (Or.inl rfl))) (fun _ _ _ _ _ => pts_nil) (fun _ _ _ _ _ => (pe_call (ok_number_word T) (hr.mono (by decide)) (by rfl) T.d_number_word.g T.d_number_word.F.kp T.d_number_word.b .nil pass0 (pa_cons (pv 5) pa_nil))))
      (pss_cons (ps_if (PW.pt (pw_or (pt_cmpR op_gt (pe_callB call_len_seq (by rfl) T.z_len (by decide +kernel) (pa_cons (pv 3) pa_nil)) pe_int (nomark _)) (pw_or (pt_cmpR op_in_seq pe_non (pv 3) (by rfl)) (pw_or1 (PW.pt (pw_and (pt_val (pv 1)) (pw_and1 (pt_cmpR op_eq (pe_ix ix_list (pv 3) pe_int (fun _ _ => rfl)) pe_int (nomark _))))))))) (pss_one (ps_ret pe_non)) pss_nil)
      (pss_cons (ps_set (i := 4) sc_terms_of.nd rfl (Or.inl rfl) (pe_ifExp (pt_cmpR op_eq (pe_callB call_len_seq (by rfl) T.z_len (by decide +kernel) (pa_cons (pv 3) pa_nil)) pe_int (nomark _)) (pe_ix ix_list (pv 3) pe_int (fun _ _ => rfl)) pe_int))
      (pss_cons (ps_if (PW.pt (pw_and (pt_cmpR op_eq (pe_callB call_len_seq (by rfl) T.z_len (by decide +kernel) (pa_cons (pv 3) pa_nil)) pe_int (nomark _)) (pw_and1 (PW.pt (pw_or (pt_cmpR op_lt (pv 4) pe_int (nomark _)) (pw_or1 (pt_cmpR op_gt (pe_callBfun cr_gcd (by rfl) T.c_gcd (pa_cons (pe_ix ix_list (pv 3) pe_int (fun _ _ => rfl)) (pa_cons (pv 4) pa_nil))) pe_int (nomark _)))))))) (pss_one (ps_ret pe_non)) pss_nil)
      (pss_one (ps_ret (pe_tup (pa_cons (pe_ifExp (pt_val (pv 1)) (pe_un un_neg (pe_ix ix_list (pv 3) pe_int (fun _ _ => rfl))) (pe_ix ix_list (pv 3) pe_int (fun _ _ => rfl))) (pa_cons (pv 4) pa_nil)))))))))))), ?_⟩
    rcases h with ⟨h1, h2, q⟩ | ⟨z, rfl, hz, hw, hl, hne, q⟩
    · refine ⟨v, rfl, v, _, _, _, isS v, rfl, .ty _, (sc_kd h1).ty, kit_ty (kd_str (sc_kd (K := K) (H := H) h1)), _, rfl, ?_⟩
      rw [h2]
      exact iteT (q H (Same.refl H))
    refine ⟨.str z, rfl, .str z, _, _, _, true, rfl, .ty _, ty_sc rfl, kit_ty (by show kitB "str" "str" = _; decide +kernel), _, rfl, iteF ?_⟩
    refine ⟨.str z, rfl, rfl, z, "-", rfl, rfl, ?_⟩
    have hz' : z.length ≤ sizeLine := Nat.le_of_lt (small1000 (by omega))
    have sp : ∀ y : Str, y.length ≤ 200 → (("/" : Str).length == 0) = false ∧ y.length + 2 ≤ sizeLine := fun y hy => ⟨by decide, by rw [sizeLine_eq]; omega⟩
    have sel : ∃ y, Txt.split y "/" = wordsOf z ∧ y.length ≤ 200 ∧ y = (if Txt.startswith z "-" then cutS z (some 1) none else z) := by
      refine ⟨_, rfl, ?_, rfl⟩
      split
      · have := cutS_length z (some 1) none; omega
      · exact hz
    obtain ⟨y, hy, ly, ey⟩ := sel
    generalize hneg : Txt.startswith z "-" = neg at ey
    have hq : TermsQ Q H (match numsOf z with
      | [some a] => if neg && decide (a = 0) then none else some (if neg then -(a : Int) else a, 1)
      | [some a, some b] => if (neg && decide (a = 0)) || decide (b < 2) || decide (1 < Nat.gcd a b) then none else some (if neg then -(a : Int) else a, b)
      | _ => none) := by
      rw [← hneg]
      exact q
    have l0 : numsOf z ≠ [] := by unfold numsOf; intro e; exact hne (List.map_eq_nil_iff.mp e)
    have el : (numsOf z).length = (wordsOf z).length := by unfold numsOf; rw [List.length_map]
    have fl : ∀ l : List (Option Nat), (l.map vW).all flatV = true := fun l => by
      rw [List.all_map, List.all_eq_true]
      intro x _
      cases x <;> rfl
    cases neg
    · refine ⟨.bl false, rfl, false, rfl, iteF ⟨.str z, rfl, ⟨_, rfl⟩, _, "/", rfl, rfl, (sp _ hz).1, (sp _ hz).2, fun p np => ?_⟩⟩
      rw [← show y = z from ey, hy]
      refine ⟨.ref p, rfl, p, rfl, ⟨_, SqL.of upd_same⟩, fun D nD => lc_it (walk_list (xs := (wordsOf z).map V.str)) (fun i H2 => Same (upd H p (.lst ((wordsOf z).map V.str))) H2 ∧ H2 D = some (.lst (((numsOf z).take i).map vW))) ⟨same_new nD, upd_same⟩ (fun i H2 _ h => SqL.of (h.1 _ _ upd_same)) ?_ ?_⟩
      · rintro i x H2 H3 hi ⟨sm, eD⟩ ⟨rfl, hx⟩
        rw [List.getElem?_map] at hx
        obtain ⟨w1, hw1, rfl⟩ := Option.map_eq_some_iff.mp hx
        refine ⟨rfl, .str w1, rfl, w1, rfl, by have := hw w1 (List.mem_of_getElem? hw1); omega, fun H4 s4 => ⟨_, s4 _ _ eD, ?_, fun b o e => by rw [upd_ne (ne_of_none e nD)]; exact s4 _ _ (sm _ _ e), ?_⟩⟩
        · rw [List.length_map, List.length_take]; exact small1000 (by omega)
        · rw [upd_same, List.take_add_one, show (numsOf z)[i]? = some (numW (tl w1)) by unfold numsOf; rw [List.getElem?_map, hw1]; rfl, List.map_append]
          rfl
      · rintro H2 ⟨sm, eD⟩
        rw [List.length_map, ← el, List.take_length] at eD
        have s2 : Same H H2 := (same_new np).trans sm
        generalize numsOf z = l at eD hq l0
        rcases l with _ | ⟨o1, _ | ⟨o2, _ | ⟨o3, t⟩⟩⟩
        · exact absurd rfl l0
        · refine ⟨.ref D, rfl, D, _, rfl, .inl (SqL.of eD), _, _, rfl, rfl, _, rfl, iteF ⟨.ref D, rfl, D, _, rfl, .inl (SqL.of eD), rfl, fl [o1], _, rfl, ?_⟩⟩
          cases o1 with
          | none => exact iteT (iteT (hq H2 s2))
          | some a =>
            refine iteF ?_
            refine ⟨.bl false, rfl, false, rfl, iteF (iteF ?_)⟩
            refine ⟨.ref D, rfl, D, _, rfl, .inl (SqL.of eD), rfl, _, rfl, iteF ?_⟩
            refine ⟨.ref D, rfl, D, _, rfl, .inl (SqL.of eD), rfl, _, rfl, iteF (iteF ?_)⟩
            exact ⟨.bl false, rfl, false, rfl, iteF ⟨.ref D, rfl, D, _, 0, _, rfl, rfl, SqL.of eD, rfl, .int 1, rfl, by show 2 ≤ sizeLine; rw [sizeLine_eq]; decide, fun p1 np1 => hq p1 _ (s2.trans (same_new np1)) upd_same⟩⟩
        · refine ⟨.ref D, rfl, D, _, rfl, .inl (SqL.of eD), _, _, rfl, rfl, _, rfl, iteF ⟨.ref D, rfl, D, _, rfl, .inl (SqL.of eD), rfl, fl [o1, o2], _, rfl, ?_⟩⟩
          cases o1 with
          | none => exact iteT (iteT (hq H2 s2))
          | some a =>
          cases o2 with
          | none => exact iteT (iteT (hq H2 s2))
          | some b =>
            refine iteF ?_
            refine ⟨.bl false, rfl, false, rfl, iteF (iteF ?_)⟩
            have hq1 : TermsQ Q H (if (decide (b < 2) || decide (1 < Nat.gcd a b)) = true then none else some ((a : Int), (b : Int))) := by
              exact hq
            refine ⟨.ref D, rfl, D, _, rfl, .inl (SqL.of eD), rfl, _, rfl, iteT ⟨.ref D, rfl, D, _, 1, _, rfl, rfl, SqL.of eD, rfl, ?_⟩⟩
            refine ⟨.ref D, rfl, D, _, rfl, .inl (SqL.of eD), rfl, _, rfl, iteT ?_⟩
            refine ⟨.int b, rfl, _, _, rfl, rfl, _, rfl, ?_⟩
            by_cases hb : b < 2
            · rw [decide_eq_true (show (b : Int) < 2 by omega)]
              rw [decide_eq_true hb] at hq1
              exact iteT (iteT (hq1 H2 s2))
            rw [decide_eq_false (show ¬ (b : Int) < 2 by omega)]
            rw [decide_eq_false hb, Bool.false_or] at hq1
            refine iteF ⟨.ref D, rfl, D, _, 0, _, rfl, rfl, SqL.of eD, rfl, .int b, rfl, _, _, rfl, _, _, rfl, rfl, _, rfl, ?_⟩
            by_cases hg : 1 < Nat.gcd a b
            · rw [decide_eq_true (show (1 : Int) < ((Nat.gcd (a : Int).natAbs (b : Int).natAbs : Nat) : Int) by rw [Int.natAbs_natCast, Int.natAbs_natCast]; omega)]
              rw [decide_eq_true hg] at hq1
              exact iteT (hq1 H2 s2)
            rw [decide_eq_false (show ¬ (1 : Int) < ((Nat.gcd (a : Int).natAbs (b : Int).natAbs : Nat) : Int) by rw [Int.natAbs_natCast, Int.natAbs_natCast]; omega)]
            rw [decide_eq_false hg] at hq1
            refine iteF ?_
            exact ⟨.bl false, rfl, false, rfl, iteF ⟨.ref D, rfl, D, _, 0, _, rfl, rfl, SqL.of eD, rfl, .int b, rfl, by show 2 ≤ sizeLine; rw [sizeLine_eq]; decide, fun p1 np1 => hq1 p1 _ (s2.trans (same_new np1)) upd_same⟩⟩
        · refine ⟨.ref D, rfl, D, _, rfl, .inl (SqL.of eD), _, _, rfl, rfl, _, rfl, ?_⟩
          rw [show decide ((2 : Int) < ((List.map vW (o1 :: o2 :: o3 :: t)).length : Nat)) = true from decide_eq_true (by simp only [List.length_map, List.length_cons]; omega)]
          exact iteT (iteT ((show TermsQ Q H none by cases o1 <;> cases o2 <;> exact hq) H2 s2))
    · refine ⟨.bl true, rfl, true, rfl, iteT ⟨.str z, rfl, 1, rfl, z, rfl, hz', ⟨_, rfl⟩, _, "/", rfl, rfl, (sp (cutS z (some 1) none) ((show y = cutS z (some 1) none from ey) ▸ ly)).1, (sp (cutS z (some 1) none) ((show y = cutS z (some 1) none from ey) ▸ ly)).2, fun p np => ?_⟩⟩
      rw [← show y = cutS z (some 1) none from ey, hy]
      refine ⟨.ref p, rfl, p, rfl, ⟨_, SqL.of upd_same⟩, fun D nD => lc_it (walk_list (xs := (wordsOf z).map V.str)) (fun i H2 => Same (upd H p (.lst ((wordsOf z).map V.str))) H2 ∧ H2 D = some (.lst (((numsOf z).take i).map vW))) ⟨same_new nD, upd_same⟩ (fun i H2 _ h => SqL.of (h.1 _ _ upd_same)) ?_ ?_⟩
      · rintro i x H2 H3 hi ⟨sm, eD⟩ ⟨rfl, hx⟩
        rw [List.getElem?_map] at hx
        obtain ⟨w1, hw1, rfl⟩ := Option.map_eq_some_iff.mp hx
        refine ⟨rfl, .str w1, rfl, w1, rfl, by have := hw w1 (List.mem_of_getElem? hw1); omega, fun H4 s4 => ⟨_, s4 _ _ eD, ?_, fun b o e => by rw [upd_ne (ne_of_none e nD)]; exact s4 _ _ (sm _ _ e), ?_⟩⟩
        · rw [List.length_map, List.length_take]; exact small1000 (by omega)
        · rw [upd_same, List.take_add_one, show (numsOf z)[i]? = some (numW (tl w1)) by unfold numsOf; rw [List.getElem?_map, hw1]; rfl, List.map_append]
          rfl
      · rintro H2 ⟨sm, eD⟩
        rw [List.length_map, ← el, List.take_length] at eD
        have s2 : Same H H2 := (same_new np).trans sm
        generalize numsOf z = l at eD hq l0
        rcases l with _ | ⟨o1, _ | ⟨o2, _ | ⟨o3, t⟩⟩⟩
        · exact absurd rfl l0
        · refine ⟨.ref D, rfl, D, _, rfl, .inl (SqL.of eD), _, _, rfl, rfl, _, rfl, iteF ⟨.ref D, rfl, D, _, rfl, .inl (SqL.of eD), rfl, fl [o1], _, rfl, ?_⟩⟩
          cases o1 with
          | none => exact iteT (iteT (hq H2 s2))
          | some a =>
            refine iteF ?_
            refine ⟨.bl true, rfl, true, rfl, iteT ⟨.ref D, rfl, D, _, 0, _, rfl, rfl, SqL.of eD, rfl, rfl, _, rfl, ?_⟩⟩
            by_cases ha : a = 0
            · subst ha
              exact iteT (hq H2 s2)
            rw [show decide (vW (some a) = V.int 0) = false from decide_eq_false fun e => ha (by have : (a : Int) = 0 := V.int.inj e; omega)]
            have hq1 : TermsQ Q H (some (-(a : Int), 1)) := by
              have h1 : TermsQ Q H (if (true && decide (a = 0)) = true then none else some (-(a : Int), 1)) := hq
              rw [decide_eq_false ha] at h1
              exact h1
            refine iteF ?_
            refine ⟨.ref D, rfl, D, _, rfl, .inl (SqL.of eD), rfl, _, rfl, iteF ?_⟩
            refine ⟨.ref D, rfl, D, _, rfl, .inl (SqL.of eD), rfl, _, rfl, iteF (iteF ?_)⟩
            exact ⟨.bl true, rfl, true, rfl, iteT ⟨.ref D, rfl, D, _, 0, _, rfl, rfl, SqL.of eD, rfl, _, rfl, .int 1, rfl, by show 2 ≤ sizeLine; rw [sizeLine_eq]; decide, fun p1 np1 => hq1 p1 _ (s2.trans (same_new np1)) upd_same⟩⟩
        · refine ⟨.ref D, rfl, D, _, rfl, .inl (SqL.of eD), _, _, rfl, rfl, _, rfl, iteF ⟨.ref D, rfl, D, _, rfl, .inl (SqL.of eD), rfl, fl [o1, o2], _, rfl, ?_⟩⟩
          cases o1 with
          | none => exact iteT (iteT (hq H2 s2))
          | some a =>
          cases o2 with
          | none => exact iteT (iteT (hq H2 s2))
          | some b =>
            refine iteF ?_
            refine ⟨.bl true, rfl, true, rfl, iteT ⟨.ref D, rfl, D, _, 0, _, rfl, rfl, SqL.of eD, rfl, rfl, _, rfl, ?_⟩⟩
            by_cases ha : a = 0
            · subst ha
              exact iteT (hq H2 s2)
            rw [show decide (vW (some a) = V.int 0) = false from decide_eq_false fun e => ha (by have : (a : Int) = 0 := V.int.inj e; omega)]
            have hq1 : TermsQ Q H (if (decide (b < 2) || decide (1 < Nat.gcd a b)) = true then none else some (-(a : Int), (b : Int))) := by
              have h1 : TermsQ Q H (if ((true && decide (a = 0)) || decide (b < 2) || decide (1 < Nat.gcd a b)) = true then none else some (-(a : Int), (b : Int))) := hq
              rw [decide_eq_false ha, Bool.and_false, Bool.false_or] at h1
              exact h1
            refine iteF ?_
            refine ⟨.ref D, rfl, D, _, rfl, .inl (SqL.of eD), rfl, _, rfl, iteT ⟨.ref D, rfl, D, _, 1, _, rfl, rfl, SqL.of eD, rfl, ?_⟩⟩
            refine ⟨.ref D, rfl, D, _, rfl, .inl (SqL.of eD), rfl, _, rfl, iteT ?_⟩
            refine ⟨.int b, rfl, _, _, rfl, rfl, _, rfl, ?_⟩
            by_cases hb : b < 2
            · rw [decide_eq_true (show (b : Int) < 2 by omega)]
              rw [decide_eq_true hb] at hq1
              exact iteT (iteT (hq1 H2 s2))
            rw [decide_eq_false (show ¬ (b : Int) < 2 by omega)]
            rw [decide_eq_false hb, Bool.false_or] at hq1
            refine iteF ⟨.ref D, rfl, D, _, 0, _, rfl, rfl, SqL.of eD, rfl, .int b, rfl, _, _, rfl, _, _, rfl, rfl, _, rfl, ?_⟩
            by_cases hg : 1 < Nat.gcd a b
            · rw [decide_eq_true (show (1 : Int) < ((Nat.gcd (a : Int).natAbs (b : Int).natAbs : Nat) : Int) by rw [Int.natAbs_natCast, Int.natAbs_natCast]; omega)]
              rw [decide_eq_true hg] at hq1
              exact iteT (hq1 H2 s2)
            rw [decide_eq_false (show ¬ (1 : Int) < ((Nat.gcd (a : Int).natAbs (b : Int).natAbs : Nat) : Int) by rw [Int.natAbs_natCast, Int.natAbs_natCast]; omega)]
            rw [decide_eq_false hg] at hq1
            refine iteF ?_
            exact ⟨.bl true, rfl, true, rfl, iteT ⟨.ref D, rfl, D, _, 0, _, rfl, rfl, SqL.of eD, rfl, _, rfl, .int b, rfl, by show 2 ≤ sizeLine; rw [sizeLine_eq]; decide, fun p1 np1 => hq1 p1 _ (s2.trans (same_new np1)) upd_same⟩⟩
        · refine ⟨.ref D, rfl, D, _, rfl, .inl (SqL.of eD), _, _, rfl, rfl, _, rfl, ?_⟩
          rw [show decide ((2 : Int) < ((List.map vW (o1 :: o2 :: o3 :: t)).length : Nat)) = true from decide_eq_true (by simp only [List.length_map, List.length_cons]; omega)]
          exact iteT (iteT ((show TermsQ Q H none by cases o1 <;> cases o2 <;> exact hq) H2 s2))
end
end Rd
set_option maxHeartbeats 4000000
namespace Rd
open PySem PySem.Spec PyProof.Rows L2 TL
open C8 (pss_cut tCut)
section
variable {P : Program} {w : World} {K : PySem.W.Frag} {mg : Str → Option Value} {base : Heap} {T : Txt K mg}
theorem lo_ten {x : Int} (h : Lo x) : x.natAbs < 10 ^ 20 := Nat.lt_trans (lo_nat h) (by decide)
theorem decS_len {x : Int} (h : Lo x) : (decS x).length ≤ 21 := by
  rw [len_tl]
  have h1 := lo_ten h
  by_cases l : 0 ≤ x
  · obtain ⟨n, rfl⟩ := Int.eq_ofNat_of_zero_le l
    rw [tl_decN]
    exact Nat.le_trans (dg_len 19 n (by exact h1)) (by decide)
  · obtain ⟨n, e⟩ := Int.eq_ofNat_of_zero_le (show 0 ≤ -x by omega)
    rw [show x = -(n : Int) by omega, tl_decNeg n (by omega), List.length_cons]
    have := dg_len 19 n (by rw [show x = -(n : Int) by omega, Int.natAbs_neg] at h1; exact h1)
    omega
theorem big21 {n : Nat} (h : n ≤ 100) : n ≤ sizeLine := by rw [sizeLine_eq]; omega
def sp_str (T : Txt K mg) : Sp := fun vs H Q _ => ∃ (p : Addr) (x y : Int), vs = [.ref p] ∧ IsR T H p x y ∧ Lo x ∧ Lo y ∧ ∀ H', Same H H' → Q (.str (ratS x y)) H'
theorem ok_mr_str (T : Txt K mg) : FnOk P w K mg base CX0 2 T.mr_str.f T.mr_str.fd ["self"] (sp_str T) := by
  refine T.mr_str.F.ok sc_mr_str (fun vs H Q E h => ?_) (fun cdv A outer s H vs Q E hr h => ?_)
  · obtain ⟨p, x, y, rfl, _⟩ := h
    rfl
  · obtain ⟨p, x, y, rfl, ⟨dp, ep⟩, lx, ly, q⟩ := h
    have c := T.kRatio
    refine ⟨_, (pss_cons (ps_if (pt_cmpR op_eq (pe_fld (pv 0) (by rfl)) pe_int (nomark _)) (pss_one (ps_ret (pe_joined1 (pe_fmt (pe_call (ok_word_of_number T) (hr.mono (by decide)) (by rfl) T.d_word_of_number.g T.d_word_of_number.F.kp T.d_word_of_number.b .nil pass0 (pa_cons (pe_fld (pv 0) (by rfl)) pa_nil)))))) pss_nil)
      (pss_one (ps_ret (pe_joined (PJ.cons (pe_fmt (pe_call (ok_word_of_number T) (hr.mono (by decide)) (by rfl) T.d_word_of_number.g T.d_word_of_number.F.kp T.d_word_of_number.b .nil pass0 (pa_cons (pe_fld (pv 0) (by rfl)) pa_nil))) (PJ.cons pe_str (PJ.cons (pe_fmt (pe_call (ok_word_of_number T) (hr.mono (by decide)) (by rfl) T.d_word_of_number.g T.d_word_of_number.F.kp T.d_word_of_number.b .nil pass0 (pa_cons (pe_fld (pv 0) (by rfl)) pa_nil))) PJ.nil))))))), ?_⟩
    refine ⟨.ref p, rfl, p, _, dp, _, _, rfl, ep, c.cls, c.noA "bottom", rfl, rfl, _, rfl, ?_⟩
    rw [int_dec]
    have wx : x.natAbs < 10 ^ 27 := Nat.lt_trans (lo_ten lx) (by decide)
    have wy : y.natAbs < 10 ^ 27 := Nat.lt_trans (lo_ten ly) (by decide)
    have dx := decS_len lx
    have dy := decS_len ly
    by_cases e : y = 1
    · rw [decide_eq_true e]
      refine iteT ⟨.ref p, rfl, p, _, dp, _, _, rfl, ep, c.cls, c.noA "top", rfl, x, rfl, wx, fun H1 s1 => .inl ⟨_, rfl, big21 (by omega), ?_⟩⟩
      have := q H1 s1
      unfold ratS at this
      rw [if_pos e] at this
      exact this
    · rw [decide_eq_false e]
      refine iteF ⟨.ref p, rfl, p, _, dp, _, _, rfl, ep, c.cls, c.noA "top", rfl, x, rfl, wx, fun H1 s1 => .inl ⟨_, rfl, big21 (by omega), ?_⟩⟩
      refine ⟨_, rfl, by rw [empty_app]; exact big21 (by omega), _, rfl, by rw [empty_app, app_len]; exact big21 (by have : ("/" : Str).length = 1 := by decide
                                                                                                                     omega), .ref p, rfl, p, _, dp, _, _, rfl, s1 _ _ ep, c.cls, c.noA "bottom", rfl, y, rfl, wy, fun H2 s2 => .inl ⟨_, rfl, big21 (by omega), _, rfl, ?_, ?_⟩⟩
      · rw [empty_app, app_len, app_len]
        exact big21 (by have : ("/" : Str).length = 1 := by decide
                        omega)
      · have := q H2 (s1.trans s2)
        unfold ratS at this
        rw [if_neg e] at this
        rw [empty_app]
        exact this
def reprS (x y : Int) : Str := ("Ratio(" : Str) ++ decS x ++ (", " : Str) ++ decS y ++ (")" : Str)
def sp_repr (T : Txt K mg) : Sp := fun vs H Q _ => ∃ (p : Addr) (x y : Int), vs = [.ref p] ∧ IsR T H p x y ∧ Lo x ∧ Lo y ∧ ∀ H', Same H H' → Q (.str (reprS x y)) H'
theorem ok_mr_repr (T : Txt K mg) : FnOk P w K mg base CX0 2 T.mr_repr.f T.mr_repr.fd ["self"] (sp_repr T) := by
  refine T.mr_repr.F.ok sc_mr_repr (fun vs H Q E h => ?_) (fun cdv A outer s H vs Q E hr h => ?_)
  · obtain ⟨p, x, y, rfl, _⟩ := h
    rfl
  · obtain ⟨p, x, y, rfl, ⟨dp, ep⟩, lx, ly, q⟩ := h
    have c := T.kRatio
    refine ⟨_, (pss_one (ps_ret (pe_joined (PJ.cons pe_str (PJ.cons (pe_fmt (pe_call (ok_word_of_number T) (hr.mono (by decide)) (by rfl) T.d_word_of_number.g T.d_word_of_number.F.kp T.d_word_of_number.b .nil pass0 (pa_cons (pe_fld (pv 0) (by rfl)) pa_nil))) (PJ.cons pe_str (PJ.cons (pe_fmt (pe_call (ok_word_of_number T) (hr.mono (by decide)) (by rfl) T.d_word_of_number.g T.d_word_of_number.F.kp T.d_word_of_number.b .nil pass0 (pa_cons (pe_fld (pv 0) (by rfl)) pa_nil))) (PJ.cons pe_str PJ.nil)))))))), ?_⟩
    have wx : x.natAbs < 10 ^ 27 := Nat.lt_trans (lo_ten lx) (by decide)
    have wy : y.natAbs < 10 ^ 27 := Nat.lt_trans (lo_ten ly) (by decide)
    have dx := decS_len lx
    have dy := decS_len ly
    have l1 : ("Ratio(" : Str).length = 6 := by decide
    have l2 : (", " : Str).length = 2 := by decide
    have l3 : (")" : Str).length = 1 := by decide
    refine ⟨_, rfl, by rw [empty_app]; exact big21 (by omega), .ref p, rfl, p, _, dp, _, _, rfl, ep, c.cls, c.noA "top", rfl, x, rfl, wx, fun H1 s1 => .inl ⟨_, rfl, big21 (by omega), ?_⟩⟩
    refine ⟨_, rfl, by rw [empty_app, app_len]; exact big21 (by omega), _, rfl, by rw [empty_app, app_len, app_len]; exact big21 (by omega), .ref p, rfl, p, _, dp, _, _, rfl, s1 _ _ ep, c.cls, c.noA "bottom", rfl, y, rfl, wy, fun H2 s2 => .inl ⟨_, rfl, big21 (by omega), ?_⟩⟩
    refine ⟨_, rfl, by rw [empty_app, app_len, app_len, app_len]; exact big21 (by omega), _, rfl, by rw [empty_app, app_len, app_len, app_len, app_len]; exact big21 (by omega), ?_⟩
    rw [empty_app]
    exact q H2 (s1.trans s2)
/-- a text that terms_of takes -/
structure TxtOk (z : Str) : Prop where
  l : z.length ≤ 200
  w : ∀ y ∈ wordsOf z, y.length ≤ 200
  n : (wordsOf z).length ≤ 200
  ne : wordsOf z ≠ []
def spReadN (T : Txt K mg) : Sp := fun vs H Q _ => ∃ (z : Str) (x y : Int), vs = [.ref T.aRatio, .str z] ∧ TxtOk z ∧ termsOf z = some (x, y) ∧ y ≠ 0 ∧ Lo y ∧ ∀ r H', Same H H' → IsR T H' r (nT x y) (nB x y) → Q (.ref r) H'
theorem ok_mr_readN (T : Txt K mg) : FnOk P w K mg base CX0 3 T.mr_read.f T.mr_read.fd ["cls", "text"] (spReadN T) := by
  refine T.mr_read.F.ok sc_mr_read (fun vs H Q E h => ?_) (fun cdv A outer s H vs Q E hr h => ?_)
  · obtain ⟨z, x, y, rfl, _⟩ := h
    rfl
  · obtain ⟨z, x, y, rfl, k, e, hy, ly, q⟩ := h
    have bd2 := T.bd2
    refine ⟨_, (pss_cons (ps_set (i := 2) sc_mr_read.nd rfl (Or.inl rfl) (pe_call (ok_terms_of T) (hr.mono (by decide)) (by rfl) T.d_terms_of.g T.d_terms_of.F.kp T.d_terms_of.b .nil pass0 (pa_cons (pv 1) pa_nil)))
      (pss_cons (ps_if (pt_cmpR op_isN (pv 2) pe_non (nomark _)) (pss_one ps_never) pss_nil)
      (pss_one (ps_ret (pe_makeV (i := 0) T.kRatio.made (ok_mr_initN T) (hr.mono (by decide)) (by rfl) (by first | rfl | exact Or.inl rfl) bd2 .nil pass0 (pa_cons (pe_ix ix_tup (pv 2) pe_int (fun _ _ => rfl)) (pa_cons (pe_ix ix_tup (pv 2) pe_int (fun _ _ => rfl)) pa_nil))))))), ?_⟩
    refine ⟨.str z, rfl, .str z, rfl, .inr ⟨z, rfl, k.l, k.w, k.n, k.ne, ?_⟩⟩
    rw [e]
    intro p H1 s1 ep
    refine ⟨.ref p, rfl, rfl, _, rfl, iteF ?_⟩
    refine ⟨rfl, .ref p, rfl, p, _, 0, _, rfl, rfl, SqT.of ep, rfl, .ref p, rfl, p, _, 1, _, rfl, rfl, SqT.of ep, rfl, ?_⟩
    exact mk_r hy (sm_lo ly) fun r H' s2 i2 => q r H' (s1.trans s2) i2
def spReadX (T : Txt K mg) : Sp := fun vs H Q E => ∃ v, vs = [.ref T.aRatio, v] ∧ ((isSc v = true ∧ isS v = false) ∨ ∃ z, v = .str z ∧ TxtOk z ∧ termsOf z = none) ∧
  ∀ d H', Same H H' → H' d = some (.xd (exF ["line"] "InvalidText" [.int 1])) → E (.ref T.x_InvalidText.C) (some d) H'
theorem ok_mr_readX (T : Txt K mg) : FnOk P w K mg base (L2N.CX P w) 3 T.mr_read.f T.mr_read.fd ["cls", "text"] (spReadX T) := by
  refine Fun.okXN T.mr_read.F sc_mr_read (fun vs H Q E h => ?_) (fun cdv A outer s H vs Q E hr h => ?_)
  · obtain ⟨v, rfl, _⟩ := h
    rfl
  · obtain ⟨v, rfl, h, q⟩ := h
    have bd2 := T.bd2
    refine ⟨_, (pss_cons (ps_set (i := 2) sc_mr_read.nd rfl (Or.inl rfl) (pe_call (ok_terms_of T) (hr.mono (by decide)) (by rfl) T.d_terms_of.g T.d_terms_of.F.kp T.d_terms_of.b .nil pass0 (pa_cons (pv 1) pa_nil)))
      (pss_cons (ps_if (pt_cmpR op_isN (pv 2) pe_non (nomark _)) (pss_one (L2N.ps_raise rfl (L2N.takes_of rfl rfl rfl rfl) (pmk_VN T.x_InvalidText.T (raises_own T.x_InvalidText.xf.x.exC T.x_InvalidText.ty) ⟨T.x_InvalidText.iC, T.x_InvalidText.tI, ok_init_InvalidText T⟩ (hr.mono (by decide)) T.x_InvalidText.b pass0 (by rfl) T.x_InvalidText.g (pa_cons pe_int pa_nil)))) pss_nil)
      (pss_one (ps_ret (pe_makeV (i := 0) T.kRatio.made (ok_mr_initN T) (hr.mono (by decide)) (by rfl) (by first | rfl | exact Or.inl rfl) bd2 .nil pass0 (pa_cons (pe_ix ix_tup (pv 2) pe_int (fun _ _ => rfl)) (pa_cons (pe_ix ix_tup (pv 2) pe_int (fun _ _ => rfl)) pa_nil))))))), ?_⟩
    have key : ∀ H1, Same H H1 → ∀ d H', Same H1 H' → H' d = some (.xd (exF ["line"] "InvalidText" [.int 1])) → E (.ref T.x_InvalidText.C) (some d) H' := fun H1 s1 d H' s2 => q d H' (s1.trans s2)
    rcases h with ⟨h1, h2⟩ | ⟨z, rfl, k, e⟩
    · refine ⟨v, rfl, v, rfl, .inl ⟨h1, h2, fun H1 s1 => ?_⟩⟩
      exact ⟨.non, rfl, rfl, _, rfl, iteT ⟨(by show 1 ≤ 1000; decide), mkqR (ws := [.int 1]) (Q := E) rfl fun d' H' sm hd => key H1 s1 d' H' sm hd⟩⟩
    · refine ⟨.str z, rfl, .str z, rfl, .inr ⟨z, rfl, k.l, k.w, k.n, k.ne, ?_⟩⟩
      rw [e]
      intro H1 s1
      exact ⟨.non, rfl, rfl, _, rfl, iteT ⟨(by show 1 ≤ 1000; decide), mkqR (ws := [.int 1]) (Q := E) rfl fun d' H' sm hd => key H1 s1 d' H' sm hd⟩⟩
end
end Rd
set_option maxHeartbeats 4000000
namespace Rd
open PySem PySem.Spec PyProof.Rows L2 TL
open C8 (pss_cut tCut)
section
variable {P : Program} {w : World} {K : PySem.W.Frag} {mg : Str → Option Value} {base : Heap} {T : Txt K mg}
/-! ### the lowest terms, by the law's own way -/
/-- what a turn of the loop keeps -/
def Euc (g i a b : Nat) : Prop := Nat.gcd a b = g ∧ ((i = 0 ∧ a < 2 ^ 64 ∧ b < 2 ^ 64) ∨ b = 0 ∨ (b < a ∧ a * b * 2 ^ i ≤ 2 ^ 130))
theorem Euc.step {g i a b : Nat} (h : Euc g i a b) (hb : b ≠ 0) : Euc g (i + 1) b (a % b) := by
  obtain ⟨h1, h2⟩ := h
  refine ⟨(euc_step hb).trans h1, .inr (.inr ⟨Nat.mod_lt a (Nat.pos_of_ne_zero hb), ?_⟩)⟩
  have hm := Nat.mod_lt a (Nat.pos_of_ne_zero hb)
  rcases h2 with ⟨rfl, ha, hb2⟩ | h2 | ⟨h2, h3⟩
  · have : b * (a % b) ≤ 2 ^ 64 * 2 ^ 64 := Nat.mul_le_mul (by omega) (by omega)
    have e : (2 : Nat) ^ 64 * 2 ^ 64 = 2 ^ 128 := by decide
    rw [e] at this
    have e2 : (2 : Nat) ^ 130 = 2 ^ 128 * 4 := by decide
    rw [e2, Nat.zero_add, Nat.pow_one]
    generalize (2 : Nat) ^ 128 = z at this
    omega
  · exact absurd h2 hb
  · have k := euc_half hb h2
    calc b * (a % b) * 2 ^ (i + 1) = 2 * (b * (a % b)) * 2 ^ i := by rw [Nat.pow_succ, ← Nat.mul_assoc, Nat.mul_comm _ 2, ← Nat.mul_assoc]
      _ ≤ a * b * 2 ^ i := Nat.mul_le_mul_right _ k
      _ ≤ 2 ^ 130 := h3
theorem Euc.done {g a b : Nat} (h : Euc g 200 a b) : b = 0 := by
  obtain ⟨_, ⟨h1, _⟩ | h1 | ⟨h1, h2⟩⟩ := h
  · omega
  · exact h1
  · false_or_by_contra
    rename_i hb
    have h3 : 1 ≤ a * b := Nat.mul_pos (by omega) (by omega)
    have h4 : 1 * 2 ^ 200 ≤ a * b * 2 ^ 200 := Nat.mul_le_mul_right _ h3
    exact absurd (Nat.le_trans h4 h2) (by decide)
theorem Euc.at0 {g i a b : Nat} (h : Euc g i a b) (hb : b = 0) : a = g := by
  obtain ⟨h1, _⟩ := h
  rw [← h1, hb, Nat.gcd_zero_right]
theorem abs_val (x : Int) : (if x < 0 then -x else x) = (x.natAbs : Int) := by split <;> omega
def spPlain (T : Txt K mg) : Sp := fun vs H Q _ => ∃ x y, vs = [.int x, .int y] ∧ y ≠ 0 ∧ Lo x ∧ Lo y ∧ ∀ p H', Same H H' → H' p = some (.tup [.int (nT x y), .int (nB x y)]) → Q (.ref p) H'
theorem ok_law_plain (T : Txt K mg) : FnOk P w K mg base CX0 1 T.d__law_plain.f T.d__law_plain.fd ["_law_top_z", "_law_bottom_z"] (spPlain T) := by
  refine T.d__law_plain.F.ok sc_law_plain (fun vs H Q E h => ?_) (fun cdv A outer s H vs Q E hr h => ?_)
  · obtain ⟨x, y, rfl, _⟩ := h
    rfl
  · obtain ⟨x, y, rfl, hy, lx, ly, q⟩ := h
    refine ⟨_, (pss_cons (ps_par (i := 2) (j := 3) (by rfl) sc_law_plain.nd rfl rfl (by decide) rfl rfl (pa_cons (pe_callB call_abs (by rfl) T.z_abs (by decide +kernel) (pa_cons (pv 0) pa_nil)) (pa_cons (pe_callB call_abs (by rfl) T.z_abs (by decide +kernel) (pa_cons (pv 1) pa_nil)) pa_nil)) (by rfl))
      (pss_cons (ps_for PassesOwn.never rfl (pi_range1 (by rfl) T.z_range (pa_cons pe_int pa_nil)) (pg_name (i := 4) sc_law_plain.nd rfl (Or.inl rfl)) (pss_cons (ps_if (pt_cmpR op_eq (pv 3) pe_int (nomark _)) (pss_one ps_break) pss_nil)
      (pss_one (ps_par (i := 2) (j := 3) (by rfl) sc_law_plain.nd rfl rfl (by decide) rfl rfl (pa_cons (pv 3) (pa_cons (pe_op op_modN (pe_callTy call_int1 (by rfl) T.z_int (by decide +kernel) (pa_cons (pv 2) pa_nil)) (pv 3)) pa_nil)) (by rfl)))))
      (pss_cons (ps_set (i := 5) sc_law_plain.nd rfl (Or.inl rfl) (pe_ifExp (pt_cmpR op_gt (pv 1) pe_int (nomark _)) pe_int (pe_un un_neg pe_int)))
      (pss_one (ps_ret (pe_tup (pa_cons (pe_op op_fdivZ (pe_op op_mul (pv 5) (pv 0)) (pv 2)) (pa_cons (pe_op op_fdivZ (pe_op op_mul (pv 5) (pv 1)) (pv 2)) pa_nil)))))))), ?_⟩
    refine ⟨.int x, rfl, _, rfl, .int y, rfl, _, rfl, _, _, rfl, ?_⟩
    rw [abs_val, abs_val]
    have hg : (Int.gcd x y : Int) ≠ 0 := Int.ne_of_gt (gcd_pos hy)
    have hs : Sm (Int.gcd x y : Int) := by
      have h1 : Int.gcd x y ≤ y.natAbs := Nat.gcd_le_right _ (by omega)
      exact Nat.lt_of_le_of_lt (by rw [Int.natAbs_natCast]; exact h1) (sm_lo ly)
    obtain ⟨pe1, pe2⟩ := plain_eq (x := x) hy
    have s1 : ∀ (t : Option V) (D : Ends), D.rt = Q → tSeq (tAsg (tIf (tTest (tOp (rI0 fun i j => V.bl (decide (j < i))) (tVar 1) (tC (V.int 0)))) (tC (V.int 1)) (tUn (rU fun i => V.int (-i)) (tC (V.int 1)))) (gName 5)) (tRet (tTup (tCons (tOp (rI CDivZ fun i j => V.int (i.fdiv j)) (tOp (rI CMul fun i j => V.int (i * j)) (tVar 5) (tVar 0)) (tVar 2)) (tCons (tOp (rI CDivZ fun i j => V.int (i.fdiv j)) (tOp (rI CMul fun i j => V.int (i * j)) (tVar 5) (tVar 1)) (tVar 2)) tNil)))) D [some (.int x), some (.int y), some (.int (Int.gcd x y : Int)), some (.int 0), t, none] H := by
      intro t D eD
      have go : ∀ sg : Int, sg = (if 0 < y then 1 else -1) → tRet (tTup (tCons (tOp (rI CDivZ fun i j => V.int (i.fdiv j)) (tOp (rI CMul fun i j => V.int (i * j)) (tVar 5) (tVar 0)) (tVar 2)) (tCons (tOp (rI CDivZ fun i j => V.int (i.fdiv j)) (tOp (rI CMul fun i j => V.int (i * j)) (tVar 5) (tVar 1)) (tVar 2)) tNil))) D [some (.int x), some (.int y), some (.int (Int.gcd x y : Int)), some (.int 0), t, some (.int sg)] H := by
        intro sg e
        refine ⟨.int sg, rfl, .int x, rfl, sg, x, rfl, rfl, .inr lx, .int (Int.gcd x y : Int), rfl, _, _, rfl, rfl, cdz hg hs, .int sg, rfl, .int y, rfl, sg, y, rfl, rfl, .inr ly, .int (Int.gcd x y : Int), rfl, _, _, rfl, rfl, cdz hg hs, by show 2 ≤ sizeLine; rw [sizeLine_eq]; decide, fun p np => ?_⟩
        rw [eD]
        refine q p _ (same_new np) ?_
        rw [upd_same, e]
        show some (HO.tup [V.int (Int.fdiv _ _), V.int (Int.fdiv _ _)]) = _
        rw [pe1, pe2]
      refine ⟨.int y, rfl, y, 0, rfl, rfl, _, rfl, ite2 (fun e => ?_) (fun e => ?_)⟩
      · exact go 1 (by rw [if_pos (of_decide_eq_true e)])
      · exact ⟨1, rfl, go (-1) (by rw [if_neg (of_decide_eq_false (by simpa using e))])⟩
    refine ⟨200, rfl, by decide, by decide, for_range (n := 200) (fun i σ H3 => H3 = H ∧ ∃ (a b : Nat) (t : Option V), σ = [some (.int x), some (.int y), some (.int a), some (.int b), t, none] ∧ Euc (Int.gcd x y) i a b) ⟨rfl, x.natAbs, y.natAbs, none, rfl, rfl, .inl ⟨rfl, lo_nat lx, lo_nat ly⟩⟩ ?_ ?_⟩
    · rintro i σ H3 hi ⟨rfl, a, b, t, rfl, he⟩
      refine ⟨.int b, rfl, rfl, _, rfl, ?_⟩
      rw [int_dec]
      by_cases hb : b = 0
      · subst hb
        have ha := he.at0 rfl
        subst ha
        exact iteT (s1 _ _ rfl)
      · rw [decide_eq_false (show ¬ (b : Int) = 0 by omega)]
        refine iteF ?_
        refine ⟨.int b, rfl, .int a, rfl, .inl ⟨a, rfl, .int b, rfl, a, b, rfl, rfl, by omega, _, _, rfl, rfl, b, a % b, some (.int (0 + i)), ?_, he.step hb⟩⟩
        show [some (V.int x), some (V.int y), some (V.int b), some (V.int (Int.fmod a b)), some (V.int (0 + (i : Int))), none] = _
        rw [Int.fmod_eq_emod_of_nonneg _ (by omega)]
        rfl
    · rintro σ H3 ⟨rfl, a, b, t, rfl, he⟩
      have hb := he.done
      subst hb
      have ha := he.at0 rfl
      subst ha
      exact s1 _ _ rfl
def spNumber (T : Txt K mg) : Sp := fun vs H Q _ => ∃ b, vs = [.ref b] ∧ Bag H b ∧ ∀ n H', Go b H H' → -(10 ^ 9) ≤ n → n ≤ 10 ^ 9 → Q (.int n) H'
theorem ok_law_number (T : Txt K mg) : FnOk P w K mg base CX0 3 T.d__law_number.f T.d__law_number.fd ["_law_bag_here"] (spNumber T) := by
  refine T.d__law_number.F.ok sc_law_number (fun vs H Q E h => ?_) (fun cdv A outer s H vs Q E hr h => ?_)
  · obtain ⟨b, rfl, _⟩ := h
    rfl
  · obtain ⟨b, rfl, hB, q⟩ := h
    refine ⟨_, (pss_cons (ps_par (i := 1) (j := 2) (by rfl) sc_law_number.nd rfl rfl (by decide) rfl rfl (pa_cons (pe_call (ok_law_pull T) (hr.mono (by decide)) (by rfl) T.d__law_pull.g T.d__law_pull.F.kp T.d__law_pull.b .nil pass0 (pa_cons (pv 0) (pa_cons pe_int pa_nil))) (pa_cons (pe_call (ok_law_ofL T) (hr.mono (by decide)) (by rfl) T.d__law_of.g T.d__law_of.F.kp T.d__law_of.b .nil pass0 (pa_cons (pv 0) (pa_cons (pe_lst (pa_cons pe_int (pa_cons pe_int (pa_cons (pe_op op_pow pe_int pe_int) pa_nil)))) pa_nil))) pa_nil)) (by rfl))
      (pss_cons (ps_set (i := 3) sc_law_number.nd rfl (Or.inl rfl) (pe_ifExp (pt_cmpR op_lt (pv 1) pe_int (nomark _)) (pe_call (ok_law_pull T) (hr.mono (by decide)) (by rfl) T.d__law_pull.g T.d__law_pull.F.kp T.d__law_pull.b .nil pass0 (pa_cons (pv 0) (pa_cons pe_int pa_nil))) (pe_call (ok_law_pull T) (hr.mono (by decide)) (by rfl) T.d__law_pull.g T.d__law_pull.F.kp T.d__law_pull.b .nil pass0 (pa_cons (pv 0) (pa_cons (pe_op op_add (pv 2) pe_int) pa_nil)))))
      (pss_one (ps_ret (pe_ifExp (pt_cmpR op_eq (pe_call (ok_law_pull T) (hr.mono (by decide)) (by rfl) T.d__law_pull.g T.d__law_pull.F.kp T.d__law_pull.b .nil pass0 (pa_cons (pv 0) (pa_cons pe_int pa_nil))) pe_int (nomark _)) (pe_op op_sub pe_int (pv 3)) (pv 3)))))), ?_⟩
    refine ⟨.ref b, rfl, b, 4, rfl, hB, by decide, by decide, fun d H1 g1 d0 d4 => ?_⟩
    refine ⟨.ref b, rfl, _, _, rfl, rfl, ⟨by decide, by decide, by decide⟩, by show 3 ≤ sizeLine; rw [sizeLine_eq]; decide, fun l nl => ?_⟩
    have g2 := g1.new (o := .lst [.int 10, .int 100, .int (10 ^ 9)]) nl
    refine ⟨b, l, _, rfl, g2.1, g1.1.ne nl, upd_same, by show 0 < 3; decide, by show 3 < 1000; decide, fun v H3 g3 hv => ?_⟩
    refine ⟨_, _, rfl, ?_⟩
    obtain ⟨m, rfl, m0, m1⟩ : ∃ m : Int, v = .int m ∧ 0 ≤ m ∧ m ≤ 10 ^ 9 := by
      rcases List.mem_cons.mp hv with e | hv
      · exact ⟨10, e, by decide, by decide⟩
      rcases List.mem_cons.mp hv with e | hv
      · exact ⟨100, e, by decide, by decide⟩
      · exact ⟨10 ^ 9, List.mem_singleton.mp hv, by decide, by decide⟩
    have g4 := g2.trans g3
    have fin : ∀ (f : Int) (H4 : Hp), Go b H H4 → 0 ≤ f → f ≤ 10 ^ 9 → tRet (tIf (tTest (tOp rEq (tCall spDraw [] E0 (tCons (tVar 0) (tCons (tC (V.int 3)) tNil))) (tC (V.int 0)))) (tOp (rI0 fun i j => V.int (i - j)) (tC (V.int 0)) (tVar 3)) (tVar 3)) { nx := fun x H' => Q V.non H', rt := Q } [some (.ref b), some (.int d), some (.int m), some (.int f)] H4 := by
      intro f H4 g5 f0 f1
      refine ⟨.ref b, rfl, b, 3, rfl, g5.1, by decide, by decide, fun e H5 g6 e0 e3 => ⟨rfl, _, rfl, ite2 (fun _ => ⟨.int f, rfl, 0, f, rfl, rfl, ?_⟩) (fun _ => ⟨.int f, rfl, ?_⟩)⟩⟩
      · exact q _ _ (g5.trans g6) (by omega) (by omega)
      · exact q _ _ (g5.trans g6) (by omega) (by omega)
    refine ⟨.int d, rfl, d, 2, rfl, rfl, _, rfl, ite2 (fun _ => ⟨.ref b, rfl, b, 7, rfl, g4.1, by decide, by decide, fun f H4 g5 f0 f7 => ?_⟩) (fun _ => ⟨.ref b, rfl, .int m, rfl, m, 1, rfl, rfl, b, m + 1, rfl, g4.1, by omega, by omega, fun f H4 g5 f0 f7 => ?_⟩)⟩
    · exact fin f H4 (g4.trans g5) f0 (by omega)
    · exact fin f H4 (g4.trans g5) f0 (by omega)
end
end Rd
set_option maxHeartbeats 4000000
namespace Rd
open PySem PySem.Spec PyProof.Rows L2 TL
open C8 (pss_cut tCut)
section
variable {P : Program} {w : World} {K : PySem.W.Frag} {mg : Str → Option Value} {base : Heap} {T : Txt K mg}
/-! ### a ratio's parts and texts -/
theorem FnOk.toR {CX : CXT} {k : Nat} {f : Addr} {fd : FuncData} {ps : List Str} {sp : Sp} (F : FnOk P w K mg base CX k f fd ps sp) (hb : Binds K fd ps []) : FnR P w K mg base CX k f sp := by
  exact (FnOk.raw F hb .nil).imp fun vs H Q E h => by rw [List.append_nil]; exact h
theorem iteP {b : Bool} {p q : Prop} (h : b = true) (hp : p) : if b = true then p else q := by rw [if_pos h]; exact hp
theorem eqv_flat {H : Hp} {a b : Addr} {xs : List V} (ha : SqL K H a xs) (hb : SqL K H b xs) (hs : xs.all isSc = true) (hl : xs.length ≤ 1000) : Eqv K H 1 (.ref a) (.ref b) :=
  .inr ⟨a, b, xs, xs, rfl, rfl, .inl ⟨ha, hb⟩, rfl, hl, fun i x y h1 h2 => by
    cases h1.symm.trans h2
    exact Eqv.sc (List.all_eq_true.mp hs x (List.mem_of_getElem? h1)) 0⟩
theorem words_pos (n m : Nat) : Txt.split (ratS n m) "/" = if (m : Int) = 1 then [decS n] else [decS n, decS m] := by
  unfold ratS
  split
  · rw [split1 (by rw [tl_decN]; exact no_slash n)]
  · rw [split2 (by rw [tl_decN]; exact no_slash n) (by rw [tl_decN]; exact no_slash m)]
theorem rat_len {x y : Int} (hx : Lo x) (hy : Lo y) : (ratS x y).length ≤ 43 := by
  have l := decS_len hx
  have k := decS_len hy
  unfold ratS
  split
  · omega
  · rw [app_len, app_len, show ("/" : Str).length = 1 by decide]; omega
theorem txt_rat {x y : Int} (h : Red x y) (hx : Lo x) (hy : Lo y) : TxtOk (ratS x y) := by
  obtain ⟨m, rfl⟩ := Int.eq_ofNat_of_zero_le (Int.le_of_lt h.pos)
  have key : ∀ n : Nat, Lo n → wordsOf (ratS x m) = (if (m : Int) = 1 then [decS n] else [decS n, decS m]) → TxtOk (ratS x m) := by
    intro n hn e
    have l := decS_len hn
    have k := decS_len hy
    refine ⟨by have := rat_len hx hy; omega, fun y hm => ?_, ?_, ?_⟩
    · rw [e] at hm
      split at hm
      · rw [List.mem_singleton.mp hm]; omega
      · rcases List.mem_cons.mp hm with z | z
        · rw [z]; omega
        · rw [List.mem_singleton.mp z]; omega
    · rw [e]; split
      · show 1 ≤ 200; decide
      · show 2 ≤ 200; decide
    · rw [e]; split <;> exact List.cons_ne_nil _ _
  by_cases ha : 0 ≤ x
  · obtain ⟨n, rfl⟩ := Int.eq_ofNat_of_zero_le ha
    refine key n hx ?_
    unfold wordsOf
    rw [show Txt.startswith (ratS (n : Int) m) "-" = false from rat_pos n m]
    exact words_pos n m
  · obtain ⟨n, rfl⟩ : ∃ n : Nat, x = -(n : Int) := ⟨x.natAbs, by omega⟩
    refine key n (by unfold Lo at *; omega) ?_
    unfold wordsOf
    rw [rat_neg n m (by omega), neg_starts, if_pos rfl, drop_minus]
    exact words_pos n m
theorem str_small {x : Int} (h : Lo x) : x.natAbs.log2 < 1920 := log_small (Nat.lt_trans (lo_ten h) (by decide))
def spSo (T : Txt K mg) : Sp := fun vs H Q _ => ∃ (r t : Addr) (x y : Int), vs = [.ref r, .ref t] ∧ IsR T H r x y ∧ H t = some (.tup [.int x, .int y]) ∧ Red x y ∧ Lo x ∧ Lo y ∧ ∀ H', Same H H' → Q (.bl true) H'
theorem ok_law_so (T : Txt K mg) : FnOk P w K mg base CX0 6 T.d__law_so.f T.d__law_so.fd ["_law_ratio", "_law_due"] (spSo T) := by
  refine T.d__law_so.F.ok sc_law_so (fun vs H Q E h => ?_) (fun cdv A outer s H vs Q E hr h => ?_)
  · obtain ⟨r, t, x, y, rfl, _⟩ := h
    rfl
  · obtain ⟨r, t, x, y, rfl, ⟨dr, er⟩, et, hred, lx, ly, q⟩ := h
    have c := T.kRatio
    refine ⟨_, (pss_cons (ps_asg (pv 1) (pg_tup rfl (pgs_cons (pg_name (i := 2) sc_law_so.nd rfl (Or.inl rfl)) (pgs_cons (pg_name (i := 3) sc_law_so.nd rfl (Or.inl rfl)) pgs_nil))))
      (pss_cons (ps_set (i := 4) sc_law_so.nd rfl (Or.inl rfl) (pe_op op_add_str (pe_callTy call_str_int (by rfl) T.z_str (by decide +kernel) (pa_cons (pv 2) pa_nil)) (pe_ifExp (pt_cmpR op_eq (pv 3) pe_int (nomark _)) pe_str (pe_op op_add_str pe_str (pe_callTy call_str_int (by rfl) T.z_str (by decide +kernel) (pa_cons (pv 3) pa_nil))))))
      (pss_cons (ps_if (PW.pt (pw_or (pt_not (pt_val (pe_callB call_isi (by rfl) T.z_isinstance (by decide +kernel) (pa_cons (pv 0) (pa_cons (pe_glob (v := .ref T.aRatio) rfl T.c_Ratio rfl) pa_nil))))) (pw_or1 (pt_not (pt_val (pe_call (ok_law_like T 1) (hr.mono (by decide)) (by rfl) T.d__law_like.g T.d__law_like.F.kp T.d__law_like.b .nil pass0 (pa_cons (pe_lst (pa_cons (pe_fld (pv 0) (by rfl)) (pa_cons (pe_fld (pv 0) (by rfl)) (pa_cons (pe_callTy (call_strF (T.mr_str.M _ rfl).at_ (T.mr_str.M _ rfl).fn (ok_mr_str T) (hr.mono (by decide)) T.mr_str.b pass0) (by rfl) T.z_str (by decide +kernel) (pa_cons (pv 0) pa_nil)) pa_nil)))) (pa_cons (pe_lst (pa_cons (pv 2) (pa_cons (pv 3) (pa_cons (pv 4) pa_nil)))) pa_nil)))))))) (pss_one (ps_ret pe_bl)) pss_nil)
      (pss_one (ps_ret (pe_and (pe_cmpR op_eq (pe_callB (call_repF (S := T.sR) (fun C h => (T.mr_repr.M C h).at_) (T.mr_repr.M _ rfl).fn (ok_mr_repr T) (hr.mono (by decide)) T.mr_repr.b pass0) (by rfl) T.z_repr (by decide +kernel) (pa_cons (pv 0) pa_nil)) (pe_op op_add_str (pe_op op_add_str (pe_op op_add_str (pe_op op_add_str pe_str (pe_callTy call_str_int (by rfl) T.z_str (by decide +kernel) (pa_cons (pv 2) pa_nil))) pe_str) (pe_callTy call_str_int (by rfl) T.z_str (by decide +kernel) (pa_cons (pv 3) pa_nil))) pe_str) (nomark _)) (pe_and (pe_cmpR (op_eqF T.eqRatio (ok_mr_eq T) (hr.mono (by decide)) T.mr_eq.b pass0) (ClX.pe_cmeth (pe_glob (v := .ref T.aRatio) rfl T.c_Ratio rfl) T.rdr T.rdm ((FnOk.toR (ok_mr_readN T) T.mr_read.b)) (hr.mono (by decide)) pass0 (pa_cons (pv 4) pa_nil)) (pv 0) (nomark _)) (pe_one (pe_cmpR op_eq (pe_fld (ClX.pe_cmeth (pe_glob (v := .ref T.aRatio) rfl T.c_Ratio rfl) T.rdr T.rdm ((FnOk.toR (ok_mr_readN T) T.mr_read.b)) (hr.mono (by decide)) pass0 (pa_cons (pv 4) pa_nil)) (by rfl)) (pv 2) (nomark _)))))))))), ?_⟩
    have dx := decS_len lx
    have dy := decS_len ly
    have wx := str_small lx
    have wy := str_small ly
    have z0 : ("" : Str).length = 0 := by decide
    have z1 : ("/" : Str).length = 1 := by decide
    have l1 : ("Ratio(" : Str).length = 6 := by decide
    have l2 : (", " : Str).length = 2 := by decide
    have l3 : (")" : Str).length = 1 := by decide
    obtain ⟨ex, ey⟩ := norm_of_red hred
    refine ⟨.ref t, rfl, t, _, rfl, SqT.of et, rfl, .int x, [.int y], rfl, .int y, [], rfl, rfl, ?_⟩
    refine ⟨.int x, rfl, x, rfl, wx, .int y, rfl, rfl, _, rfl, ?_⟩
    rw [int_dec]
    by_cases e : y = 1
    · rw [decide_eq_true e]
      refine iteT ⟨decS x, "", rfl, rfl, by rw [z0]; exact big21 (by omega), ?_⟩
      rw [show decS x ++ "" = ratS x y by unfold ratS; rw [if_pos e]; exact ext_tl (by rw [tl_append, show tl ("" : Str) = [] from by decide +kernel, List.append_nil])]
      refine ⟨.ref r, rfl, .ref r, _, _, _, true, rfl, .own _, T.insR er, c.is, _, rfl, iteF ?_⟩
      refine ⟨.ref r, rfl, r, _, dr, _, _, rfl, er, c.cls, c.noA "top", rfl, .ref r, rfl, r, _, dr, _, _, rfl, er, c.cls, c.noA "bottom", rfl, .ref r, rfl, r, dr, _, rfl, er, r, x, y, rfl, ⟨dr, er⟩, lx, ly, fun H1 s1 => ⟨_, rfl, by show 3 ≤ sizeLine; rw [sizeLine_eq]; decide, fun a1 n1 => ?_⟩⟩
      refine ⟨.int x, rfl, .int y, rfl, .str (ratS x y), rfl, by show 3 ≤ sizeLine; rw [sizeLine_eq]; decide, fun a2 n2 => ?_⟩
      have s2 := (s1.trans (same_new (o := .lst [.int x, .int y, .str (ratS x y)]) n1)).trans (same_new (o := .lst [.int x, .int y, .str (ratS x y)]) n2)
      refine ⟨.ref a1, .ref a2, rfl, eqv_flat (xs := [.int x, .int y, .str (ratS x y)]) (SqL.of (same_new n2 _ _ upd_same)) (SqL.of upd_same) rfl (by show 3 ≤ 1000; decide), fun H3 s3 => ⟨_, rfl, iteF ?_⟩⟩
      have s4 := s2.trans s3
      refine ⟨.ref r, rfl, r, _, dr, _, rfl, rfl, s4 _ _ er, r, x, y, rfl, ⟨dr, s4 _ _ er⟩, lx, ly, fun H5 s5 => ⟨_, rfl, ?_⟩⟩
      have s6 := s4.trans s5
      refine ⟨.int x, rfl, x, rfl, wx, "Ratio(", decS x, rfl, rfl, by rw [l1]; exact big21 (by omega), _, ", ", rfl, rfl, by rw [app_len, l1, l2]; exact big21 (by omega), .int y, rfl, y, rfl, wy, _, decS y, rfl, rfl, by rw [app_len, app_len, l1, l2]; exact big21 (by omega), _, ")", rfl, rfl, by rw [app_len, app_len, app_len, l1, l2, l3]; exact big21 (by omega), rfl, _, rfl, iteP (decide_eq_true rfl) ?_⟩
      refine ⟨rfl, .str (ratS x y), rfl, ratS x y, x, y, rfl, txt_rat hred lx ly, terms_rat hred, Int.ne_of_gt hred.pos, ly, fun r2 H7 s7 i7 => ?_⟩
      rw [ex, ey] at i7
      obtain ⟨d2, e2⟩ := i7
      have s8 := s6.trans s7
      refine ⟨.ref r, rfl, r2, _, d2, _, rfl, rfl, e2, .inl ⟨_, T.insR (s8 _ _ er), c.self, r2, .ref r, x, y, rfl, ⟨d2, e2⟩, .inl ⟨r, x, y, rfl, ⟨dr, s8 _ _ er⟩, _, rfl, _, rfl, iteP (by rw [decide_eq_true rfl, decide_eq_true rfl]; rfl) ?_⟩⟩⟩
      refine ⟨rfl, .str (ratS x y), rfl, ratS x y, x, y, rfl, txt_rat hred lx ly, terms_rat hred, Int.ne_of_gt hred.pos, ly, fun r3 H9 s9 i9 => ?_⟩
      rw [ex, ey] at i9
      obtain ⟨d3, e3⟩ := i9
      refine ⟨r3, _, d3, _, _, rfl, e3, c.cls, c.noA "top", rfl, .int x, rfl, rfl, ?_⟩
      rw [decide_eq_true rfl]
      exact q H9 (s8.trans s9)
    · rw [decide_eq_false e]
      refine iteF ⟨.int y, rfl, y, rfl, wy, "/", decS y, rfl, rfl, by rw [z1]; exact big21 (by omega), decS x, "/" ++ decS y, rfl, rfl, by rw [app_len, z1]; exact big21 (by omega), ?_⟩
      rw [show decS x ++ ("/" ++ decS y) = ratS x y by unfold ratS; rw [if_neg e, str_assoc]]
      refine ⟨.ref r, rfl, .ref r, _, _, _, true, rfl, .own _, T.insR er, c.is, _, rfl, iteF ?_⟩
      refine ⟨.ref r, rfl, r, _, dr, _, _, rfl, er, c.cls, c.noA "top", rfl, .ref r, rfl, r, _, dr, _, _, rfl, er, c.cls, c.noA "bottom", rfl, .ref r, rfl, r, dr, _, rfl, er, r, x, y, rfl, ⟨dr, er⟩, lx, ly, fun H1 s1 => ⟨_, rfl, by show 3 ≤ sizeLine; rw [sizeLine_eq]; decide, fun a1 n1 => ?_⟩⟩
      refine ⟨.int x, rfl, .int y, rfl, .str (ratS x y), rfl, by show 3 ≤ sizeLine; rw [sizeLine_eq]; decide, fun a2 n2 => ?_⟩
      have s2 := (s1.trans (same_new (o := .lst [.int x, .int y, .str (ratS x y)]) n1)).trans (same_new (o := .lst [.int x, .int y, .str (ratS x y)]) n2)
      refine ⟨.ref a1, .ref a2, rfl, eqv_flat (xs := [.int x, .int y, .str (ratS x y)]) (SqL.of (same_new n2 _ _ upd_same)) (SqL.of upd_same) rfl (by show 3 ≤ 1000; decide), fun H3 s3 => ⟨_, rfl, iteF ?_⟩⟩
      have s4 := s2.trans s3
      refine ⟨.ref r, rfl, r, _, dr, _, rfl, rfl, s4 _ _ er, r, x, y, rfl, ⟨dr, s4 _ _ er⟩, lx, ly, fun H5 s5 => ⟨_, rfl, ?_⟩⟩
      have s6 := s4.trans s5
      refine ⟨.int x, rfl, x, rfl, wx, "Ratio(", decS x, rfl, rfl, by rw [l1]; exact big21 (by omega), _, ", ", rfl, rfl, by rw [app_len, l1, l2]; exact big21 (by omega), .int y, rfl, y, rfl, wy, _, decS y, rfl, rfl, by rw [app_len, app_len, l1, l2]; exact big21 (by omega), _, ")", rfl, rfl, by rw [app_len, app_len, app_len, l1, l2, l3]; exact big21 (by omega), rfl, _, rfl, iteP (decide_eq_true rfl) ?_⟩
      refine ⟨rfl, .str (ratS x y), rfl, ratS x y, x, y, rfl, txt_rat hred lx ly, terms_rat hred, Int.ne_of_gt hred.pos, ly, fun r2 H7 s7 i7 => ?_⟩
      rw [ex, ey] at i7
      obtain ⟨d2, e2⟩ := i7
      have s8 := s6.trans s7
      refine ⟨.ref r, rfl, r2, _, d2, _, rfl, rfl, e2, .inl ⟨_, T.insR (s8 _ _ er), c.self, r2, .ref r, x, y, rfl, ⟨d2, e2⟩, .inl ⟨r, x, y, rfl, ⟨dr, s8 _ _ er⟩, _, rfl, _, rfl, iteP (by rw [decide_eq_true rfl, decide_eq_true rfl]; rfl) ?_⟩⟩⟩
      refine ⟨rfl, .str (ratS x y), rfl, ratS x y, x, y, rfl, txt_rat hred lx ly, terms_rat hred, Int.ne_of_gt hred.pos, ly, fun r3 H9 s9 i9 => ?_⟩
      rw [ex, ey] at i9
      obtain ⟨d3, e3⟩ := i9
      refine ⟨r3, _, d3, _, _, rfl, e3, c.cls, c.noA "top", rfl, .int x, rfl, rfl, ?_⟩
      rw [decide_eq_true rfl]
      exact q H9 (s8.trans s9)
end
end Rd
set_option maxHeartbeats 4000000
namespace Rd
open PySem PySem.Spec PyProof.Rows L2 L2H HotX
open C8 (pss_cut tCut)
/-! ## an error that is caught -/
section
variable {P : Program} {w : World} {K : PySem.W.Frag} {mg : Str → Option Value} {base : Heap} {T : Txt K mg}
def tNo : TE := fun _ _ _ => False
theorem pe_no {X : Cx} {e : Expr} : PE X e tNo := ⟨fun _ _ _ _ _ _ h => h.elim⟩
theorem iteN {b : Bool} {p q : Prop} (h : b = false) (hq : q) : if b = true then p else q := by rw [h]; exact hq
theorem exF_code (nm : List Str) (code : Str) (ws : List V) : (exF nm code ws).lookup ("code" : Str) = some (.str code) := rfl
def spFieldE (a dd : Addr) : Sp := fun vs H Q _ => vs = [.ref a] ∧ H dd = some (.xd (exF ["line"] "InvalidText" [.int 1])) ∧ ∀ H1, Same H H1 → Q (.int 1) H1
theorem ok_law_field (T : Txt K mg) {a dd : Addr} {oe : Obj} (hc : oe.cls = .ref T.x_InvalidText.C) (hd : oe.dict = some dd) (hf : ∃ vs, oe.data = .fields vs) :
    FnE P w K mg base CX0 1 T.d__law_field.f T.d__law_field.fd ["_law_e"] (spFieldE a dd) a oe := by
  refine Fun.okE T.d__law_field.F sc_law_field (fun vs H Q E h => ?_) (fun cdv A outer s H vs Q E hot hr h => ?_)
  · obtain ⟨rfl, _⟩ := h
    rfl
  · obtain ⟨rfl, eD, q⟩ := h
    refine ⟨_, (pss_cons (ps_if (pt_cmpR op_in_seq (pe_xq (C := T.x_InvalidText.C) (dd := dd) (a := a) (oe := oe) T.x_InvalidText.xf.x (T.x_InvalidText.no "code" (by decide +kernel)) hc hd hf List.mem_cons_self (pv 0)) (pe_tup (pa_cons pe_str (pa_cons pe_str pa_nil))) (by rfl)) pss_never pss_nil)
      (pss_cons (ps_if (pt_cmpR op_in_seq (pe_xq (C := T.x_InvalidText.C) (dd := dd) (a := a) (oe := oe) T.x_InvalidText.xf.x (T.x_InvalidText.no "code" (by decide +kernel)) hc hd hf List.mem_cons_self (pv 0)) (pe_tup (pa_cons pe_str (pa_cons pe_str pa_nil))) (by rfl)) pss_never pss_nil)
      (pss_cons (ps_if (pt_cmpR op_eq (pe_xq (C := T.x_InvalidText.C) (dd := dd) (a := a) (oe := oe) T.x_InvalidText.xf.x (T.x_InvalidText.no "code" (by decide +kernel)) hc hd hf List.mem_cons_self (pv 0)) pe_str (nomark _)) pss_never pss_nil)
      (pss_cons (ps_if (pt_cmpR op_eq (pe_xq (C := T.x_InvalidText.C) (dd := dd) (a := a) (oe := oe) T.x_InvalidText.xf.x (T.x_InvalidText.no "code" (by decide +kernel)) hc hd hf List.mem_cons_self (pv 0)) pe_str (nomark _)) pss_never pss_nil)
      (pss_cons (ps_if (pt_cmpR op_in_seq (pe_xq (C := T.x_InvalidText.C) (dd := dd) (a := a) (oe := oe) T.x_InvalidText.xf.x (T.x_InvalidText.no "code" (by decide +kernel)) hc hd hf List.mem_cons_self (pv 0)) (pe_tup (pa_cons pe_str (pa_cons pe_str pa_nil))) (by rfl)) pss_never pss_nil)
      (pss_cons (ps_if (pt_cmpR op_in_seq (pe_xq (C := T.x_InvalidText.C) (dd := dd) (a := a) (oe := oe) T.x_InvalidText.xf.x (T.x_InvalidText.no "code" (by decide +kernel)) hc hd hf List.mem_cons_self (pv 0)) (pe_tup (pa_cons pe_str (pa_cons pe_str (pa_cons pe_str pa_nil)))) (by rfl)) pss_never pss_nil)
      (pss_cons (ps_if (pt_cmpR op_eq (pe_xq (C := T.x_InvalidText.C) (dd := dd) (a := a) (oe := oe) T.x_InvalidText.xf.x (T.x_InvalidText.no "code" (by decide +kernel)) hc hd hf List.mem_cons_self (pv 0)) pe_str (nomark _)) pss_never pss_nil)
      (pss_cons (ps_if (pt_cmpR op_eq (pe_xq (C := T.x_InvalidText.C) (dd := dd) (a := a) (oe := oe) T.x_InvalidText.xf.x (T.x_InvalidText.no "code" (by decide +kernel)) hc hd hf List.mem_cons_self (pv 0)) pe_str (nomark _)) pss_never pss_nil)
      (pss_cons (ps_if (pt_cmpR op_in_seq (pe_xq (C := T.x_InvalidText.C) (dd := dd) (a := a) (oe := oe) T.x_InvalidText.xf.x (T.x_InvalidText.no "code" (by decide +kernel)) hc hd hf List.mem_cons_self (pv 0)) (pe_tup (pa_cons pe_str (pa_cons pe_str (pa_cons pe_str (pa_cons pe_str pa_nil))))) (by rfl)) pss_never pss_nil)
      (pss_cons (ps_if (pt_cmpR op_in_seq (pe_xq (C := T.x_InvalidText.C) (dd := dd) (a := a) (oe := oe) T.x_InvalidText.xf.x (T.x_InvalidText.no "code" (by decide +kernel)) hc hd hf List.mem_cons_self (pv 0)) (pe_tup (pa_cons pe_str (pa_cons pe_str (pa_cons pe_str (pa_cons pe_str pa_nil))))) (by rfl)) pss_never pss_nil)
      (pss_one (ps_ret (pe_ifExp (pt_cmpR op_eq (pe_xq (C := T.x_InvalidText.C) (dd := dd) (a := a) (oe := oe) T.x_InvalidText.xf.x (T.x_InvalidText.no "code" (by decide +kernel)) hc hd hf List.mem_cons_self (pv 0)) pe_str (nomark _)) (pe_xq (C := T.x_InvalidText.C) (dd := dd) (a := a) (oe := oe) T.x_InvalidText.xf.x (T.x_InvalidText.no "line" (by decide +kernel)) hc hd hf List.mem_cons_self (pv 0)) pe_no))))))))))))), ?_⟩
    refine ⟨.ref a, rfl, rfl, _, _, eD, exF_code _ _ _, by show 2 ≤ sizeLine; rw [sizeLine_eq]; decide, fun p0 np0 => ⟨p0, _, rfl, .inr (SqT.of upd_same), rfl, by rfl, _, rfl, iteN (by decide +kernel) ?_⟩⟩
    have s0 := same_new (o := .tup [.str "MisplacedStep", .str "Barred"]) np0
    replace eD := s0 _ _ eD
    replace q := fun H1 (s : Same _ H1) => q H1 (s0.trans s)
    refine ⟨.ref a, rfl, rfl, _, _, eD, exF_code _ _ _, by show 2 ≤ sizeLine; rw [sizeLine_eq]; decide, fun p1 np1 => ⟨p1, _, rfl, .inr (SqT.of upd_same), rfl, by rfl, _, rfl, iteN (by decide +kernel) ?_⟩⟩
    have s1 := same_new (o := .tup [.str "OwnRing", .str "NeverCleared"]) np1
    replace eD := s1 _ _ eD
    replace q := fun H1 (s : Same _ H1) => q H1 (s1.trans s)
    refine ⟨.ref a, rfl, rfl, _, _, eD, exF_code _ _ _, rfl, _, rfl, iteN (by decide +kernel) ?_⟩
    refine ⟨.ref a, rfl, rfl, _, _, eD, exF_code _ _ _, rfl, _, rfl, iteN (by decide +kernel) ?_⟩
    refine ⟨.ref a, rfl, rfl, _, _, eD, exF_code _ _ _, by show 2 ≤ sizeLine; rw [sizeLine_eq]; decide, fun p4 np4 => ⟨p4, _, rfl, .inr (SqT.of upd_same), rfl, by rfl, _, rfl, iteN (by decide +kernel) ?_⟩⟩
    have s4 := same_new (o := .tup [.str "Unready", .str "Finished"]) np4
    replace eD := s4 _ _ eD
    replace q := fun H1 (s : Same _ H1) => q H1 (s4.trans s)
    refine ⟨.ref a, rfl, rfl, _, _, eD, exF_code _ _ _, by show 3 ≤ sizeLine; rw [sizeLine_eq]; decide, fun p5 np5 => ⟨p5, _, rfl, .inr (SqT.of upd_same), rfl, by rfl, _, rfl, iteN (by decide +kernel) ?_⟩⟩
    have s5 := same_new (o := .tup [.str "UnknownName", .str "DuplicateName", .str "InUse"]) np5
    replace eD := s5 _ _ eD
    replace q := fun H1 (s : Same _ H1) => q H1 (s5.trans s)
    refine ⟨.ref a, rfl, rfl, _, _, eD, exF_code _ _ _, rfl, _, rfl, iteN (by decide +kernel) ?_⟩
    refine ⟨.ref a, rfl, rfl, _, _, eD, exF_code _ _ _, rfl, _, rfl, iteN (by decide +kernel) ?_⟩
    refine ⟨.ref a, rfl, rfl, _, _, eD, exF_code _ _ _, by show 4 ≤ sizeLine; rw [sizeLine_eq]; decide, fun p8 np8 => ⟨p8, _, rfl, .inr (SqT.of upd_same), rfl, by rfl, _, rfl, iteN (by decide +kernel) ?_⟩⟩
    have s8 := same_new (o := .tup [.str "InvalidTurn", .str "InvalidWait", .str "InvalidWish", .str "InvalidJourney"]) np8
    replace eD := s8 _ _ eD
    replace q := fun H1 (s : Same _ H1) => q H1 (s8.trans s)
    refine ⟨.ref a, rfl, rfl, _, _, eD, exF_code _ _ _, by show 4 ≤ sizeLine; rw [sizeLine_eq]; decide, fun p9 np9 => ⟨p9, _, rfl, .inr (SqT.of upd_same), rfl, by rfl, _, rfl, iteN (by decide +kernel) ?_⟩⟩
    have s9 := same_new (o := .tup [.str "NoDay", .str "Doomed", .str "NoPeriod", .str "NothingLeft"]) np9
    replace eD := s9 _ _ eD
    replace q := fun H1 (s : Same _ H1) => q H1 (s9.trans s)
    refine ⟨.ref a, rfl, rfl, _, _, eD, exF_code _ _ _, rfl, _, rfl, iteP (by decide +kernel) ?_⟩
    exact ⟨.ref a, rfl, rfl, _, _, eD, rfl, q _ (Same.refl _)⟩
/-- an ask, tried: InvalidText in its first line -/
def ErrT (T : Txt K mg) (cls : Value) (d : Option Addr) (H : Hp) : Prop := cls = .ref T.x_InvalidText.C ∧ ∃ dd, d = some dd ∧ H dd = some (.xd (exF ["line"] "InvalidText" [.int 1]))
def spTry (P : Program) (w : World) (K : PySem.W.Frag) (mg : Str → Option Value) (base : Heap) (T : Txt K mg) (k : Nat) : Sp := fun vs H Q _ => ∃ (f : Addr) (spf : Hp → VK → XK → Prop), vs = [.ref f] ∧ IsLam H f ∧ Act P w K mg base k H f spf ∧
  ∀ (Q' : VK) (E' : XK), (∀ cls d H1, ErrT T cls d H1 → (∀ H2 p, Same H1 H2 → H1 p = none → H2 p = some (.tup [.str "InvalidText", .int 1]) → Q (.ref p) H2) → E' cls d H1) → spf H Q' E'
/-- what the suite does -/
def tSuite (T : Txt K mg) (a : Addr) (cls : Value) (d : Option Addr) : TS := fun D σ H => ErrT T cls d H ∧ σ[1]? = some (some (.ref a)) ∧ ∀ H2 p, Same H H2 → H p = none → H2 p = some (.tup [.str "InvalidText", .int 1]) → D.rt (.ref p) H2
theorem ok_law_try (T : Txt K mg) (k : Nat) : FnOk P w K mg base CX0 (k + 3) T.d__law_try.f T.d__law_try.fd ["_law_ask"] (spTry P w K mg base T k) := by
  refine T.d__law_try.F.ok sc_law_try (fun vs H Q E h => ?_) (fun cdv A outer s H vs Q E hr h => ?_)
  · obtain ⟨f, spf, rfl, _⟩ := h
    rfl
  · obtain ⟨f, spf, rfl, hl, ha, q⟩ := h
    have suite : ∀ {X' : Cx} (hX : X' = (cxOf CX0 P w K mg base N_law_try "_law_try" (defScope s_law_try) T.d__law_try.f cdv A outer s H E).nox) (a : Addr) (oe : Obj) (cls : Value) (d : Option Addr) (pn : List (Addr × Obj)), L2N.Zn cls d oe → (∃ vs, oe.data = .fields vs) → X'.base.get? a = none →
        ∀ {p1 p2 p3 p4 p5 p6 p7 : Pos} {k1 : Nat}, PSs (X'.suite a ((a, oe) :: pn)) [.Return (some (.Tuple [.Attribute (.Name "_law_e" p1) "code" p2, .Call (.Name "_law_field" p3) [.Name "_law_e" p4] [] p5] k1 p6)) p7] (tSuite T a cls d) := by
      intro X' hX a oe cls d pn hz hf hb p1 p2 p3 p4 p5 p6 p7 k1
      subst hX
      refine ⟨fun pins s' σ H' En I h => ?_⟩
      obtain ⟨⟨ec, dd, ed, eD⟩, hσ, qq⟩ := h
      subst ec ed
      have hc : oe.cls = .ref T.x_InvalidText.C := hz.1
      have hd : oe.dict = some dd := hz.2.1
      refine (pss_one (ps_ret (pe_tup (pa_cons (pe_xq (C := T.x_InvalidText.C) (dd := dd) (a := a) (oe := oe) T.x_InvalidText.xf.x (T.x_InvalidText.no "code" (by decide +kernel)) hc hd hf List.mem_cons_self (pv 1)) (pa_cons (pe_callE (ok_law_field T hc hd hf) (room_suite (hr.mono (by omega))) (hot_suite hz hf) List.mem_cons_self (by rfl) T.d__law_field.g T.d__law_field.F.kp T.d__law_field.b pass0 (pa_cons (pv 1) pa_nil)) pa_nil))))).run pins s' σ H' En I ?_
      refine ⟨.ref a, hσ, rfl, _, _, eD, exF_code _ _ _, .ref a, hσ, rfl, eD, fun H1 s1 => ?_⟩
      refine ⟨by show 2 ≤ sizeLine; rw [sizeLine_eq]; decide, fun p np => ?_⟩
      exact qq _ p (s1.trans (same_new np)) (s1.free np) upd_same
    refine ⟨_, pss_one (L2N.ps_try_tup3 (i := 1) rfl rfl sc_law_try.nd rfl rfl ⟨rfl, by decide, .inl T.c_DayError⟩ ⟨rfl, by decide, .inl T.c_Missing⟩ ⟨rfl, by decide, .inl T.c_NothingLeft⟩ takes0N (tb := fun W D σ H => tTup (tCons (tC (.str "told")) (tCons (tAsk P w K mg base k 0 W) tNil)) σ H D.rt)
      (fun W pn xe tk _ => pss_one (ps_ret (pe_tup (pa_cons pe_str (pa_cons (pe_ask (k := k) (W := W) (i := 0) (hr.mono (by omega)) tk rfl (Or.inl rfl)) pa_nil)))))
      (fun a oe cls d pn hz hf hb => suite rfl a oe cls d pn hz hf hb)), ?_⟩
    refine ⟨f, spf, rfl, hl, ha, ?_⟩
    refine q _ _ (fun cls d H1 he qq => ?_)
    obtain ⟨b, hb, hb1⟩ := T.ex_InvalidText
    refine ⟨b, by rw [he.1]; exact hb, fun _ a ha => ?_, fun e => by rw [hb1] at e; cases e⟩
    exact ⟨he, rfl, qq⟩
/-- an ask that divides by zero -/
def spZero (P : Program) (w : World) (K : PySem.W.Frag) (mg : Str → Option Value) (base : Heap) (k : Nat) : Sp := fun vs H Q _ => ∃ (f : Addr) (spf : Hp → VK → XK → Prop), vs = [.ref f] ∧ IsLam H f ∧ Act P w K mg base k H f spf ∧
  ∀ (Q' : VK) (E' : XK), (∀ d H1, Q (.bl true) H1 → E' (.type "ZeroDivisionError") d H1) → spf H Q' E'
theorem exm_ZD {K : PySem.W.Frag} : PySem.W.exmOne K (.type "ZeroDivisionError") (.type "ZeroDivisionError") = some true := by kernel_rfl
theorem ok_law_zero (T : Txt K mg) (k : Nat) : FnOk P w K mg base CX0 (k + 3) T.d__law_zero.f T.d__law_zero.fd ["_law_ask"] (spZero P w K mg base k) := by
  refine T.d__law_zero.F.ok sc_law_zero (fun vs H Q E h => ?_) (fun cdv A outer s H vs Q E hr h => ?_)
  · obtain ⟨f, spf, rfl, _⟩ := h
    rfl
  · obtain ⟨f, spf, rfl, hl, ha, q⟩ := h
    refine ⟨_, pss_cons (L2N.ps_try_many rfl rfl takes0N (tb := fun W => tDrop (tAsk P w K mg base k 0 W))
      (fun W pn xe tk _ => pss_one (ps_expr (pe_ask (k := k) (W := W) (i := 0) (hr.mono (by omega)) tk rfl (Or.inl rfl))))
      (.cons ⟨rfl, by decide, .inr ⟨T.z_ZeroDivisionError, boot_ZeroDivisionError, by decide⟩⟩ (fun a oe cls d pn hz hf => pss_one (ps_ret pe_bl)) .nil)) pss_never, ?_⟩
    exact ⟨f, spf, rfl, hl, ha, q _ _ fun d H1 h => ⟨true, exm_ZD, fun _ _ _ => h, fun e => by cases e⟩⟩
end
end Rd
set_option maxHeartbeats 2000000
namespace Rd
open PySem PySem.Spec PyProof.Rows L2
/-! ## a list comprehension whose block runs while the cells of the def around it are known -/
section
variable {P : Program} {w : World} {H H' : Hp} {h h' : Heap} {cs fs ex : List Addr}
theorem un_offX {Hz : Hp} (u : Un fs ex Hz H' h h') (f : FzOf H Hz cs) (ok : HOk P w Hz h) (ok' : HOk P w H' h')   : Un fs ex H (offC H' cs) h h' where
  keep := fun b o q n hb hx => by
    by_cases m : b ∈ cs
    · obtain ⟨oc, e⟩ := f.fz b m
      obtain ⟨g, _⟩ := ok b _ e
      obtain ⟨g', _⟩ := ok' b _ (u.frzs b _ _ e)
      rw [q] at g
      cases g
      exact g'
    · exact u.keep b o q (by rw [f.out b m]; exact n) hb hx
  slot := fun b o q n hb hx => by
    by_cases m : b ∈ cs
    · obtain ⟨oc, e⟩ := f.fz b m
      obtain ⟨g, _⟩ := ok b _ e
      obtain ⟨g', _⟩ := ok' b _ (u.frzs b _ _ e)
      rw [q] at g
      cases g
      exact ⟨o.slots, g'⟩
    · exact u.slot b o q (by rw [f.out b m]; exact n) hb hx
  free := fun b o q n hx => by
    by_cases m : b ∈ cs
    · exact offC_in m
    · rw [offC_out m]
      exact u.free b o q (by rw [f.out b m]; exact n) hx
  there := fun b o q hx => u.there b o q hx
  tups := fun b xs q => by
    have m : b ∉ cs := fun m => by rw [f.non b m] at q; cases q
    rw [offC_out m]
    exact u.tups b xs (by rw [f.out b m]; exact q)
  frzs := fun b o xs q => by
    have m : b ∉ cs := fun m => by rw [f.non b m] at q; cases q
    rw [offC_out m]
    exact u.frzs b o xs (by rw [f.out b m]; exact q)
  tbls := fun b ps q => by
    have m : b ∉ cs := fun m => by rw [f.non b m] at q; cases q
    rw [offC_out m]
    exact u.tbls b ps (by rw [f.out b m]; exact q)
end
/-- as tLc, but the block sees the cells -/
def tLcZ (env : Env) (N : List Str) (wi : TI) (g : TG) (tt : TT) (te : TE) (vs : List Nat) : TE := fun σ H Q => wi σ H fun J H1 => ∀ D, H1 D = none → ∀ Hz, FzOf (upd H1 D (.lst [])) Hz (cellsOf env) → FzVal env N σ Hz →
  ∃ W : Nat → Nat → Hp → Prop, (∃ m, W 0 m Hz) ∧ ∀ i m G, W i m G →
    (J.stop i G ∧ Q (.ref D) (offC G (cellsOf env))) ∨ (J.go i G ∧ ∃ Nx : Hp → Prop, (∀ G', Nx G' → ∃ m', m' < m ∧ W (i + 1) m' G') ∧ ∀ x G', J.yld i G x G' → g x (wipe σ vs) G' fun σ2 G2 => wipe σ2 vs = wipe σ vs ∧ tt σ2 G2 fun b G3 =>
      if b = true then te σ2 G3 fun y G4 => ∃ acc, G4 D = some (.lst acc) ∧ acc.length < sizeLine ∧ Nx (upd G4 D (.lst (acc ++ [y]))) else Nx G3)
section
variable {X : Cx} {pins : List (Addr × Obj)} {σ : L2.St} {H : Hp} {s : Shared} {scope : Scope} {own : List (Str × Nat)} {fp : List Addr}
/-- the cells of a frame, as they lie in the heap -/
theorem cells_out (I : Inv X pins σ H s) (hfn : ∀ y, X.fn y = true) : (∀ c ∈ cellsOf X.env, H c = none) ∧ (∀ c ∈ cellsOf X.env, ∃ o, s.heap.get? c = some o) ∧ (∀ b o, X.base.get? b = some o → b ∉ cellsOf X.env) ∧ ∀ b ∈ frs X.stack, b ∉ cellsOf X.env := by
  have ab : ∀ c ∈ cellsOf X.env, X.s_0.heap.objs.size ≤ c := fun c hc => by
    obtain ⟨y, e⟩ := mem_cellsOf.mp hc
    exact I.ok.cab y c (hfn y) e
  refine ⟨fun c hc => ?_, fun c hc => ?_, fun b o e m => ?_, fun b hb m => ?_⟩
  · obtain ⟨y, e⟩ := mem_cellsOf.mp hc
    exact I.freeC y c e
  · obtain ⟨y, e⟩ := mem_cellsOf.mp hc
    obtain ⟨v, o, ho, _⟩ := I.cell y c e
    exact ⟨o, ho⟩
  · exact Nat.not_le_of_lt (Heap.lt_size e) (Nat.le_trans I.ok.bsz (ab b m))
  · rcases List.mem_cons.mp (I.stkSub b hb) with z | z
    · obtain ⟨y, e⟩ := mem_cellsOf.mp m
      exact I.cne y b e z
    · obtain ⟨_, o, ho, _⟩ := I.ok.funs.mem z
      exact Nat.not_le_of_lt (Heap.lt_size ho) (ab b m)
theorem fz_val (I : Inv X pins σ H s) : FzVal X.env X.N σ (onC H s.heap (cellsOf X.env)) := by
  refine ⟨fun y c e => ?_, fun i y v c h1 h2 h3 h4 => ?_⟩
  · obtain ⟨v, o, ho, hd⟩ := I.cell y c e
    exact ⟨o, v, onC_at (mem_cellsOf.mpr ⟨y, e⟩) ho, hd⟩
  · obtain ⟨m, _, hl⟩ := I.loc
    obtain ⟨u, ru, l⟩ := hl i y v h1 h2 (.inr (.inl h3))
    rcases l with ⟨k1, _⟩ | ⟨_, c2, e2, o, ho, hd⟩
    · have k1 : X.env.scope.names.lookup y = some .local := k1
      rw [h3] at k1
      cases k1
    · rw [h4] at e2
      cases e2
      exact ⟨o, u, onC_at (mem_cellsOf.mpr ⟨y, h4⟩) ho, hd, ru⟩
/-- the block's start, with the cells known: none of them is the block's own -/
theorem blk_known {ce : Env} {s4 : Shared} {τ : L2.St} (I : Inv X pins σ H s) (hfn : ∀ y, X.fn y = true) (kp : ∀ b o, s.heap.get? b = some o → s4.heap.get? b = some o)
    (J : Inv (X.blk s H scope ce fp) [] τ H s4) (nl : ce.locals ∉ cellsOf X.env) (nc : ∀ x c, ce.cells.lookup x = some c → c ∉ cellsOf X.env) : Inv (X.blk s (onC H s.heap (cellsOf X.env)) scope ce fp) [] τ (onC H s.heap (cellsOf X.env)) s4 := by
  obtain ⟨cN, cG, cB, cF⟩ := cells_out I hfn
  have fz := onC_of (h := s.heap) cN cG
  have ok := J.ok
  refine ⟨⟨ok.mod, ok.kind, ok.glob, ok.blt, ok.above, ok.inj, ok.has, ok.cab, ok.hd, ok.frames, ok.stk, ok.exf, fun b o e => ⟨(ok.bs b o e).1, ?_⟩, ok.bsz, ok.noex, ok.exfs, ok.funs, fun b hb => ?_⟩, J.os, J.bare, Un.kept kp, J.loc, J.cell, ?_, fun x c e => ?_, ?_, (hok_on I.hok cN cG).kept kp, J.len⟩
  · show onC H s.heap (cellsOf X.env) b = none
    rw [fz.out b (cB b o e)]
    exact (ok.bs b o e).2
  · show onC H s.heap (cellsOf X.env) b = none
    rw [fz.out b (cF b hb)]
    exact ok.frf b hb
  · show onC H s.heap (cellsOf X.env) ce.locals = none
    rw [fz.out _ nl]
    exact J.free
  · rw [fz.out _ (nc x c e)]
    exact J.freeC x c e
  · intro p hp
    exact absurd (show p ∈ ([] : List (Addr × Obj)) ++ [] from hp) (by simp)
variable {elt tg iter : Expr} {ifs : List Expr} {wi : TI} {g : TG} {tt : TT} {te : TE} {pos : Pos}
/-- the turns of such a block -/
theorem zc_turns {Hb : Hp} {ce : Env} {s5 : Shared} {it D : Addr} {tn : Nat → Heap → Prop} {J : It} {W : Nat → Nat → Hp → Prop} {Qd : Hp → Prop} {R : Result → Shared → Prop} {m0 : Nat} {vs : List Nat} (hc : X.calm = true) (T : Turn X.prog X.w X.K tg J fp it tn)
    (pg : PG (X.blk s Hb scope ce fp) tg g) (pt : PTs (X.blk s Hb scope ce fp) ifs tt) (pe : PE (X.blk s Hb scope ce fp) elt te)
    (i0 : Inv (X.blk s Hb scope ce fp) [] (wipe σ vs) Hb s5) (k0 : tn 0 s5.heap) (n0 : ∀ b ∈ fp, Hb b = none) (w0 : W 0 m0 Hb)
    (turn : ∀ i m G, W i m G → (J.stop i G ∧ Qd G) ∨ (J.go i G ∧ ∃ Nx : Hp → Prop, (∀ G', Nx G' → ∃ m', m' < m ∧ W (i + 1) m' G') ∧ ∀ x G', J.yld i G x G' → g x (wipe σ vs) G' fun σ2 G2 => wipe σ2 vs = wipe σ vs ∧ tt σ2 G2 fun b G3 =>
      if b = true then te σ2 G3 fun y G4 => ∃ acc, G4 D = some (.lst acc) ∧ acc.length < sizeLine ∧ Nx (upd G4 D (.lst (acc ++ [y]))) else Nx G3))
    (last : ∀ G s6, Inv (X.blk s Hb scope ce fp) [] (wipe σ vs) G s6 → Qd G → R (.ok .next) s6) :
    codeAny (model X.prog X.w) X.A (.compLoop (.ListComp elt [⟨tg, iter, ifs, 0⟩] scope pos) 0 (.ref it) (.ref D) ce) R s5 := by
  have own_ : ∀ {τ : L2.St} {G : Hp} {t : Shared}, Inv (X.blk s Hb scope ce fp) [] τ G t → (∀ b ∈ fp, G b = none) → ∀ b ∈ fp, FpOk (X.blk s Hb scope ce fp) [] G b := fun {τ G t} J' z b hb => by
    have e := J'.ok.exf b hb
    exact ⟨z b hb, e.1, J'.ok.exfs b hb, .inl hb, fun x c l => e.2 x c l, fun p hp => by cases hp⟩
  refine compLoop_any (fun n t => ∃ i G, Inv (X.blk s Hb scope ce fp) [] (wipe σ vs) G t ∧ tn i t.heap ∧ (∀ b ∈ fp, G b = none) ∧ W i n G) (fun n t hI => ?_) m0 ⟨0, Hb, i0, k0, n0, w0⟩
  obtain ⟨i, G, IG, kG, nG, wG⟩ := hI
  cases turn i n G wG with
  | inl q =>
    refine thnF (T.done (X.blk s Hb scope ce fp) rfl rfl rfl hc i [] t _ G (fun _ _ => False) IG (own_ IG nG) kG q.1) fun r s6 hr => ?_
    obtain ⟨e, I6⟩ := hr
    subst e
    exact last G s6 I6 q.2
  | inr q =>
    obtain ⟨hgo, Nx, hN, st⟩ := q
    refine thnF (T.item (X.blk s Hb scope ce fp) rfl rfl rfl hc i [] t _ G (fun _ _ => False) IG (own_ IG nG) kG hgo) fun r s6 hr => ?_
    obtain ⟨u, e, h6⟩ := hr
    subst e
    refine thnF h6 fun _ s7 h7 => ?_
    obtain ⟨x, G7, I7, r7, y7, k7, n7⟩ := h7
    have obj7 := T.obj _ _ k7
    refine thnF (pg.run _ s7 _ G7 x u _ (I7.pinned (own_ I7 n7) obj7) r7 (st x G7 y7)) fun _ s8 h8 => ?_
    obtain ⟨σ8, G8, I8, e8, q8⟩ := h8
    have wl : (wipe σ vs).length = σ8.length := by rw [← e8, wipe_length]
    -- where a turn comes to
    have next : ∀ {t' : Shared} {G' : Hp}, Inv (X.blk s Hb scope ce fp) ([] ++ pinsAt fp s7.heap) σ8 G' t' → Nx G' → ∃ m, m < n ∧ ∃ i G', Inv (X.blk s Hb scope ce fp) [] (wipe σ vs) G' t' ∧ tn i t'.heap ∧ (∀ b ∈ fp, G' b = none) ∧ W i m G' := by
      intro t' G' I' nx
      obtain ⟨m', lt, w'⟩ := hN G' nx
      have pinned : ∀ b ∈ fp, ∀ o, s7.heap.get? b = some o → t'.heap.get? b = some o ∧ G' b = none := by
        intro b hb o e
        have z := I'.pin (b, o) (List.mem_append_right _ (List.mem_append_right _ (mem_pinsAt hb e)))
        exact ⟨z.1, z.2.1⟩
      refine ⟨m', lt, i + 1, G', I'.unpinned.weak wl fun j v e => ?_, T.keep _ _ _ k7 fun b hb o e => (pinned b hb o e).1, fun b hb => ?_, w'⟩
      · rw [← e8] at e; exact (wipe_some e).1
      · obtain ⟨o, e, _⟩ := obj7 b hb
        exact (pinned b hb o e).2
    refine thnF (pt.run _ s8 σ8 G8 _ I8 q8) fun b s9 h9 => ?_
    obtain ⟨G9, I9, q9⟩ := h9
    by_cases hb : b = true
    · rw [if_pos hb] at q9 ⊢
      refine thnF (pe.run _ s9 σ8 G9 _ I9 q9) fun z s10 h10 => ?_
      obtain ⟨yv, G10, I10, r10, acc, eD, la, nx⟩ := h10
      exact app_ok (X := X.blk s Hb scope ce fp) I10 eD la r10 fun s11 I11 => next I11 nx
    · rw [if_neg hb] at q9 ⊢
      exact next I9 q9
/-- [e for x in xs if ..], the cells of the def known in its block -/
theorem pe_lcZ (hc : X.calm = true) (hfn : ∀ y, X.fn y = true) (hN : X.N.Nodup) (hi : PI X tg iter wi) (ok : BlkOk X.N X.env.scope scope own) (cap : ∀ y ∈ scope.names, y.2 ≠ .free)
    (hg : ∀ (t : Shared) (G : Hp) (C : Addr) (cl : List (Str × Addr)) (fp : List Addr), PG (X.blk t G scope (compEnvC scope cl C X.env) fp) tg g)
    (ht : ∀ (t : Shared) (G : Hp) (C : Addr) (cl : List (Str × Addr)) (fp : List Addr), PTs (X.blk t G scope (compEnvC scope cl C X.env) fp) ifs tt)
    (he : ∀ (t : Shared) (G : Hp) (C : Addr) (cl : List (Str × Addr)) (fp : List Addr), PE (X.blk t G scope (compEnvC scope cl C X.env) fp) elt te) (hs : ∀ x, foldedSetIterable iter X.env x = pure x := by intro _; rfl) :
    PE X (.ListComp elt [⟨tg, iter, ifs, 0⟩] scope pos) (tLcZ X.env X.N wi g tt te (own.map (·.2))) := by
  refine ⟨fun pins s σ H Q I h => ?_⟩
  rw [eval_ListComp]
  have nofree : ∀ y ∈ scope.names, y.2 = .free → ∃ c, X.env.cells.lookup y.1 = some c := fun y hy e => absurd e (cap y hy)
  refine wpAny_comprehension_free (use := none) rfl hs (closure_ok nofree) ok.kind (fun y hy e => by rw [ok.uniq y hy, e]) (thn (hi.run pins s σ H _ I h) fun _ s1 hx => thn hx fun itv s2 h2 => ?_)
  obtain ⟨it, fp, tn, J, H2, rfl, I2, T, k2, f2, q⟩ := h2
  refine wpAny_newObj_type (newEnv_comp ?_) (by show 0 ≤ sizeLine; decide)
  generalize hD : s2.heap.objs.size = D
  have nD : H2 D = none := by rw [← hD]; exact I2.hok.fresh (Nat.le_refl _)
  have I3 : Inv X pins σ (upd H2 D (.lst [])) { s2 with heap := s2.heap.push { cls := .type "list", data := .seq ([] : List Value).toArray } } :=
    I2.laid (t' := s2.toks) (fun b o e => Heap.get?_push_of_some _ e) (Nat.le_of_eq hD) ⟨Nat.zero_le _, [], 0, .nil, by rw [← hD]; exact Heap.get?_push_size _ rfl⟩
  have grow : ∀ b o, s2.heap.get? b = some o → (s2.heap.push { cls := .type "list", data := .seq ([] : List Value).toArray }).get? b = some o := fun b o e => Heap.get?_push_of_some _ e
  have f3 : ∀ b ∈ fp, FpOk X pins (upd H2 D (.lst [])) b ∧ b < (s2.heap.push { cls := .type "list", data := .seq ([] : List Value).toArray }).objs.size := fun b hb => by
    obtain ⟨o, e, _⟩ := T.obj _ _ k2 b hb
    refine ⟨⟨?_, (f2 b hb).2⟩, Heap.lt_size (grow _ _ e)⟩
    rw [upd_ne (by rw [← hD]; exact Nat.ne_of_lt (Heap.lt_size e))]
    exact (f2 b hb).1
  have k3 : tn 0 (s2.heap.push { cls := .type "list", data := .seq ([] : List Value).toArray }) := T.keep _ _ _ k2 fun b _ o e => grow b o e
  have q := q D nD
  generalize eH : upd H2 D (.lst []) = H3 at I3 f3 q
  generalize es : ({ s2 with heap := s2.heap.push { cls := .type "list", data := .seq ([] : List Value).toArray } } : Shared) = s3 at I3 ⊢
  have eh : s2.heap.push { cls := .type "list", data := .seq ([] : List Value).toArray } = s3.heap := by rw [← es]
  rw [eh] at f3 k3
  have I4 := block_start I3 ok hN f3
  obtain ⟨cN, cG, cB, cF⟩ := cells_out I3 hfn
  have fz := onC_of (h := s3.heap) cN cG
  obtain ⟨W, ⟨m0, w0⟩, turn⟩ := q _ fz (fz_val I3)
  have cut : ∀ c ∈ cellsOf X.env, c < s3.heap.objs.size := fun c m => let ⟨o, e⟩ := cG c m; Heap.lt_size e
  have kp : ∀ b o, s3.heap.get? b = some o → (pushCells (s3.heap.push { cls := .type "dict", data := .dict #[] }) scope.names).get? b = some o := fun b o e => pushCells_keeps _ _ _ _ (Heap.get?_push_of_some _ e)
  have I5 := blk_known (s4 := { s3 with heap := pushCells (s3.heap.push { cls := .type "dict", data := .dict #[] }) scope.names }) I3 hfn kp I4 (fun m => Nat.lt_irrefl _ (cut _ m)) (fun x c e m => by
    have e : List.lookup x (cellsFrom (s3.heap.objs.size + 1) scope.names (cloFrom X.env.cells scope.names [])) = some c := e
    rw [← Heap.size_push s3.heap { cls := .type "dict", data := .dict #[] }] at e
    rcases cells_mem (PySem.mem_of_lookup e) with z | ⟨_, z, _⟩
    · rcases cloFrom_mem z with z | ⟨z, _⟩
      · cases z
      · exact cap _ z rfl
    · rw [Heap.size_push] at z
      exact Nat.not_le_of_lt (cut c m) (Nat.le_of_succ_le z))
  have nz : ∀ b ∈ fp, onC H3 s3.heap (cellsOf X.env) b = none := fun b hb => by
    rw [fz.out b fun m => by
      obtain ⟨y, e⟩ := mem_cellsOf.mp m
      exact (f3 b hb).1.2.2.2.2.1 y b e rfl]
    exact (f3 b hb).1.1
  have k4 : tn 0 (pushCells (s3.heap.push { cls := .type "dict", data := .dict #[] }) scope.names) := T.keep _ _ _ k3 fun b _ o e => kp b o e
  show codeAny _ _ _ _ { s3 with heap := pushCells (s3.heap.push { cls := .type "dict", data := .dict #[] }) scope.names }
  have loop := zc_turns (D := D) (R := compPost (model X.prog X.w) X.A X.xe none (EP X pins σ Q) (.ref D) s3.heap.objs.size) hc T (hg s3 _ s3.heap.objs.size _ fp) (ht s3 _ s3.heap.objs.size _ fp) (he s3 _ s3.heap.objs.size _ fp) I5 k4 nz w0 turn (pos := pos) (iter := iter) (fun G s6 I6 qG => ?_)
  · exact codeAny_compStart_list loop (T.self X.A 0 _ _ _ k4 loop)
  · have zG : FzC G (cellsOf X.env) := fun c m => by
      obtain ⟨oc, e⟩ := fz.fz c m
      exact ⟨oc, I6.base.frzs c _ _ e⟩
    have I7 : Inv X pins σ (offC G (cellsOf X.env)) s6 := I3.call' (ch := fp) I6.os (un_offX I6.base fz (hok_on I3.hok cN cG) I6.hok) (hok_off I6.hok zG) I6.bare fun b hb => by
      obtain ⟨_, e2, _, e4, e5, e6⟩ := (f3 b hb).1
      exact ⟨e4, e2, e5, e6⟩
    have free : offC G (cellsOf X.env) s3.heap.objs.size = none := by
      rw [offC_out fun m => Nat.lt_irrefl _ (cut _ m)]
      exact I6.free
    obtain ⟨m, ns, _⟩ := I6.loc
    obtain ⟨e0, e1, _, e3, e4, e5⟩ := I3.fpOk (Nat.le_refl _) free
    refine ⟨m, ns, fun h' sb => ?_⟩
    exact ⟨.ref D, _, I7.turned (t' := s6.toks) (fun b o hb e => (sb.2 b hb).trans e) e0 e1 e3 e4 e5, rfl, qG⟩
end
end Rd
set_option maxHeartbeats 2000000
namespace Rd
open PySem PySem.Spec PyProof.Rows L2
/-! ## calling a def while some of the running block's own cells are known -/
def cellsIn (env : Env) (ns : List Str) : List Addr := ns.filterMap fun x => env.cells.lookup x
theorem mem_cellsIn {env : Env} {ns : List Str} {c : Addr} : c ∈ cellsIn env ns ↔ ∃ x, x ∈ ns ∧ env.cells.lookup x = some c := List.mem_filterMap
structure FzValB (env : Env) (N ns : List Str) (σ : L2.St) (Hz : Hp) : Prop where
  cell : ∀ x c, x ∈ ns → env.cells.lookup x = some c → ∃ oc v, Hz c = some (.frz oc (.own c)) ∧ oc.data = .cell v
  val : ∀ (i : Nat) (x : Str) (v : V) (c : Addr), x ∈ ns → N[i]? = some x → σ[i]? = some (some v) → env.scope.names.lookup x = some .cell → env.cells.lookup x = some c → ∃ oc u, Hz c = some (.frz oc (.own c)) ∧ oc.data = .cell (some u) ∧ RelV v u
  inj : ∀ x y c, env.cells.lookup x = some c → env.cells.lookup y = some c → x = y
def tCallZB (env : Env) (N ns : List Str) (sp : Sp) (t : TA) : TE := fun σ H Q => t σ H fun vs H1 => ∀ Hz, FzOf H1 Hz (cellsIn env ns) → FzValB env N ns σ Hz → sp vs Hz (fun v H' => Q v (offC H' (cellsIn env ns))) E0
section
variable {X : Cx} {CX : CXT} {k : Nat} {f : Addr} {fd : FuncData} {ps ns : List Str} {sp : Sp} {x : Str} {p pos : Pos} {e : Expr} {es : List Expr} {t : TA}
theorem pe_callZB (F : FnOk X.prog X.w X.K X.mg X.base CX k f fd ps sp) (hr : Room k X.A) (hfn : ∀ y ∈ ns, X.fn y = true) (hg : Gl X x) (hm : X.mg x = some (.ref f)) (hk : PySem.W.keepIn X.K (.ref f) = true) (hb : Binds X.K fd ps [])
    (hx : ∀ (outer : List Env) (H : Hp) (s : Shared) (e : Value) (s' : Shared), CX outer H s E0 e s' → False)
    (ha : PA X (e :: es) t) (hdb : (x == ("__debug__" : Str)) = false := by decide) (he : starEach (e :: es) X.env = (false, eval e X.env) :: starEach es X.env := by rfl) (hpl : (backTo pos (starEach es X.env)).any (·.1) = false := by rfl) :
    PE X (.Call (.Name x p) (e :: es) [] pos) (tCallZB X.env X.N ns sp t) := by
  refine ⟨fun pins s σ H Q I h => ?_⟩
  refine wpAny_Call_Name_kw (ld_glob I hg hm ?_ hdb)
  refine PySem.W.callWith_K (h₀ := X.base) I.ok.mod.kin hk (thn (ha.run pos pins s σ H _ I h) fun us s1 ⟨vs, H1, I1, r, hq⟩ => ⟨I1.kIn, ?_⟩) he hpl
  have cN : ∀ c ∈ cellsIn X.env ns, H1 c = none := fun c hc => by
    obtain ⟨y, hy, e⟩ := mem_cellsIn.mp hc
    exact I1.freeC y c e
  have cG : ∀ c ∈ cellsIn X.env ns, ∃ o, s1.heap.get? c = some o := fun c hc => by
    obtain ⟨y, hy, e⟩ := mem_cellsIn.mp hc
    obtain ⟨v, o, ho, _⟩ := I1.cell y c e
    exact ⟨o, ho⟩
  have cA : ∀ c ∈ cellsIn X.env ns, X.s_0.heap.objs.size ≤ c := fun c hc => by
    obtain ⟨y, hy, e⟩ := mem_cellsIn.mp hc
    exact I1.ok.cab y c (hfn y hy) e
  have fz := onC_of (h := s1.heap) cN cG
  have hokz := hok_on I1.hok cN cG
  have env0 := I1.env0
  have outZ : ∀ b, b ∉ cellsIn X.env ns → onC H1 s1.heap (cellsIn X.env ns) b = H1 b := fz.out
  have ez : Env0 X.prog X.w X.K X.mg X.base X.A X.stack s1 (onC H1 s1.heap (cellsIn X.env ns)) := by
    refine ⟨env0.frames, env0.mod, fun b o e => ⟨(env0.bs b o e).1, ?_⟩, env0.bsz, env0.funs, fun b hb => ?_, hokz, env0.bare⟩
    · rw [outZ b fun m => by
        have h1 := Heap.lt_size e
        exact absurd (Nat.lt_of_lt_of_le h1 (Nat.le_trans I1.ok.bsz (cA b m))) (Nat.lt_irrefl _)]
      exact (env0.bs b o e).2
    · rw [outZ b fun m => by
        rcases List.mem_cons.mp (I1.stkSub b hb) with z | z
        · obtain ⟨y, hy, e⟩ := mem_cellsIn.mp m
          exact I1.cne y b e z
        · obtain ⟨_, o, ho, _⟩ := I1.ok.funs.mem z
          exact absurd (Nat.lt_of_lt_of_le (Heap.lt_size ho) (cA b m)) (Nat.lt_irrefl _)]
      exact env0.frf b hb
  have fv : FzValB X.env X.N ns σ (onC H1 s1.heap (cellsIn X.env ns)) := by
    refine ⟨fun y c hy e => ?_, fun i y v c hy h1 h2 h3 h4 => ?_, I1.ok.inj⟩
    · obtain ⟨v, o, ho, hd⟩ := I1.cell y c e
      exact ⟨o, v, onC_at (mem_cellsIn.mpr ⟨y, hy, e⟩) ho, hd⟩
    · obtain ⟨m, _, hl⟩ := I1.loc
      obtain ⟨u, ru, l⟩ := hl i y v h1 h2 (.inr (.inl h3))
      rcases l with ⟨k1, _⟩ | ⟨_, c2, e2, o, ho, hd⟩
      · have k1 : X.env.scope.names.lookup y = some .local := k1
        rw [h3] at k1
        cases k1
      · rw [h4] at e2
        cases e2
        exact ⟨o, u, onC_at (mem_cellsIn.mpr ⟨y, hy, h4⟩) ho, hd, ru⟩
  have hs := hq _ fz fv
  have hl : us.length = ps.length := by rw [← r.length]; exact F.len _ _ _ _ hs
  have b := hb s1 us I1.kIn (by rw [List.append_nil]; exact hl)
  rw [List.append_nil] at b
  refine wpAny_call (codeAny_mono (F.run X.A X.stack s1 _ ⟨us, []⟩ us vs _ E0 hr ez b r hs) fun r' s' hq' => ?_)
  cases r' with
  | error e => exact (hx _ _ _ _ _ hq').elim
  | ok fl =>
    cases fl with
    | ret u =>
      obtain ⟨v, H', os, bare, un, hok, rv, qv⟩ := hq'
      have fz' : FzC H' (cellsIn X.env ns) := fun c hc => by
        obtain ⟨oc, e⟩ := fz.fz c hc
        exact ⟨oc, un.frzs c _ _ e⟩
      exact I1.after ⟨v, offC H' (cellsIn X.env ns), os, bare, un_off un fz hokz hok, hok_off hok fz', rv, qv⟩
    | next => exact False.elim hq'
    | brk => exact False.elim hq'
    | cont => exact False.elim hq'
end
end Rd
set_option maxHeartbeats 4000000
namespace Rd
open PySem PySem.Spec PyProof.Rows L2 L2H HotX
/-! ## lambdas, what they hold, what asking them comes to -/
theorem free_ok {names : List (Str × NameKind)} {sc : Scope} {n : Nat} (h : (names.all fun y => match y.2 with | .free => decide (sc.names.lookup y.1 = some .cell) | _ => true) = true) : ∀ y ∈ names, y.2 = .free → ∃ c, (cellsFrom n sc.names []).lookup y.1 = some c := fun y hy hf => by
  have a := List.all_eq_true.mp h y hy
  rw [hf] at a
  exact cell_has (of_decide_eq_true a)
theorem cells_pw : ∀ (names : List (Str × NameKind)) (n : Nat) (acc : List (Str × Addr)), (∀ p ∈ acc, p.2 < n) → (acc.Pairwise fun x y => x.2 ≠ y.2) → (cellsFrom n names acc).Pairwise fun x y => x.2 ≠ y.2
  | [], _, _, _, h => h
  | (name, kind) :: r, n, acc, l, h => by
    unfold cellsFrom
    split
    · refine cells_pw r (n + 1) ((name, n) :: acc) (fun p hp => ?_) (List.pairwise_cons.mpr ⟨fun y hy => Nat.ne_of_gt (l y hy), h⟩)
      rcases List.mem_cons.mp hp with rfl | hp
      · exact Nat.lt_succ_self _
      · exact Nat.lt_succ_of_lt (l p hp)
    · exact cells_pw r n acc l h
theorem cells_inj {names : List (Str × NameKind)} {n : Nat} (x y : Str) (c : Addr) (h1 : (cellsFrom n names []).lookup x = some c) (h2 : (cellsFrom n names []).lookup y = some c) : x = y :=
  PySem.name_of_addr (cells_pw names n [] (fun p hp => by cases hp) .nil) (PySem.mem_of_lookup h1) (PySem.mem_of_lookup h2)
theorem FzOf.same {H Hz : Hp} {cs : List Addr} (z : FzOf H Hz cs) : Same H Hz := fun b o e => by
  rw [z.out b fun m => by rw [z.non b m] at e; cases e]
  exact e
theorem FzOf.back {H Hz H' : Hp} {cs : List Addr} (z : FzOf H Hz cs) (s : Same Hz H') : Same H (offC H' cs) := fun b o e => by
  have m : b ∉ cs := fun m => by rw [z.non b m] at e; cases e
  rw [offC_out m]
  exact s _ _ (z.same _ _ e)
/-- what is new beside the cells is no cell -/
theorem FzOf.kept {H Hz H' : Hp} {cs : List Addr} (z : FzOf H Hz cs) (s : Same Hz H') {b : Addr} {o : HO} (e : H' b = some o) (n : ∀ oc u, o ≠ .frz oc u) : offC H' cs b = some o := by
  rw [offC_out fun m => by
    obtain ⟨oc, e2⟩ := z.fz b m
    rw [s _ _ e2] at e
    cases e
    exact n _ _ rfl]
  exact e
theorem TabF.go {H H' : Hp} {b Pt : Addr} {q : Str} (hB : Bag H b) (g : Go b H H') (t : TabF H Pt q) : TabF H' Pt q := by
  obtain ⟨xs, eb⟩ := hB.some
  obtain ⟨ps, e1, e2, e3⟩ := t
  refine ⟨ps, g.2 _ _ (fun z => by rw [z, eb] at e1; cases e1) e1, e2, fun pos cv h => ?_⟩
  obtain ⟨c, u, a1, a2, a3⟩ := e3 pos cv h
  refine ⟨c, u, a1, g.2 _ _ (fun z => ?_) a2, a3⟩
  obtain ⟨oc, vs, t, e, _⟩ := a3
  rw [z, eb] at a2
  cases a2
  cases e
/-- the values of a lambda's names -/
theorem hval2 {N : List Str} {σ : L2.St} {sc : Scope} {x0 x1 : Str} {v0 v1 : V} (j0 j1 : Nat) (a0 : N[j0]? = some x0) (b0 : σ[j0]? = some (some v0)) (c0 : sc.names.lookup x0 = some .cell) (a1 : N[j1]? = some x1) (b1 : σ[j1]? = some (some v1)) (c1 : sc.names.lookup x1 = some .cell) :
    ∀ (i : Nat) (x : Str) (v : V), ([x0, x1] : List Str)[i]? = some x → ([some v0, some v1] : L2.St)[i]? = some (some v) → ∃ j : Nat, N[j]? = some x ∧ σ[j]? = some (some v) ∧ sc.names.lookup x = some .cell
  | 0, x, v, h1, h2 => by cases h1; cases h2; exact ⟨j0, a0, b0, c0⟩
  | 1, x, v, h1, h2 => by cases h1; cases h2; exact ⟨j1, a1, b1, c1⟩
  | i + 2, x, v, h1, h2 => by simp at h1
theorem hval1 {N : List Str} {σ : L2.St} {sc : Scope} {x0 : Str} {v0 : V} (j0 : Nat) (a0 : N[j0]? = some x0) (b0 : σ[j0]? = some (some v0)) (c0 : sc.names.lookup x0 = some .cell) :
    ∀ (i : Nat) (x : Str) (v : V), ([x0] : List Str)[i]? = some x → ([some v0] : L2.St)[i]? = some (some v) → ∃ j : Nat, N[j]? = some x ∧ σ[j]? = some (some v) ∧ sc.names.lookup x = some .cell
  | 0, x, v, h1, h2 => by cases h1; cases h2; exact ⟨j0, a0, b0, c0⟩
  | i + 1, x, v, h1, h2 => by simp at h1
theorem Bag.keepT {b : Addr} {H H' : Hp} (h : Bag H b) (k : KeepT H H') : Bag H' b := by
  obtain ⟨c, ns, i, r, m, n, e, hc, ec, q⟩ := h
  exact ⟨c, ns, i, r, m, n, k _ _ e (fun _ z => by cases z), hc, k _ _ ec (fun _ z => by cases z), q⟩
section
variable {P : Program} {w : World} {K : PySem.W.Frag} {mg : Str → Option Value} {base : Heap}
theorem Fun.okC {x qual : Str} {st : Stmt} {f : Addr} {fd : FuncData} {N ps : List Str} {k : Nat} {sp : Sp} (F : L2.Fun K x qual st f fd) (S : FnScope N ps (defScope st)) (len : ∀ vs H Q E, sp vs H Q E → vs.length = ps.length)
    (hbody : ∀ (cdv : Value) (A : Around) (outer : List Env) (s : Shared) (H : Hp) (vs : List V) (Q : VK) (E : XK), fd.code = cdv → Room k (A.deeper (envOfC qual (defScope st) s.heap.objs.size f cdv)) → sp vs H Q E →
      ∃ t, PSs (cxOf CX0 P w K mg base N qual (defScope st) f cdv A outer s H E).nox (defBody st) t ∧ t { nx := fun _ H' => Q .non H', rt := Q } (start N vs) H) : FnOk P w K mg base CX0 (k + 1) f fd ps sp := by
  obtain ⟨oc, od, kV, doc, pm, an, cdv, ct, osl, rfl, lk, hcd⟩ := F.ex
  refine fn_of lk hcd S len fun A outer s H vs Q E hr hsp => ?_
  obtain ⟨t, h, q⟩ := hbody cdv A outer s H vs Q E rfl hr hsp
  exact ⟨t, h.nox, q⟩
end
theorem TabF.put {H : Hp} {l Pt : Addr} {q : Str} {ys : List V} {o : HO} (e : H l = some (.lst ys)) (t : TabF H Pt q) : TabF (upd H l o) Pt q := by
  obtain ⟨ps, e1, e2, e3⟩ := t
  refine ⟨ps, by rw [upd_ne (fun z => by rw [z, e] at e1; cases e1)]; exact e1, e2, fun pos cv h => ?_⟩
  obtain ⟨c, u, a1, a2, a3⟩ := e3 pos cv h
  have nl : c ≠ l := fun z => by
    obtain ⟨oc, vs, t, eu, _⟩ := a3
    rw [z, e] at a2
    cases a2
    cases eu
  exact ⟨c, u, a1, by rw [upd_ne nl]; exact a2, a3⟩
section
variable {P : Program} {w : World} {K : PySem.W.Frag} {mg : Str → Option Value} {base : Heap} {T : Txt K mg}
/-- what the reading of a lambda's body gives, told beside its cells -/
def lamSp (Hz : Hp) (cs : List Addr) (σl : L2.St) (tb : XK → TE) : Hp → VK → XK → Prop := fun H1 Q' E' => Same Hz H1 ∧ tb (fun cls d H2 => (∀ c ∈ cs, H2 c = none) → E' cls d (mixC H1 H2 cs)) σl (offC H1 cs) (fun v H2 => (∀ c ∈ cs, H2 c = none) → Q' v (mixC H1 H2 cs))
theorem lam_gen {k : Nat} {env : Env} {N : List Str} {σ : L2.St} {Hz : Hp} (z : FzVal env N σ Hz) (inj : ∀ x y c, env.cells.lookup x = some c → env.cells.lookup y = some c → x = y)
    {f : Addr} {q : Str} {params : Arguments} {body : Expr} {scope : Scope} {ds : List V} (hL : LamAt Hz f q params body scope (cloFrom env.cells scope.names []) ds)
    (hfree : ∀ y ∈ scope.names, y.2 = .free → ∃ c, env.cells.lookup y.1 = some c) {Nl ps : List Str} {σl : L2.St} (S : LScope Nl ps scope)
    (hval : ∀ (i : Nat) (x : Str) (v : V), Nl[i]? = some x → σl[i]? = some (some v) → ∃ j : Nat, N[j]? = some x ∧ σ[j]? = some (some v) ∧ env.scope.names.lookup x = some .cell) (hlen : σl.length = Nl.length)
    (hb0 : ds = [] → ps = [] ∧ ∀ doc pm cv ctv, bindArgs (PySem.W.kdv_fn "<lambda>" q params (.expr body) scope (cloFrom env.cells scope.names []) .none doc pm cv ctv) ⟨[], []⟩ = pure [])
    (hb1 : ds ≠ [] → ∀ (A : Addr) doc pm cv ctv (its : List Value), its.length = ds.length → ∃ kk, bindArgs (PySem.W.kdv_fn "<lambda>" q params (.expr body) scope (cloFrom env.cells scope.names []) (.ref A) doc pm cv ctv) ⟨[], []⟩ = seqItems? (.ref A) >>= kk ∧ kk (some its.toArray) = pure (ps.zip its))
    {tb : XK → TE} (hbody : ∀ (c' : Addr) (A : Around) (outer : List Env) (s : Shared) (H' : Hp) (E : XK), Room k (lCx P w K mg base Nl q scope (cloFrom env.cells scope.names []) f c' A outer s H' E).A → PE (lCx P w K mg base Nl q scope (cloFrom env.cells scope.names []) f c' A outer s H' E) body (tb E)) :
    IsLam Hz f ∧ Act P w K mg base (k + 1) Hz f (lamSp Hz ((cloFrom env.cells scope.names []).map (·.2)) σl tb) ∧ FzC Hz ((cloFrom env.cells scope.names []).map (·.2)) := by
  have cm : ∀ {n c}, (cloFrom env.cells scope.names []).lookup n = some c → env.cells.lookup n = some c := fun e => NdefX.clo_cm hfree e
  have cell : ∀ p ∈ cloFrom env.cells scope.names [], ∃ oc u, Hz p.2 = some (.frz oc (.own p.2)) ∧ oc.data = .cell u := fun p hp => by
    obtain ⟨n, c⟩ := p
    rcases cloFrom_mem hp with h | ⟨h1, h2⟩
    · cases h
    · obtain ⟨c2, h3⟩ := hfree _ h1 rfl
      have h3 : env.cells.lookup n = some c2 := h3
      rw [h3] at h2
      have h2 : c = c2 := h2
      subst h2
      exact z.cell n c h3
  refine ⟨hL.is, ?_, fun c hc => ?_⟩
  · refine lam_act (N := Nl) (ps := ps) (σ := σl) (tb := tb) hL S (fun a b c h1 h2 => inj a b c (cm h1) (cm h2)) (fun n hn hf => ?_) cell (fun i n u h1 h2 h3 => ?_) hlen hb0 hb1 hbody (fun H1 Q E kp ⟨s1, h⟩ => h)
    · obtain ⟨c, e⟩ := hfree n hn hf
      exact ⟨c, NdefX.clo_has hfree (by obtain ⟨a, b⟩ := n; cases hf; exact hn) e⟩
    · obtain ⟨j, j1, j2, j3⟩ := hval i n u h1 h2
      obtain ⟨c, e⟩ := hfree _ (PySem.mem_of_lookup h3) rfl
      obtain ⟨oc, u', e1, e2, e3⟩ := z.val j n u c j1 j2 j3 e
      exact ⟨c, oc, u', NdefX.clo_has hfree (PySem.mem_of_lookup h3) e, e1, e2, e3⟩
  · obtain ⟨p, hp, e⟩ := List.mem_map.mp hc
    subst e
    obtain ⟨oc, u, e1, _⟩ := cell p hp
    exact ⟨oc, e1⟩
theorem lam_genB {k : Nat} {env : Env} {N ns : List Str} {σ : L2.St} {Hz : Hp} (z : FzValB env N ns σ Hz)
    {f : Addr} {q : Str} {params : Arguments} {body : Expr} {scope : Scope} {ds : List V} (hL : LamAt Hz f q params body scope (cloFrom env.cells scope.names []) ds)
    (hns : ∀ y ∈ scope.names, y.2 = .free → y.1 ∈ ns) (hfree : ∀ y ∈ scope.names, y.2 = .free → ∃ c, env.cells.lookup y.1 = some c) {Nl ps : List Str} {σl : L2.St} (S : LScope Nl ps scope)
    (hval : ∀ (i : Nat) (x : Str) (v : V), Nl[i]? = some x → σl[i]? = some (some v) → ∃ j : Nat, N[j]? = some x ∧ σ[j]? = some (some v) ∧ env.scope.names.lookup x = some .cell) (hlen : σl.length = Nl.length)
    (hb0 : ds = [] → ps = [] ∧ ∀ doc pm cv ctv, bindArgs (PySem.W.kdv_fn "<lambda>" q params (.expr body) scope (cloFrom env.cells scope.names []) .none doc pm cv ctv) ⟨[], []⟩ = pure [])
    (hb1 : ds ≠ [] → ∀ (A : Addr) doc pm cv ctv (its : List Value), its.length = ds.length → ∃ kk, bindArgs (PySem.W.kdv_fn "<lambda>" q params (.expr body) scope (cloFrom env.cells scope.names []) (.ref A) doc pm cv ctv) ⟨[], []⟩ = seqItems? (.ref A) >>= kk ∧ kk (some its.toArray) = pure (ps.zip its))
    {tb : XK → TE} (hbody : ∀ (c' : Addr) (A : Around) (outer : List Env) (s : Shared) (H' : Hp) (E : XK), Room k (lCx P w K mg base Nl q scope (cloFrom env.cells scope.names []) f c' A outer s H' E).A → PE (lCx P w K mg base Nl q scope (cloFrom env.cells scope.names []) f c' A outer s H' E) body (tb E)) :
    IsLam Hz f ∧ Act P w K mg base (k + 1) Hz f (lamSp Hz ((cloFrom env.cells scope.names []).map (·.2)) σl tb) ∧ FzC Hz ((cloFrom env.cells scope.names []).map (·.2)) := by
  have cm : ∀ {n c}, (cloFrom env.cells scope.names []).lookup n = some c → env.cells.lookup n = some c := fun e => NdefX.clo_cm hfree e
  have cell : ∀ p ∈ cloFrom env.cells scope.names [], ∃ oc u, Hz p.2 = some (.frz oc (.own p.2)) ∧ oc.data = .cell u := fun p hp => by
    obtain ⟨n, c⟩ := p
    rcases cloFrom_mem hp with h | ⟨h1, h2⟩
    · cases h
    · obtain ⟨c2, h3⟩ := hfree _ h1 rfl
      have h3 : env.cells.lookup n = some c2 := h3
      rw [h3] at h2
      have h2 : c = c2 := h2
      subst h2
      exact z.cell n c (hns _ h1 rfl) h3
  refine ⟨hL.is, ?_, fun c hc => ?_⟩
  · refine lam_act (N := Nl) (ps := ps) (σ := σl) (tb := tb) hL S (fun a b c h1 h2 => z.inj a b c (cm h1) (cm h2)) (fun n hn hf => ?_) cell (fun i n u h1 h2 h3 => ?_) hlen hb0 hb1 hbody (fun H1 Q E kp ⟨s1, h⟩ => h)
    · obtain ⟨c, e⟩ := hfree n hn hf
      exact ⟨c, NdefX.clo_has hfree (by obtain ⟨a, b⟩ := n; cases hf; exact hn) e⟩
    · obtain ⟨j, j1, j2, j3⟩ := hval i n u h1 h2
      obtain ⟨c, e⟩ := hfree _ (PySem.mem_of_lookup h3) rfl
      obtain ⟨oc, u', e1, e2, e3⟩ := z.val j n u c (hns _ (PySem.mem_of_lookup h3) rfl) j1 j2 j3 e
      exact ⟨c, oc, u', NdefX.clo_has hfree (PySem.mem_of_lookup h3) e, e1, e2, e3⟩
  · obtain ⟨p, hp, e⟩ := List.mem_map.mp hc
    subst e
    obtain ⟨oc, u, e1, _⟩ := cell p hp
    exact ⟨oc, e1⟩
variable {cs : List Addr} {k : Nat} {Hz : Hp} {f : Addr} {σl : L2.St} {tb : XK → TE}
theorem mix_same {H1 H2 : Hp} (s : Same (offC H1 cs) H2) : Same H1 (mixC H1 H2 cs) := fun b o hb => by
  by_cases m : b ∈ cs
  · rw [mixC_in m]; exact hb
  · rw [mixC_out m]; exact s _ _ (by rw [offC_out m]; exact hb)
theorem mix_new {H1 H2 : Hp} (hn : ∀ c ∈ cs, H2 c = none) {b : Addr} {o : HO} (e : H2 b = some o) : mixC H1 H2 cs b = some o := by
  rw [mixC_out fun m => by rw [hn b m] at e; cases e]
  exact e
theorem same_off {Hz H1 : Hp} (fz : FzC Hz cs) (s : Same Hz H1) : Same (offC Hz cs) (offC H1 cs) := fun b o e => by
  by_cases m : b ∈ cs
  · rw [offC_in m] at e; cases e
  · rw [offC_out m] at e ⊢; exact s _ _ e
/-- a lambda that divides by zero -/
def DoesZ (P : Program) (w : World) (K : PySem.W.Frag) (mg : Str → Option Value) (base : Heap) (k : Nat) (H : Hp) (f : Addr) : Prop :=
  IsLam H f ∧ ∃ spf, Act P w K mg base k H f spf ∧ ∀ H1 (Q' : VK) (E' : XK), Same H H1 → (∀ d H2, Same H1 H2 → E' (.type "ZeroDivisionError") d H2) → spf H1 Q' E'
theorem DoesZ.same {k : Nat} {H H1 : Hp} {f : Addr} (d : DoesZ P w K mg base k H f) (s : Same H H1) : DoesZ P w K mg base k H1 f := by
  obtain ⟨l, spf, a, h⟩ := d
  exact ⟨l.keep (.same s), spf, a.mono (.same s), fun H2 Q' E' s2 h2 => h H2 Q' E' (s.trans s2) h2⟩
theorem DoesZ.le {k j : Nat} {H : Hp} {f : Addr} (d : DoesZ P w K mg base k H f) (h : k ≤ j) : DoesZ P w K mg base j H f := by
  obtain ⟨l, spf, a, q⟩ := d
  exact ⟨l, spf, a.le h, q⟩
theorem does_zero (g : IsLam Hz f ∧ Act P w K mg base k Hz f (lamSp Hz cs σl tb) ∧ FzC Hz cs)
    (h : ∀ H (Q : VK) (E : XK), Same (offC Hz cs) H → (∀ d H2, Same H H2 → E (.type "ZeroDivisionError") d H2) → tb E σl H Q) : DoesZ P w K mg base k Hz f := by
  obtain ⟨l, a, fz⟩ := g
  exact ⟨l, _, a, fun H1 Q' E' s1 he => ⟨s1, h _ _ _ (same_off fz s1) fun d H2 s2 hn => he _ _ (mix_same s2)⟩⟩
/-- a lambda whose text is refused -/
theorem does_text (g : IsLam Hz f ∧ Act P w K mg base k Hz f (lamSp Hz cs σl tb) ∧ FzC Hz cs)
    (h : ∀ H (Q : VK) (E : XK), Same (offC Hz cs) H → (∀ d H2, Same H H2 → H2 d = some (.xd (exF ["line"] "InvalidText" [.int 1])) → E (.ref T.x_InvalidText.C) (some d) H2) → tb E σl H Q) :
    IsLam Hz f ∧ ∃ spf, Act P w K mg base k Hz f spf ∧ ∀ (Q' : VK) (E' : XK), (∀ cls d H2, ErrT T cls d H2 → Same Hz H2 → E' cls d H2) → spf Hz Q' E' := by
  obtain ⟨l, a, fz⟩ := g
  exact ⟨l, _, a, fun Q' E' he => ⟨.refl _, h _ _ _ (same_off fz (.refl _)) fun d H2 s2 e hn => he _ _ _ ⟨rfl, d, rfl, mix_new hn e⟩ (mix_same s2)⟩⟩
end
end Rd
set_option maxHeartbeats 4000000
namespace Rd
open PySem PySem.Spec PyProof.Rows L2
/-! ## expressions that give ratios, numbers, pairs of them, whatever has come about in between -/
section
variable {K : PySem.W.Frag} {mg : Str → Option Value} {T : Txt K mg} {σ : L2.St} {H : Hp} {x y z u a b c d n : Int} {te ta tb : TE}
def EvI (te : TE) (σ : L2.St) (H : Hp) (x : Int) : Prop := ∀ H1 (Q : VK), Same H H1 → Q (.int x) H1 → te σ H1 Q
def EvR (T : Txt K mg) (te : TE) (σ : L2.St) (H : Hp) (x y : Int) : Prop := ∀ H1 (Q : VK), Same H H1 → (∀ r H', Same H1 H' → IsR T H' r x y → Q (.ref r) H') → te σ H1 Q
def EvO (T : Txt K mg) (te : TE) (σ : L2.St) (H : Hp) (x y : Int) : Prop := ∀ H1 (Q : VK), Same H H1 → (∀ v H', Same H1 H' → OT T H' v x y → Q v H') → te σ H1 Q
def EvT (te : TE) (σ : L2.St) (H : Hp) (x y : Int) : Prop := ∀ H1 (Q : VK), Same H H1 → (∀ t H', Same H1 H' → H' t = some (.tup [.int x, .int y]) → Q (.ref t) H') → te σ H1 Q
def EvP (T : Txt K mg) (te : TE) (σ : L2.St) (H : Hp) : Prop := ∀ H1 (Q : VK), Same H H1 → (∀ v H', Same H1 H' → (∃ (p r t : Addr) (x y : Int), v = .ref p ∧ H' p = some (.tup [.ref r, .ref t]) ∧ IsR T H' r x y ∧ H' t = some (.tup [.int x, .int y]) ∧ Red x y ∧ Lo x ∧ Lo y) → Q v H') → te σ H1 Q
def Pr (T : Txt K mg) (H : Hp) (v : V) : Prop := ∃ (p r t : Addr) (x y : Int), v = .ref p ∧ H p = some (.tup [.ref r, .ref t]) ∧ IsR T H r x y ∧ H t = some (.tup [.int x, .int y]) ∧ Red x y ∧ Lo x ∧ Lo y
theorem Pr.same {H H' : Hp} {v : V} (h : Pr T H v) (s : Same H H') : Pr T H' v := by
  obtain ⟨p, r, t, x, y, e, ep, i, et, q⟩ := h
  exact ⟨p, r, t, x, y, e, s _ _ ep, i.same s, s _ _ et, q⟩
theorem Pr.put {H : Hp} {v : V} {l : Addr} {ys : List V} {o : HO} (e : H l = some (.lst ys)) (h : Pr T H v) : Pr T (upd H l o) v := by
  obtain ⟨p, r, t, x, y, ev, ep, ⟨dr, er⟩, et, q⟩ := h
  exact ⟨p, r, t, x, y, ev, by rw [upd_ne fun w => by rw [w, e] at ep; cases ep]; exact ep, ⟨dr, by rw [upd_ne fun w => by rw [w, e] at er; cases er]; exact er⟩, by rw [upd_ne fun w => by rw [w, e] at et; cases et]; exact et, q⟩
theorem ei_c : EvI (tC (.int n)) σ H n := fun H1 Q s q => q
theorem ei_v {i : Nat} (h : σ[i]? = some (some (.int n))) : EvI (tVar i) σ H n := fun H1 Q s q => ⟨_, h, q⟩
theorem ei_add (ha : EvI ta σ H x) (hb : EvI tb σ H y) : EvI (tOp (rI0 fun i j => .int (i + j)) ta tb) σ H (x + y) := fun H1 Q s q => ha H1 _ s (hb H1 _ s ⟨x, y, rfl, rfl, q⟩)
theorem ei_sub (ha : EvI ta σ H x) (hb : EvI tb σ H y) : EvI (tOp (rI0 fun i j => .int (i - j)) ta tb) σ H (x - y) := fun H1 Q s q => ha H1 _ s (hb H1 _ s ⟨x, y, rfl, rfl, q⟩)
theorem ei_mul (ha : EvI ta σ H x) (hb : EvI tb σ H y) (l : Lo x) : EvI (tOp (rI CMul fun i j => .int (i * j)) ta tb) σ H (x * y) := fun H1 Q s q => ha H1 _ s (hb H1 _ s ⟨x, y, rfl, rfl, .inl l, q⟩)
theorem ei_fdiv (ha : EvI ta σ H x) (hb : EvI tb σ H y) (hy : y ≠ 0) (l : Sm y) : EvI (tOp (rI CDivZ fun i j => .int (i.fdiv j)) ta tb) σ H (x.fdiv y) := fun H1 Q s q => ha H1 _ s (hb H1 _ s ⟨x, y, rfl, rfl, cdz hy l, q⟩)
theorem ei_neg (ha : EvI ta σ H x) : EvI (tUn (rU fun i => .int (-i)) ta) σ H (-x) := fun H1 Q s q => ha H1 _ s ⟨x, rfl, q⟩
theorem er_v {i : Nat} {r : Addr} (h : σ[i]? = some (some (.ref r))) (k : IsR T H r x y) : EvR T (tVar i) σ H x y := fun H1 Q s q => ⟨_, h, q r H1 (.refl _) (k.same s)⟩
theorem EvR.o (h : EvR T te σ H x y) : EvO T te σ H x y := fun H1 Q s q => h H1 _ s fun r H' s1 i => q _ H' s1 (.inl ⟨r, rfl, i⟩)
theorem EvI.o (h : EvI te σ H x) : EvO T te σ H x 1 := fun H1 Q s q => h H1 _ s (q _ H1 (.refl _) (.inr ⟨rfl, rfl⟩))
theorem EvR.eq (h : EvR T te σ H x y) (e : x = z) (k : y = u) : EvR T te σ H z u := by subst e k; exact h
theorem EvT.eq (h : EvT te σ H x y) (e : x = z) (k : y = u) : EvT te σ H z u := by subst e k; exact h
theorem et_tup (ha : EvI ta σ H x) (hb : EvI tb σ H y) : EvT (tTup (tCons ta (tCons tb tNil))) σ H x y := fun H1 Q s q => ha H1 _ s (hb H1 _ s ⟨by show 2 ≤ sizeLine; rw [sizeLine_eq]; decide, fun p np => q p _ (same_new np) upd_same⟩)
theorem et_plain (ha : EvI ta σ H x) (hb : EvI tb σ H y) (hy : y ≠ 0) (lx : Lo x) (ly : Lo y) : EvT (tCall (spPlain T) [] E0 (tCons ta (tCons tb tNil))) σ H (nT x y) (nB x y) := fun H1 Q s q =>
  ha H1 _ s (hb H1 _ s ⟨x, y, rfl, hy, lx, ly, fun p H' s1 e => q p H' s1 e⟩)
structure Ok4 (x y z u : Int) : Prop where
  lx : Lo x
  ly : Lo y
  lz : Lo z
  lu : Lo u
  ny : y ≠ 0
  nu : u ≠ 0
theorem er_add (ha : EvR T ta σ H x y) (hb : EvO T tb σ H z u) (k : Ok4 x y z u) : EvR T (tOp (rBin T.aRatio (sp_add T) E0) ta tb) σ H (nT (x * u + z * y) (y * u)) (nB (x * u + z * y) (y * u)) := fun H1 Q s q =>
  ha H1 _ s fun r H2 s2 i2 => hb H2 _ (s.trans s2) fun v H3 s3 o3 => by
    obtain ⟨d3, e3⟩ := i2.same s3
    exact ⟨r, d3, _, rfl, e3, o3.two, r, v, x, y, z, u, rfl, ⟨d3, e3⟩, o3, k.lx, k.ly, k.lz, k.lu, k.ny, k.nu, fun p H' s4 i4 => ⟨.inl ⟨p, rfl⟩, q p H' ((s2.trans s3).trans s4) i4⟩⟩
theorem er_sub (ha : EvR T ta σ H x y) (hb : EvO T tb σ H z u) (k : Ok4 x y z u) (hd : Red z u) : EvR T (tOp (rBin T.aRatio (sp_sub T) E0) ta tb) σ H (nT (x * u - z * y) (y * u)) (nB (x * u - z * y) (y * u)) := fun H1 Q s q =>
  ha H1 _ s fun r H2 s2 i2 => hb H2 _ (s.trans s2) fun v H3 s3 o3 => by
    obtain ⟨d3, e3⟩ := i2.same s3
    exact ⟨r, d3, _, rfl, e3, o3.two, r, v, x, y, z, u, rfl, ⟨d3, e3⟩, o3, k.lx, k.ly, k.lz, k.lu, k.ny, k.nu, hd, fun p H' s4 i4 => ⟨.inl ⟨p, rfl⟩, q p H' ((s2.trans s3).trans s4) i4⟩⟩
theorem er_mul (ha : EvR T ta σ H x y) (hb : EvO T tb σ H z u) (k : Ok4 x y z u) : EvR T (tOp (rBin T.aRatio (sp_mul T) E0) ta tb) σ H (nT (x * z) (y * u)) (nB (x * z) (y * u)) := fun H1 Q s q =>
  ha H1 _ s fun r H2 s2 i2 => hb H2 _ (s.trans s2) fun v H3 s3 o3 => by
    obtain ⟨d3, e3⟩ := i2.same s3
    exact ⟨r, d3, _, rfl, e3, o3.two, r, v, x, y, z, u, rfl, ⟨d3, e3⟩, o3, k.lx, k.ly, k.lz, k.lu, k.ny, k.nu, fun p H' s4 i4 => ⟨.inl ⟨p, rfl⟩, q p H' ((s2.trans s3).trans s4) i4⟩⟩
theorem er_radd (ha : EvI ta σ H z) (hb : EvR T tb σ H x y) (k : Ok4 x y z 1) : EvR T (tOp (rBinR T.aRatio (sp_radd T) E0) ta tb) σ H (nT (x * 1 + z * y) (y * 1)) (nB (x * 1 + z * y) (y * 1)) := fun H1 Q s q =>
  ha H1 _ s (hb H1 _ s fun r H2 s2 i2 => by
    obtain ⟨d3, e3⟩ := i2
    exact ⟨z, r, d3, _, rfl, rfl, e3, r, .int z, x, y, z, 1, rfl, ⟨d3, e3⟩, .inr ⟨rfl, rfl⟩, k.lx, k.ly, k.lz, k.lu, k.ny, k.nu, fun p H' s4 i4 => ⟨.inl ⟨p, rfl⟩, q p H' (s2.trans s4) i4⟩⟩)
theorem er_rmul (ha : EvI ta σ H z) (hb : EvR T tb σ H x y) (k : Ok4 x y z 1) : EvR T (tOp (rBinR T.aRatio (sp_rmul T) E0) ta tb) σ H (nT (x * z) (y * 1)) (nB (x * z) (y * 1)) := fun H1 Q s q =>
  ha H1 _ s (hb H1 _ s fun r H2 s2 i2 => by
    obtain ⟨d3, e3⟩ := i2
    exact ⟨z, r, d3, _, rfl, rfl, e3, r, .int z, x, y, z, 1, rfl, ⟨d3, e3⟩, .inr ⟨rfl, rfl⟩, k.lx, k.ly, k.lz, k.lu, k.ny, k.nu, fun p H' s4 i4 => ⟨.inl ⟨p, rfl⟩, q p H' (s2.trans s4) i4⟩⟩)
theorem er_rsub (ha : EvI ta σ H z) (hb : EvR T tb σ H x y) (k : Ok4 x y z 1) (hd : Red x y) : EvR T (tOp (rBinR T.aRatio (sp_rsub T) E0) ta tb) σ H (nT (z * y - x * 1) (y * 1)) (nB (z * y - x * 1) (y * 1)) := fun H1 Q s q =>
  ha H1 _ s (hb H1 _ s fun r H2 s2 i2 => by
    obtain ⟨d3, e3⟩ := i2
    exact ⟨z, r, d3, _, rfl, rfl, e3, r, .int z, x, y, z, 1, rfl, ⟨d3, e3⟩, .inr ⟨rfl, rfl⟩, k.lx, k.ly, k.lz, k.lu, k.ny, k.nu, hd, fun p H' s4 i4 => ⟨.inl ⟨p, rfl⟩, q p H' (s2.trans s4) i4⟩⟩)
theorem er_neg (ha : EvR T ta σ H x y) (hd : Red x y) (l : Lo y) : EvR T (tUn (rNegF T.aRatio (sp_neg T) E0) ta) σ H (-x) y := fun H1 Q s q =>
  ha H1 _ s fun r H2 s2 ⟨d2, e2⟩ => ⟨r, d2, _, rfl, e2, r, x, y, rfl, ⟨d2, e2⟩, hd, l, fun p H' s4 i4 => q p H' (s2.trans s4) i4⟩
theorem er_abs (ha : EvR T ta σ H x y) (hd : Red x y) (l : Lo y) : EvR T (tCB (rAbsF T.aRatio (sp_abs T) E0) (tCons ta tNil)) σ H (if x < 0 then -x else x) y := fun H1 Q s q =>
  ha H1 _ s fun r H2 s2 ⟨d2, e2⟩ => ⟨r, d2, _, rfl, e2, r, x, y, rfl, ⟨d2, e2⟩, hd, l, fun p H' s4 i4 => q p H' (s2.trans s4) i4⟩
theorem ep_pair (ha : EvR T ta σ H x y) (hb : EvT tb σ H x y) (hd : Red x y) (lx : Lo x) (ly : Lo y) : EvP T (tTup (tCons ta (tCons tb tNil))) σ H := fun H1 Q s q =>
  ha H1 _ s fun r H2 s2 i2 => hb H2 _ (s.trans s2) fun t H3 s3 e3 => ⟨by show 2 ≤ sizeLine; rw [sizeLine_eq]; decide, fun p np => by
    have s4 := same_new (o := .tup [.ref r, .ref t]) np
    exact q _ _ ((s2.trans s3).trans s4) ⟨p, r, t, x, y, rfl, upd_same, (i2.same s3).same s4, s4 _ _ e3, hd, lx, ly⟩⟩
theorem er_make (ha : EvI ta σ H x) (hb : EvI tb σ H y) (hy : y ≠ 0) (l : Sm y) : EvR T (tMake T.aRatio (spInitN T) [] E0 (tCons ta (tCons tb tNil))) σ H (nT x y) (nB x y) := fun H1 Q s q =>
  ha H1 _ s (hb H1 _ s (mk_r hy l q))
theorem er_makeK {ks : List Str} (hk : ks.length = 2) (ha : EvI ta σ H y) (hb : EvI tb σ H x) (hy : y ≠ 0) (l : Sm y) : EvR T (tMakeK T.aRatio 0 ks.length (spInitN T) (fun vs zs => vs ++ zs.reverse) E0 tNil (tCons ta (tCons tb tNil))) σ H (nT x y) (nB x y) := fun H1 Q s q =>
  ha H1 _ s (hb H1 _ s ⟨rfl, hk.symm, mk_r hy l q⟩)
theorem er_make1 (ha : EvI ta σ H x) : EvR T (tMake T.aRatio (spInitN T) [.int 1] E0 (tCons ta tNil)) σ H x 1 := fun H1 Q s q =>
  ha H1 _ s (mk_r (by decide) (by unfold Sm; decide) fun r H' s1 i => q r H' s1 (by rw [(norm_of_red (red_int x)).1, (norm_of_red (red_int x)).2] at i; exact i))
theorem lo_le {x y : Int} (h : Lo x) (k : y.natAbs ≤ x.natAbs) : Lo y := by unfold Lo at *; omega
theorem ep_calc (ha : EvR T ta σ H (nT x y) (nB x y)) (hb : EvT tb σ H (nT x y) (nB x y)) (hy : y ≠ 0) (lx : Lo x) (ly : Lo y) : EvP T (tTup (tCons ta (tCons tb tNil))) σ H :=
  ep_pair ha hb (norm_red hy) (lo_le lx (nT_le hy)) (lo_le ly (nB_le hy))
theorem ei_abs (ha : EvI ta σ H x) : EvI (tCB (fun xs H Q => ∃ i, xs = [.int i] ∧ Q (.int (if i < 0 then -i else i)) H) (tCons ta tNil)) σ H (if x < 0 then -x else x) := fun H1 Q s q => ha H1 _ s ⟨x, rfl, q⟩
def EvPs (T : Txt K mg) (ta : TA) (σ : L2.St) (H : Hp) (k : Nat) : Prop := ∀ H1 (Q : List V → Hp → Prop), Same H H1 → (∀ vs H', Same H1 H' → vs.length = k → (∀ v ∈ vs, Pr T H' v) → Q vs H') → ta σ H1 Q
theorem eps_nil : EvPs T tNil σ H 0 := fun H1 Q s q => q [] H1 (.refl _) rfl (fun _ h => nomatch h)
theorem eps_cons {tr : TA} {k : Nat} (h : EvP T te σ H) (r : EvPs T tr σ H k) : EvPs T (tCons te tr) σ H (k + 1) := fun H1 Q s q =>
  h H1 _ s fun v H2 s2 p2 => r H2 _ (s.trans s2) fun vs H3 s3 l ps => q (v :: vs) H3 (s2.trans s3) (by rw [List.length_cons, l]) fun w m => by
    rcases List.mem_cons.mp m with e | m
    · rw [e]; exact Pr.same p2 s3
    · exact ps w m
/-- a list of such pairs -/
def EvL (T : Txt K mg) (te : TE) (σ : L2.St) (H : Hp) (k : Nat) : Prop := ∀ H1 (Q : VK), Same H H1 → (∀ l vs H', Same H1 H' → H1 l = none → H' l = some (.lst vs) → vs.length = k → (∀ v ∈ vs, Pr T H' v) → Q (.ref l) H') → te σ H1 Q
theorem el_lst {ta : TA} {k : Nat} (h : EvPs T ta σ H k) (hk : k ≤ 1000) : EvL T (tLst ta) σ H k := fun H1 Q s q => h H1 _ s fun vs H2 s2 l ps => ⟨by rw [l, sizeLine_eq]; omega, fun p np => by
  have s3 := same_new (o := .lst vs) np
  exact q p vs _ (s2.trans s3) (s2.free np) upd_same l fun v m => (ps v m).same s3⟩
theorem el_cat {j k : Nat} {i : Nat} {l : Addr} {vs : List V} (h0 : σ[i]? = some (some (.ref l))) (e0 : H l = some (.lst vs)) (l0 : vs.length = j) (p0 : ∀ v ∈ vs, Pr T H v) (h : EvL T te σ H k) (hj : j ≤ 1000) (hk : k ≤ 1000) : EvL T (tOp rCat (tVar i) te) σ H (j + k) := fun H1 Q s q =>
  ⟨_, h0, h H1 _ s fun m ws H2 s2 nm em lm pm => ⟨l, m, vs, ws, rfl, rfl, s2 _ _ (s _ _ e0), em, by rw [l0, lm, sizeLine_eq]; omega, fun p np => by
    have s3 := same_new (o := .lst (vs ++ ws)) np
    refine q p _ _ (s2.trans s3) (s2.free np) upd_same (by rw [List.length_append, l0, lm]) fun v hv => ?_
    rcases List.mem_append.mp hv with hv | hv
    · exact (((p0 v hv).same s).same s2).same s3
    · exact (pm v hv).same s3⟩⟩
theorem er_over (ha : EvR T ta σ H x y) (hb : EvO T tb σ H z u) (k : Ok4 x y z u) (hz : z ≠ 0) : EvR T (tMethFE T.sR "over" (sp_overN T) E0 ta (tCons tb tNil)) σ H (nT (x * u) (y * z)) (nB (x * u) (y * z)) := fun H1 Q s q =>
  ha H1 _ s fun r H2 s2 i2 => by
    obtain ⟨d2, e2⟩ := i2
    refine ⟨r, T.aRatio, d2, _, rfl, rfl, e2, rfl, hb H2 _ (s.trans s2) fun v H3 s3 o3 => ?_⟩
    exact ⟨r, v, x, y, z, u, rfl, ⟨d2, s3 _ _ e2⟩, o3, k.lx, k.ly, k.lz, k.lu, k.ny, k.nu, hz, fun p H' s4 i4 => q p H' ((s2.trans s3).trans s4) i4⟩
end
section
variable {K : PySem.W.Frag} {mg : Str → Option Value}
theorem MD0.kw {m qual : Str} {st : Stmt} {ps : List Str} (D : MD0 K m qual st ps) (ks : List Str)
    (h : ∀ (kV doc pm : Value) (an : Option Addr) (cdv ct : Value) (us ws : List Value), us.length = 1 → ws.length = ks.length → bindArgs (PySem.W.fnOf m qual (defArgs st) (defBody st) (defScope st) .none kV doc pm an cdv ct) ⟨us, ks.zip ws⟩ = pure (ps.zip (us ++ ws))) :
    KBn K D.fd ps 1 ks (fun us ws => us ++ ws) (fun vs zs => vs ++ zs) where
  to := fun s us ws _ l1 l2 => by
    obtain ⟨oc, od, kV, doc, pm, an, cdv, ct, osl, e, lk, hcd⟩ := D.F.ex
    rw [e]
    exact .of_eq (h kV doc pm an cdv ct us ws l1 l2)
  rel := fun r rz => r.append rz
theorem kb_compare (T : Txt K mg) : KBn K T.mr_compare.fd ["self", "other"] 1 ["other"] (fun us ws => us ++ ws) (fun vs zs => vs ++ zs) :=
  T.mr_compare.toMD0.kw ["other"] fun kV doc pm an cdv ct us ws h1 h2 => by
    match us, ws, h1, h2 with
    | [_], [_], _, _ => rfl
theorem kb_over (T : Txt K mg) : KBn K T.mr_over.fd ["self", "other"] 1 ["other"] (fun us ws => us ++ ws) (fun vs zs => vs ++ zs) :=
  T.mr_over.toMD0.kw ["other"] fun kV doc pm an cdv ct us ws h1 h2 => by
    match us, ws, h1, h2 with
    | [_], [_], _, _ => rfl
theorem kb_read (T : Txt K mg) : KBn K T.mr_read.fd ["cls", "text"] 1 ["text"] (fun us ws => us ++ ws) (fun vs zs => vs ++ zs) :=
  T.mr_read.kw ["text"] fun kV doc pm an cdv ct us ws h1 h2 => by
    match us, ws, h1, h2 with
    | [_], [_], _, _ => rfl
theorem kb_init (T : Txt K mg) : KBn K T.mr_init.fd ["self", "top", "bottom"] 1 ["bottom", "top"] (fun us ws => us ++ ws.reverse) (fun vs zs => vs ++ zs.reverse) where
  to := fun s us ws X l1 l2 => by
    obtain ⟨oc, od, dV, kV, doc, pm, an, cdv, ct, osl, e, lk, hcd, hD, hK⟩ := T.mr_init.F.ex
    rcases hD with ⟨e, _⟩ | ⟨_, A, o, its, m, rfl, lT, oT, rT⟩
    · cases e
    · rw [e]
      match us, ws, its, l1, l2, rT.length with
      | [a], [b, c], [d], _, _, _ =>
        refine BindsTo.of_looks fun M => ?_
        obtain ⟨k, e1, e2⟩ : ∃ k, bindArgs (PySem.W.fnOf "__init__" "Ratio.__init__" (defArgs s_mr_init) (defBody s_mr_init) (defScope s_mr_init) (.ref A) kV doc pm an cdv ct) ⟨[a], (["bottom", "top"] : List Str).zip [b, c]⟩ = seqItems? (.ref A) >>= k ∧ k (some [d].toArray) = pure ((["self", "top", "bottom"] : List Str).zip [a, c, b]) := ⟨_, rfl, rfl⟩
        rw [e1]
        exact looks_items X lT oT (.of_pure e2)
  rel := fun r rz => r.append (vals_rev rz)
/-- f(lambda: ..), the lambda's cells the running block's own -/
def tTL (Pt : Addr) (q : Str) (params : Arguments) (body : Expr) (lsc : Scope) (N ns : List Str) (sp : Sp) : TE := fun σ H Q => TabF H Pt q ∧ ∀ (env : Env) (f : Addr) (H1 Hz : Hp), KeepT H H1 → TabF H1 Pt q → H f = none → LamAt H1 f q params body lsc (cloFrom env.cells lsc.names []) [] →
  FzOf H1 Hz (cellsIn env ns) → FzValB env N ns σ Hz → (∀ y ∈ lsc.names, y.2 = .free → ∃ c, env.cells.lookup y.1 = some c) → (∀ x ∈ ns, env.scope.names.lookup x = some .cell) → sp [.ref f] Hz (fun v H' => Q v (offC H' (cellsIn env ns))) E0
theorem pe_TL {X : Cx} {CX : CXT} {k : Nat} {f Pt c : Addr} {fd : FuncData} {ps ns : List Str} {sp : Sp} {x q : Str} {p pos lpos : Pos} {params : Arguments} {body : Expr} {lsc : Scope} {N : List Str} (hN : X.N = N) (F : FnOk X.prog X.w X.K X.mg X.base CX k f fd ps sp) (hr : Room k X.A) (hg : Gl X x) (hm : X.mg x = some (.ref f)) (hk : PySem.W.keepIn X.K (.ref f) = true) (hb : Binds X.K fd ps [])
    (hx : ∀ (outer : List Env) (H : Hp) (s : Shared) (e : Value) (s' : Shared), CX outer H s E0 e s' → False) (TB : LamX.TabB X.base X.mg c Pt) (hcode : X.env.code = .ref c) (hfn : ∀ y ∈ ns, X.fn y = true) (hsc : ∀ y ∈ ns, X.env.scope.names.lookup y = some .cell) (hns : ∀ y ∈ lsc.names, y.2 = .free → y.1 ∈ ns) (hq : X.env.qual ++ "<lambda>" = q)
    (hdb : (x == ("__debug__" : Str)) = false := by decide) (hdef : defaultsOf params X.env = ([], []) := by rfl) :
    PE X (.Call (.Name x p) [.Lambda params body lsc lpos] [] pos) (tTL Pt q params body lsc N ns sp) := by
  subst hq hN
  have hfree : X.Ok → ∀ y ∈ lsc.names, y.2 = .free → ∃ c, X.env.cells.lookup y.1 = some c := fun ok y hy e => ok.has _ (.inl (hsc _ (hns y hy e)))
  have base := pe_callZB (p := p) (pos := pos) (ns := ns) F hr hfn hg hm hk hb hx (pa_cons (pe_lam0 (body := body) (pos := lpos) TB hcode hfree hdef) pa_nil) hdb
  refine ⟨fun pins s σ H Q I h => base.run pins s σ H Q I ?_⟩
  obtain ⟨hT, h⟩ := h
  exact ⟨hT, fun g H1 k1 t1 n1 l1 Hz z1 z2 => h X.env g H1 Hz k1 t1 n1 l1 z1 z2 (hfree I.ok) hsc⟩
theorem ix_tupK {X : Cx} {K : PySem.W.Frag} (h : X.K = K) : IxR X (rIxT K) := h ▸ ix_tup
end
end Rd
set_option maxHeartbeats 4000000
namespace Rd
open PySem PySem.Spec PyProof.Rows L2 L2H HotX
open C8 (pss_cut tCut)
/-! ## the law -/
section
variable {P : Program} {w : World} {K : PySem.W.Frag} {mg : Str → Option Value} {base : Heap} {T : Txt K mg}
/-- where the law's lambdas stand -/
abbrev lamQ : Str := "law.<locals>.<lambda>"
def spLaw (K : PySem.W.Frag) (Pt : Addr) : Sp := fun vs H Q _ => ∃ (a : Addr) (ns : List Int), vs = [.ref a] ∧ SqL K H a (ns.map V.int) ∧ ns.length ≤ 63 ∧ TabF H Pt lamQ ∧ ∀ H', Q (.bl true) H'
noncomputable def lawS (T : Txt K mg) {ct Pt : Addr} (TB : LamX.TabB base mg ct Pt) (A : Around) (outer : List Env) (s : Shared) (H : Hp) (E : XK) (ds : List Value) (vd1 : Vals [V.int 1] ds) (bd1 : Binds K T.mr_init.fd ["self", "top", "bottom"] ds)
    (hr : Room 11 (A.deeper (envOfC "law" (defScope s_law) s.heap.objs.size T.d_law.f (.ref ct)))) : { t : TS // PSs (cxOf CX0 P w K mg base N_law "law" (defScope s_law) T.d_law.f (.ref ct) A outer s H E).nox (defBody s_law) t } :=
  have hcode : (cxOf CX0 P w K mg base N_law "law" (defScope s_law) T.d_law.f (.ref ct) A outer s H E).nox.env.code = .ref ct := rfl
  have bd2 := T.bd2
  have kb_i := kb_init T
  have okZ : FnOk P w K mg base CX0 10 T.d__law_zero.f T.d__law_zero.fd ["_law_ask"] (spZero P w K mg base 7) := ok_law_zero T 7
  have okY : FnOk P w K mg base CX0 10 T.d__law_try.f T.d__law_try.fd ["_law_ask"] (spTry P w K mg base T 7) := ok_law_try T 7
  ⟨_, (pss_cons (ps_set (i := 1) sc_law.nd rfl (Or.inl rfl) (pe_call (ok_law_bag T) (hr.mono (by decide)) (by rfl) T.d__law_bag.g T.d__law_bag.F.kp T.d__law_bag.b .nil pass0 (pa_cons (pv 0) pa_nil)))
      (pss_cons (ps_for PassesOwn.never rfl (pi_range1 (by rfl) T.z_range (pa_cons pe_int pa_nil)) (pg_name (i := 2) sc_law.nd rfl (Or.inl rfl)) (pss_cons (ps_asg (pe_tup (pa_cons (pe_call (ok_law_number T) (hr.mono (by decide)) (by rfl) T.d__law_number.g T.d__law_number.F.kp T.d__law_number.b .nil pass0 (pa_cons (pv 1) pa_nil)) (pa_cons (pe_call (ok_law_number T) (hr.mono (by decide)) (by rfl) T.d__law_number.g T.d__law_number.F.kp T.d__law_number.b .nil pass0 (pa_cons (pv 1) pa_nil)) (pa_cons (pe_call (ok_law_number T) (hr.mono (by decide)) (by rfl) T.d__law_number.g T.d__law_number.F.kp T.d__law_number.b .nil pass0 (pa_cons (pv 1) pa_nil)) (pa_cons (pe_call (ok_law_number T) (hr.mono (by decide)) (by rfl) T.d__law_number.g T.d__law_number.F.kp T.d__law_number.b .nil pass0 (pa_cons (pv 1) pa_nil)) pa_nil))))) (pg_tup rfl (pgs_cons (pg_name (i := 13) sc_law.nd rfl (Or.inr rfl)) (pgs_cons (pg_name (i := 3) sc_law.nd rfl (Or.inl rfl)) (pgs_cons (pg_name (i := 4) sc_law.nd rfl (Or.inl rfl)) (pgs_cons (pg_name (i := 14) sc_law.nd rfl (Or.inr rfl)) pgs_nil))))))
      (pss_cons (ps_asg (pe_tup (pa_cons (pe_ifExp (pt_cmpR op_ne (pv 3) pe_int (nomark _)) (pv 3) pe_int) (pa_cons (pe_ifExp (pt_cmpR op_ne (pv 14) pe_int (nomark _)) (pv 14) (pe_un un_neg pe_int)) pa_nil))) (pg_tup rfl (pgs_cons (pg_name (i := 3) sc_law.nd rfl (Or.inl rfl)) (pgs_cons (pg_name (i := 14) sc_law.nd rfl (Or.inr rfl)) pgs_nil))))
      (pss_cons (ps_asg (pe_tup (pa_cons (pe_make T.kRatio.made (ok_mr_initN T) (hr.mono (by decide)) (by rfl) T.c_Ratio bd2 .nil pass0 (pa_cons (pv 13) (pa_cons (pv 3) pa_nil))) (pa_cons (pe_makeK0 T.kRatio.made (ok_mr_initN T) (hr.mono (by decide)) (by rfl) T.c_Ratio kb_i pass0 (pk_cons (pv 14) (pk_cons (pv 4) pk_nil))) pa_nil))) (pg_tup rfl (pgs_cons (pg_name (i := 15) sc_law.nd rfl (Or.inr rfl)) (pgs_cons (pg_name (i := 5) sc_law.nd rfl (Or.inl rfl)) pgs_nil))))
      (pss_cons (ps_asg (pe_tup (pa_cons (pe_call (ok_law_plain T) (hr.mono (by decide)) (by rfl) T.d__law_plain.g T.d__law_plain.F.kp T.d__law_plain.b .nil pass0 (pa_cons (pv 13) (pa_cons (pv 3) pa_nil))) (pa_cons (pe_call (ok_law_plain T) (hr.mono (by decide)) (by rfl) T.d__law_plain.g T.d__law_plain.F.kp T.d__law_plain.b .nil pass0 (pa_cons (pv 4) (pa_cons (pv 14) pa_nil))) (pa_cons (pe_call (ok_law_number T) (hr.mono (by decide)) (by rfl) T.d__law_number.g T.d__law_number.F.kp T.d__law_number.b .nil pass0 (pa_cons (pv 1) pa_nil)) pa_nil)))) (pg_tup rfl (pgs_cons (pg_tup rfl (pgs_cons (pg_name (i := 13) sc_law.nd rfl (Or.inr rfl)) (pgs_cons (pg_name (i := 3) sc_law.nd rfl (Or.inl rfl)) pgs_nil))) (pgs_cons (pg_tup rfl (pgs_cons (pg_name (i := 4) sc_law.nd rfl (Or.inl rfl)) (pgs_cons (pg_name (i := 14) sc_law.nd rfl (Or.inr rfl)) pgs_nil))) (pgs_cons (pg_name (i := 6) sc_law.nd rfl (Or.inl rfl)) pgs_nil)))))
      (pss_cons (ps_set (i := 7) sc_law.nd rfl (Or.inl rfl) (pe_lst (pa_cons (pe_tup (pa_cons (pv 15) (pa_cons (pe_tup (pa_cons (pv 13) (pa_cons (pv 3) pa_nil))) pa_nil))) (pa_cons (pe_tup (pa_cons (pv 5) (pa_cons (pe_tup (pa_cons (pv 4) (pa_cons (pv 14) pa_nil))) pa_nil))) (pa_cons (pe_tup (pa_cons (pe_op (op_own T.o_add (ok_mr_add T) (hr.mono (by decide)) T.mr_add.b pass0) (pv 15) (pv 5)) (pa_cons (pe_call (ok_law_plain T) (hr.mono (by decide)) (by rfl) T.d__law_plain.g T.d__law_plain.F.kp T.d__law_plain.b .nil pass0 (pa_cons (pe_op op_add (pe_op op_mul (pv 13) (pv 14)) (pe_op op_mul (pv 4) (pv 3))) (pa_cons (pe_op op_mul (pv 3) (pv 14)) pa_nil))) pa_nil))) (pa_cons (pe_tup (pa_cons (pe_op (op_own T.o_sub (ok_mr_sub T) (hr.mono (by decide)) T.mr_sub.b pass0) (pv 15) (pv 5)) (pa_cons (pe_call (ok_law_plain T) (hr.mono (by decide)) (by rfl) T.d__law_plain.g T.d__law_plain.F.kp T.d__law_plain.b .nil pass0 (pa_cons (pe_op op_sub (pe_op op_mul (pv 13) (pv 14)) (pe_op op_mul (pv 4) (pv 3))) (pa_cons (pe_op op_mul (pv 3) (pv 14)) pa_nil))) pa_nil))) pa_nil))))))
      (pss_cons (ps_set (i := 7) sc_law.nd rfl (Or.inl rfl) (pe_op op_cat (pv 7) (pe_lst (pa_cons (pe_tup (pa_cons (pe_op (op_own T.o_mul (ok_mr_mul T) (hr.mono (by decide)) T.mr_mul.b pass0) (pv 15) (pv 5)) (pa_cons (pe_call (ok_law_plain T) (hr.mono (by decide)) (by rfl) T.d__law_plain.g T.d__law_plain.F.kp T.d__law_plain.b .nil pass0 (pa_cons (pe_op op_mul (pv 13) (pv 4)) (pa_cons (pe_op op_mul (pv 3) (pv 14)) pa_nil))) pa_nil))) (pa_cons (pe_tup (pa_cons (pe_op (op_ownR T.r_sub intop_sub (ok_mr_rsub T) (hr.mono (by decide)) T.mr_rsub.b pass0) pe_int (pv 15)) (pa_cons (pe_tup (pa_cons (pe_op op_sub pe_int (pv 13)) (pa_cons (pv 3) pa_nil))) pa_nil))) (pa_cons (pe_tup (pa_cons (pe_un (un_own T.s_neg.1 T.s_neg.2 (ok_mr_neg T) (hr.mono (by decide)) T.mr_neg.b pass0) (pv 5)) (pa_cons (pe_tup (pa_cons (pe_op op_sub pe_int (pv 4)) (pa_cons (pv 14) pa_nil))) pa_nil))) (pa_cons (pe_tup (pa_cons (pe_callB (call_absF (T.mr_abs.M _ rfl).at_ (T.mr_abs.M _ rfl).fn (ok_mr_abs T) (hr.mono (by decide)) T.mr_abs.b pass0) (by rfl) T.z_abs (by decide +kernel) (pa_cons (pv 5) pa_nil)) (pa_cons (pe_tup (pa_cons (pe_callB call_abs (by rfl) T.z_abs (by decide +kernel) (pa_cons (pv 4) pa_nil)) (pa_cons (pv 14) pa_nil))) pa_nil))) pa_nil)))))))
      (pss_cons (ps_set (i := 7) sc_law.nd rfl (Or.inl rfl) (pe_op op_cat (pv 7) (pe_lst (pa_cons (pe_tup (pa_cons (pe_op (op_own T.o_add (ok_mr_add T) (hr.mono (by decide)) T.mr_add.b pass0) (pv 15) (pv 6)) (pa_cons (pe_call (ok_law_plain T) (hr.mono (by decide)) (by rfl) T.d__law_plain.g T.d__law_plain.F.kp T.d__law_plain.b .nil pass0 (pa_cons (pe_op op_add (pv 13) (pe_op op_mul (pv 6) (pv 3))) (pa_cons (pv 3) pa_nil))) pa_nil))) (pa_cons (pe_tup (pa_cons (pe_op (op_ownR T.r_add intop_add (ok_mr_radd T) (hr.mono (by decide)) T.mr_radd.b pass0) (pv 6) (pv 15)) (pa_cons (pe_call (ok_law_plain T) (hr.mono (by decide)) (by rfl) T.d__law_plain.g T.d__law_plain.F.kp T.d__law_plain.b .nil pass0 (pa_cons (pe_op op_add (pv 13) (pe_op op_mul (pv 6) (pv 3))) (pa_cons (pv 3) pa_nil))) pa_nil))) (pa_cons (pe_tup (pa_cons (pe_op (op_own T.o_sub (ok_mr_sub T) (hr.mono (by decide)) T.mr_sub.b pass0) (pv 15) (pv 6)) (pa_cons (pe_call (ok_law_plain T) (hr.mono (by decide)) (by rfl) T.d__law_plain.g T.d__law_plain.F.kp T.d__law_plain.b .nil pass0 (pa_cons (pe_op op_sub (pv 13) (pe_op op_mul (pv 6) (pv 3))) (pa_cons (pv 3) pa_nil))) pa_nil))) pa_nil))))))
      (pss_cons (ps_set (i := 7) sc_law.nd rfl (Or.inl rfl) (pe_op op_cat (pv 7) (pe_lst (pa_cons (pe_tup (pa_cons (pe_op (op_ownR T.r_sub intop_sub (ok_mr_rsub T) (hr.mono (by decide)) T.mr_rsub.b pass0) (pv 6) (pv 15)) (pa_cons (pe_call (ok_law_plain T) (hr.mono (by decide)) (by rfl) T.d__law_plain.g T.d__law_plain.F.kp T.d__law_plain.b .nil pass0 (pa_cons (pe_op op_sub (pe_op op_mul (pv 6) (pv 3)) (pv 13)) (pa_cons (pv 3) pa_nil))) pa_nil))) (pa_cons (pe_tup (pa_cons (pe_op (op_ownR T.r_mul intop_mul (ok_mr_rmul T) (hr.mono (by decide)) T.mr_rmul.b pass0) (pv 6) (pv 15)) (pa_cons (pe_call (ok_law_plain T) (hr.mono (by decide)) (by rfl) T.d__law_plain.g T.d__law_plain.F.kp T.d__law_plain.b .nil pass0 (pa_cons (pe_op op_mul (pv 6) (pv 13)) (pa_cons (pv 3) pa_nil))) pa_nil))) (pa_cons (pe_tup (pa_cons (pe_op (op_own T.o_mul (ok_mr_mul T) (hr.mono (by decide)) T.mr_mul.b pass0) (pv 15) (pv 6)) (pa_cons (pe_call (ok_law_plain T) (hr.mono (by decide)) (by rfl) T.d__law_plain.g T.d__law_plain.F.kp T.d__law_plain.b .nil pass0 (pa_cons (pe_op op_mul (pv 6) (pv 13)) (pa_cons (pv 3) pa_nil))) pa_nil))) (pa_cons (pe_tup (pa_cons (pe_make T.kRatio.made (ok_mr_initN T) (hr.mono (by decide)) (by rfl) T.c_Ratio bd1 vd1 pass0 (pa_cons (pv 6) pa_nil)) (pa_cons (pe_tup (pa_cons (pv 6) (pa_cons pe_int pa_nil))) pa_nil))) pa_nil)))))))
      (pss_cut (ps_if (pt_cmpR op_ne (pv 4) pe_int (nomark _)) (pss_one (ps_expr (pe_bm PySem.F.plainAttrs_list PySem.F.slot_list_append PySem.F.type_list_append mt_append (pv 7) (pa_cons (pe_tup (pa_cons (pe_methFE (pv 15) T.famRatio T.mr_over.M (ok_mr_overN T) (hr.mono (by decide)) T.mr_over.b pass0 (pa_cons (pv 5) pa_nil)) (pa_cons (pe_call (ok_law_plain T) (hr.mono (by decide)) (by rfl) T.d__law_plain.g T.d__law_plain.F.kp T.d__law_plain.b .nil pass0 (pa_cons (pe_op op_mul (pv 13) (pv 14)) (pa_cons (pe_op op_mul (pv 3) (pv 4)) pa_nil))) pa_nil))) pa_nil)))) pss_nil)
      (pss_cons (ps_if (pt_cmpR (op_neD hr.units) (pe_lc (own := [("_law_pair", 16)]) (g := gName 16) (by rfl) sc_law.nd (pi_list (pv 7)) (blkOk_by (own := [("_law_pair", 16)]) (N := N_law) (sc := defScope s_law) (by decide +kernel)) (fun _ _ _ _ _ => (pg_name (i := 16) sc_law.nd rfl (Or.inl rfl))) (fun _ _ _ _ _ => pts_one (pt_not (pt_val (pe_call (ok_law_so T) (hr.mono (by decide)) (by rfl) T.d__law_so.g T.d__law_so.F.kp T.d__law_so.b .nil pass0 (pa_cons (pe_ix (ix_tupK (K := K) rfl) (pv 16) pe_int (fun _ _ => rfl)) (pa_cons (pe_ix (ix_tupK (K := K) rfl) (pv 16) pe_int (fun _ _ => rfl)) pa_nil)))))) (fun _ _ _ _ _ => (pv 16))) (pe_lst pa_nil) (nomark _)) (pss_one (ps_ret pe_bl)) pss_nil)
      (pss_cons (ps_set (i := 8) sc_law.nd rfl (Or.inl rfl) (pe_lst (pa_cons (pe_methF0 (pv 15) T.famRatio T.mr_floor.M (ok_mr_floor T) (hr.mono (by decide)) T.mr_floor.b pass0) (pa_cons (pe_methF0 (pv 15) T.famRatio T.mr_ceiling.M (ok_mr_ceiling T) (hr.mono (by decide)) T.mr_ceiling.b pass0) (pa_cons (pe_cmpR (op_eqF T.eqRatio (ok_mr_eq T) (hr.mono (by decide)) T.mr_eq.b pass0) (pv 15) (pv 5) (nomark _)) (pa_cons (pe_cmpR (op_neF T.famRatio T.eqRatio (ok_mr_eq T) (hr.mono (by decide)) T.mr_eq.b pass0) (pv 15) (pv 5) (nomark _)) (pa_cons (pe_cmpR (op_eqF T.eqRatio (ok_mr_eq T) (hr.mono (by decide)) T.mr_eq.b pass0) (pv 15) (pv 6) (nomark _)) (pa_cons (pe_callTy (call_boolF (S := T.sR) (fun C h => (T.mr_bool.M C h).at_) (T.mr_bool.M _ rfl).fn (ok_mr_bool T) (hr.mono (by decide)) T.mr_bool.b pass0) (by rfl) T.z_bool (by decide +kernel) (pa_cons (pv 15) pa_nil)) (pa_cons (pe_cmpR (op_eqF T.eqRatio (ok_mr_eq T) (hr.mono (by decide)) T.mr_eq.b pass0) (pe_make T.kRatio.made (ok_mr_initN T) (hr.mono (by decide)) (by rfl) T.c_Ratio bd2 .nil pass0 (pa_cons (pv 13) (pa_cons (pv 3) pa_nil))) (pv 15) (nomark _)) (pa_cons (pe_cmpR (op_eqF T.eqRatio (ok_mr_eq T) (hr.mono (by decide)) T.mr_eq.b pass0) (pv 15) (pe_callTy (call_strF (T.mr_str.M _ rfl).at_ (T.mr_str.M _ rfl).fn (ok_mr_str T) (hr.mono (by decide)) T.mr_str.b pass0) (by rfl) T.z_str (by decide +kernel) (pa_cons (pv 15) pa_nil)) (nomark _)) pa_nil))))))))))
      (pss_cons (ps_if (pt_not (pt_val (pe_call (ok_law_like T 2) (hr.mono (by decide)) (by rfl) T.d__law_like.g T.d__law_like.F.kp T.d__law_like.b .nil pass0 (pa_cons (pv 8) (pa_cons (pe_lst (pa_cons (pe_op op_fdivZ (pv 13) (pv 3)) (pa_cons (pe_op op_sub pe_int (pe_op op_fdivZ (pe_op op_sub pe_int (pv 13)) (pv 3))) (pa_cons (pe_cmpR (op_eqD hr.units) (pe_tup (pa_cons (pv 13) (pa_cons (pv 3) pa_nil))) (pe_tup (pa_cons (pv 4) (pa_cons (pv 14) pa_nil))) (nomark _)) (pa_cons (pe_cmpR (op_neD hr.units) (pe_tup (pa_cons (pv 13) (pa_cons (pv 3) pa_nil))) (pe_tup (pa_cons (pv 4) (pa_cons (pv 14) pa_nil))) (nomark _)) (pa_cons (pe_cmpR (op_eqD hr.units) (pe_tup (pa_cons (pv 13) (pa_cons (pv 3) pa_nil))) (pe_tup (pa_cons (pv 6) (pa_cons pe_int pa_nil))) (nomark _)) (pa_cons (pe_cmpR op_ne (pv 13) pe_int (nomark _)) (pa_cons pe_bl (pa_cons pe_bl pa_nil))))))))) pa_nil))))) (pss_one (ps_ret pe_bl)) pss_nil)
      (pss_cons (ps_set (i := 9) sc_law.nd rfl (Or.inl rfl) (pe_lst (pa_cons (pe_op op_sub (pe_callTy call_int1 (by rfl) T.z_int (by decide +kernel) (pa_cons (pe_cmpR op_gt (pe_op op_mul (pv 13) (pv 14)) (pe_op op_mul (pv 4) (pv 3)) (nomark _)) pa_nil)) (pe_callTy call_int1 (by rfl) T.z_int (by decide +kernel) (pa_cons (pe_cmpR op_lt (pe_op op_mul (pv 13) (pv 14)) (pe_op op_mul (pv 4) (pv 3)) (nomark _)) pa_nil))) (pa_cons (pe_op op_sub (pe_callTy call_int1 (by rfl) T.z_int (by decide +kernel) (pa_cons (pe_cmpR op_gt (pv 13) (pe_op op_mul (pv 6) (pv 3)) (nomark _)) pa_nil)) (pe_callTy call_int1 (by rfl) T.z_int (by decide +kernel) (pa_cons (pe_cmpR op_lt (pv 13) (pe_op op_mul (pv 6) (pv 3)) (nomark _)) pa_nil))) pa_nil))))
      (pss_cons (ps_if (pt_not (pt_val (pe_call (ok_law_like T 2) (hr.mono (by decide)) (by rfl) T.d__law_like.g T.d__law_like.F.kp T.d__law_like.b .nil pass0 (pa_cons (pe_lst (pa_cons (pe_methFE (pv 15) T.famRatio T.mr_compare.M (ok_mr_compare T) (hr.mono (by decide)) T.mr_compare.b pass0 (pa_cons (pv 5) pa_nil)) (pa_cons (pe_methFE (pv 15) T.famRatio T.mr_compare.M (ok_mr_compare T) (hr.mono (by decide)) T.mr_compare.b pass0 (pa_cons (pv 6) pa_nil)) (pa_cons (pe_methFE (pv 5) T.famRatio T.mr_compare.M (ok_mr_compare T) (hr.mono (by decide)) T.mr_compare.b pass0 (pa_cons (pv 15) pa_nil)) pa_nil)))) (pa_cons (pe_op op_cat (pv 9) (pe_lst (pa_cons (pe_op op_sub pe_int (pe_ix ix_list (pv 9) pe_int (fun _ _ => rfl))) pa_nil))) pa_nil))))) (pss_one (ps_ret pe_bl)) pss_nil)
      (pss_cons (ps_if (PW.pt (pw_or (pt_cmpR op_ne (pe_methFKE (pv 15) T.famRatio T.mr_compare.M (ok_mr_compare T) (hr.mono (by decide)) (kb_compare T) pass0 (pk_cons (pv 5) pk_nil)) (pe_ix ix_list (pv 9) pe_int (fun _ _ => rfl)) (nomark _)) (pw_or1 (PW.pt (pw_and (pt_cmpR op_ne (pv 4) pe_int (nomark _)) (pw_and1 (pt_cmpR (op_neF T.famRatio T.eqRatio (ok_mr_eq T) (hr.mono (by decide)) T.mr_eq.b pass0) (pe_methFKE (pv 15) T.famRatio T.mr_over.M (ok_mr_overN T) (hr.mono (by decide)) (kb_over T) pass0 (pk_cons (pv 5) pk_nil)) (pe_methFE (pv 15) T.famRatio T.mr_over.M (ok_mr_overN T) (hr.mono (by decide)) T.mr_over.b pass0 (pa_cons (pv 5) pa_nil)) (nomark _)))))))) (pss_one (ps_ret pe_bl)) pss_nil)
      (pss_cons (ps_set (i := 10) sc_law.nd rfl (Or.inl rfl) (pe_lst (pa_cons (pe_ifExp (pt_cmpR op_ne (pv 4) pe_int (nomark _)) (pe_op (op_own T.o_floordiv (ok_mr_floordivN T) (hr.mono (by decide)) T.mr_floordiv.b pass0) (pv 15) (pv 5)) pe_int) (pa_cons (pe_ifExp (pt_cmpR op_ne (pv 6) pe_int (nomark _)) (pe_op (op_own T.o_floordiv (ok_mr_floordivN T) (hr.mono (by decide)) T.mr_floordiv.b pass0) (pv 15) (pv 6)) pe_int) pa_nil))))
      (pss_cons (ps_if (pt_not (pt_val (pe_call (ok_law_like T 2) (hr.mono (by decide)) (by rfl) T.d__law_like.g T.d__law_like.F.kp T.d__law_like.b .nil pass0 (pa_cons (pv 10) (pa_cons (pe_lst (pa_cons (pe_ifExp (pt_cmpR op_ne (pv 4) pe_int (nomark _)) (pe_op op_fdivZ (pe_op op_mul (pe_op op_mul (pv 13) (pv 14)) (pe_ifExp (pt_cmpR op_gt (pv 4) pe_int (nomark _)) pe_int (pe_un un_neg pe_int))) (pe_op op_mul (pv 3) (pe_callB call_abs (by rfl) T.z_abs (by decide +kernel) (pa_cons (pv 4) pa_nil)))) pe_int) (pa_cons (pe_ifExp (pt_cmpR op_ne (pv 6) pe_int (nomark _)) (pe_op op_fdivZ (pv 13) (pe_op op_mul (pv 3) (pv 6))) pe_int) pa_nil))) pa_nil))))) (pss_one (ps_ret pe_bl)) pss_nil)
      (pss_cons (ps_set (i := 11) sc_law.nd rfl (Or.inl rfl) (pe_lst (pa_cons (pe_lam0 TB hcode (fun _ => free_ok rfl)) (pa_cons (pe_lam1 TB hcode (fun _ => free_ok rfl)) (pa_cons (pe_lam1 TB hcode (fun _ => free_ok rfl)) pa_nil)))))
      (pss_cons (ps_set (i := 11) sc_law.nd rfl (Or.inl rfl) (pe_op op_cat (pv 11) (pe_lst (pa_cons (pe_lam0 TB hcode (fun _ => free_ok rfl)) (pa_cons (pe_lam1 TB hcode (fun _ => free_ok rfl)) pa_nil)))))
      (pss_one (ps_if (pt_cmpR (op_neD hr.units) (pe_lcZ (own := [("_law_ask", 17)]) (g := gName 17) (by rfl) (by intro _; rfl) sc_law.nd (pi_list (pv 11)) (blkOk_by (own := [("_law_ask", 17)]) (N := N_law) (sc := defScope s_law) (by decide +kernel)) (by decide +kernel) (fun _ _ _ _ _ => (pg_name (i := 17) sc_law.nd rfl (Or.inl rfl))) (fun _ _ _ _ _ => pts_one (pt_not (pt_val (pe_call okZ (hr.mono (by decide)) (by rfl) T.d__law_zero.g T.d__law_zero.F.kp T.d__law_zero.b .nil pass0 (pa_cons (pv 17) pa_nil))))) (fun _ _ _ _ _ => (pv 17))) (pe_lst pa_nil) (nomark _)) (pss_one (ps_ret pe_bl)) pss_nil))))))))))))))))))))))
      (pss_cons (ps_set (i := 12) sc_law.nd rfl (Or.inl rfl) (pe_lst (pa_cons pe_str (pa_cons pe_str (pa_cons pe_str (pa_cons pe_str (pa_cons pe_str (pa_cons pe_str (pa_cons pe_str (pa_cons pe_str (pa_cons pe_str (pa_cons pe_str (pa_cons pe_str (pa_cons pe_str (pa_cons pe_str (pa_cons pe_str (pa_cons pe_str (pa_cons pe_str (pa_cons pe_non (pa_cons pe_int (pa_cons pe_bl pa_nil)))))))))))))))))))))
      (pss_cons (ps_setLc (i := 8) (own := [("_law_text_z", 18)]) (g := gName 18) (tt := tYes) (by rfl) sc_law.nd rfl rfl (sw_true rfl rfl rfl (by decide +kernel)) (pi_list (pv 12)) (blkOk_by (own := [("_law_text_z", 18)]) (N := N_law) (sc := defScope s_law) (by decide +kernel)) (fun _ _ _ _ _ => (pg_name (i := 18) sc_law.nd rfl (Or.inr rfl))) (fun _ _ _ _ _ => pts_nil) (fun _ _ _ _ _ => (pe_TL (N := N_law) (q := lamQ) (Pt := Pt) (ns := ["_law_text_z"]) rfl okY (hr.mono (by decide)) (by rfl) T.d__law_try.g T.d__law_try.F.kp T.d__law_try.b (fun _ _ _ _ _ h => h) TB (by exact hcode) (by intro y hy; simp only [List.mem_cons, List.not_mem_nil, or_false] at hy; subst hy; rfl) (by intro y hy; simp only [List.mem_cons, List.not_mem_nil, or_false] at hy; subst hy; rfl) (by decide +kernel) (by rfl))))
      (pss_one (ps_ret (pe_and (pe_call (ok_law_like T 2) (hr.mono (by decide)) (by rfl) T.d__law_like.g T.d__law_like.F.kp T.d__law_like.b .nil pass0 (pa_cons (pv 8) (pa_cons (pe_op op_rep (pe_lst (pa_cons (pe_tup (pa_cons pe_str (pa_cons pe_int pa_nil))) pa_nil)) (pe_callB call_len_seq (by rfl) T.z_len (by decide +kernel) (pa_cons (pv 12) pa_nil))) pa_nil))) (pe_and (pe_cmpR (op_eqF T.eqRatio (ok_mr_eq T) (hr.mono (by decide)) T.mr_eq.b pass0) (ClX.pe_cmeth (pe_glob (v := .ref T.aRatio) rfl T.c_Ratio rfl) T.rdr T.rdm (FnOk.toR (ok_mr_readN T) T.mr_read.b) (hr.mono (by decide)) pass0 (pa_cons pe_str pa_nil)) (pe_make T.kRatio.made (ok_mr_initN T) (hr.mono (by decide)) (by rfl) T.c_Ratio bd2 .nil pass0 (pa_cons pe_int (pa_cons (pe_un un_neg pe_int) pa_nil))) (nomark _)) (pe_one (pe_cmpR (op_eqF T.eqRatio (ok_mr_eq T) (hr.mono (by decide)) T.mr_eq.b pass0) (pe_cmethK (pe_glob (v := .ref T.aRatio) rfl T.c_Ratio rfl) T.rdr T.rdm (ok_mr_readN T) (hr.mono (by decide)) (kb_read T) pass0 (pk_cons pe_str pk_nil)) (pe_make T.kRatio.made (ok_mr_initN T) (hr.mono (by decide)) (by rfl) T.c_Ratio bd2 .nil pass0 (pa_cons pe_int (pa_cons (pe_un un_neg pe_int) pa_nil))) (nomark _)))))))))))⟩
end
end Rd
set_option maxHeartbeats 4000000
namespace Rd
open PySem PySem.Spec PyProof.Rows L2
/-! ## expressions that give a value, whatever has come about in between -/
section
variable {K : PySem.W.Frag} {mg : Str → Option Value} {T : Txt K mg} {σ : L2.St} {H : Hp} {x y z u n : Int} {te ta tb tc : TE} {v : V} {p q : Bool}
def EvV (te : TE) (σ : L2.St) (H : Hp) (v : V) : Prop := ∀ H1 (Q : VK), Same H H1 → (∀ H', Same H1 H' → Q v H') → te σ H1 Q
theorem EvI.val (h : EvI te σ H x) : EvV te σ H (.int x) := fun H1 Q s q => h H1 _ s (q H1 (.refl _))
theorem EvV.eq {w : V} (h : EvV te σ H v) (e : v = w) : EvV te σ H w := e ▸ h
theorem ev_c : EvV (tC v) σ H v := fun H1 Q s q => q H1 (.refl _)
theorem ev_v {i : Nat} (h : σ[i]? = some (some v)) : EvV (tVar i) σ H v := fun H1 Q s q => ⟨_, h, q H1 (.refl _)⟩
theorem ev_sub (ha : EvV ta σ H (.int x)) (hb : EvV tb σ H (.int y)) : EvV (tOp (rI0 fun i j => .int (i - j)) ta tb) σ H (.int (x - y)) := fun H1 Q s q => ha H1 _ s fun H2 s2 => hb H2 _ (s.trans s2) fun H3 s3 => ⟨x, y, rfl, rfl, q H3 (s2.trans s3)⟩
theorem ev_gt (ha : EvI ta σ H x) (hb : EvI tb σ H y) : EvV (tOp (rI0 fun i j => .bl (decide (j < i))) ta tb) σ H (.bl (decide (y < x))) := fun H1 Q s q => ha H1 _ s (hb H1 _ s ⟨x, y, rfl, rfl, q H1 (.refl _)⟩)
theorem ev_lt (ha : EvI ta σ H x) (hb : EvI tb σ H y) : EvV (tOp (rI0 fun i j => .bl (decide (i < j))) ta tb) σ H (.bl (decide (x < y))) := fun H1 Q s q => ha H1 _ s (hb H1 _ s ⟨x, y, rfl, rfl, q H1 (.refl _)⟩)
theorem ev_intb (ha : EvV ta σ H (.bl p)) : EvV (tCB (fun xs H Q => (∃ i, xs = [V.int i] ∧ Q (V.int i) H) ∨ ∃ k, xs = [V.bl k] ∧ Q (V.int (if k = true then 1 else 0)) H) (tCons ta tNil)) σ H (.int (if p = true then 1 else 0)) := fun H1 Q s q =>
  ha H1 _ s fun H2 s2 => .inr ⟨p, rfl, q H2 s2⟩
theorem ev_ne (ha : EvI ta σ H x) (hb : EvI tb σ H y) : EvV (tOp rNe ta tb) σ H (.bl (!decide (x = y))) := fun H1 Q s q => ha H1 _ s (hb H1 _ s ⟨rfl, by rw [int_dec]; exact q H1 (.refl _)⟩)
theorem ev_floor (ha : EvR T ta σ H x y) (hy : y ≠ 0) (l : Lo y) : EvV (tMethF T.sR "floor" (sp_floor T) ta tNil) σ H (.int (x.fdiv y)) := fun H1 Q s q =>
  ha H1 _ s fun r H2 s2 ⟨d, e⟩ => ⟨r, T.aRatio, d, _, rfl, rfl, e, rfl, r, x, y, rfl, ⟨d, e⟩, hy, l, q H2 s2⟩
theorem ev_ceil (ha : EvR T ta σ H x y) (hy : y ≠ 0) (l : Lo y) : EvV (tMethF T.sR "ceiling" (sp_ceiling T) ta tNil) σ H (.int (-((-x).fdiv y))) := fun H1 Q s q =>
  ha H1 _ s fun r H2 s2 ⟨d, e⟩ => ⟨r, T.aRatio, d, _, rfl, rfl, e, rfl, r, x, y, rfl, ⟨d, e⟩, hy, l, q H2 s2⟩
theorem ev_bool (ha : EvR T ta σ H x y) : EvV (tCB (rBoolF T.sR (sp_bool T)) (tCons ta tNil)) σ H (.bl (!decide (x = 0))) := fun H1 Q s q =>
  ha H1 _ s fun r H2 s2 ⟨d, e⟩ => ⟨r, T.aRatio, d, _, rfl, rfl, e, r, x, y, rfl, ⟨d, e⟩, _, rfl, q H2 s2⟩
theorem ev_eqR (ha : EvR T ta σ H x y) (hb : EvR T tb σ H z u) : EvV (tOp (rEqF K T.sR (sp_eq T)) ta tb) σ H (.bl (decide (x = z) && decide (y = u))) := fun H1 Q s q =>
  ha H1 _ s fun r H2 s2 i2 => hb H2 _ (s.trans s2) fun r' H3 s3 i3 => by
    obtain ⟨d, e⟩ := i2.same s3
    obtain ⟨d', e'⟩ := i3
    exact ⟨r, T.aRatio, d, _, rfl, rfl, e, .inl ⟨_, T.insR e', T.kRatio.self, r, .ref r', x, y, rfl, ⟨d, e⟩, .inl ⟨r', z, u, rfl, ⟨d', e'⟩, _, rfl, q H3 (s2.trans s3)⟩⟩⟩
theorem ev_neR (ha : EvR T ta σ H x y) (hb : EvR T tb σ H z u) : EvV (tOp (rNeF K T.sR (sp_eq T)) ta tb) σ H (.bl (!(decide (x = z) && decide (y = u)))) := fun H1 Q s q =>
  ha H1 _ s fun r H2 s2 i2 => hb H2 _ (s.trans s2) fun r' H3 s3 i3 => by
    obtain ⟨d, e⟩ := i2.same s3
    obtain ⟨d', e'⟩ := i3
    exact ⟨r, T.aRatio, d, _, _, rfl, rfl, e, T.insR e', T.kRatio.self, r, .ref r', x, y, rfl, ⟨d, e⟩, .inl ⟨r', z, u, rfl, ⟨d', e'⟩, _, rfl, q H3 (s2.trans s3)⟩⟩
theorem ev_eqI (ha : EvR T ta σ H x y) (hb : EvI tb σ H n) : EvV (tOp (rEqF K T.sR (sp_eq T)) ta tb) σ H (.bl (decide (y = 1) && decide (x = n))) := fun H1 Q s q =>
  ha H1 _ s fun r H2 s2 ⟨d, e⟩ => hb H2 _ (s.trans s2) ⟨r, T.aRatio, d, _, rfl, rfl, e, .inl ⟨_, ty_sc rfl, T.kRatio.nt "int" (by decide +kernel), r, .int n, x, y, rfl, ⟨d, e⟩, .inr (.inl ⟨n, rfl, _, rfl, q H2 s2⟩)⟩⟩
theorem ev_eqS (ha : EvR T ta σ H x y) (hb : EvR T tb σ H z u) (lz : Lo z) (lu : Lo u) : EvV (tOp (rEqF K T.sR (sp_eq T)) ta (tCB (rStrF T.aRatio (sp_str T)) (tCons tb tNil))) σ H (.bl false) := fun H1 Q s q =>
  ha H1 _ s fun r H2 s2 i2 => hb H2 _ (s.trans s2) fun r' H3 s3 ⟨d', e'⟩ => ⟨r', d', _, rfl, e', r', z, u, rfl, ⟨d', e'⟩, lz, lu, fun H4 s4 => ⟨_, rfl, by
    obtain ⟨d, e⟩ := (i2.same s3).same s4
    exact ⟨r, T.aRatio, d, _, rfl, rfl, e, .inl ⟨_, ty_sc rfl, T.kRatio.nt "str" (by decide +kernel), r, .str _, x, y, rfl, ⟨d, e⟩, .inr (.inr ⟨_, rfl, _, rfl, q H4 ((s2.trans s3).trans s4)⟩)⟩⟩⟩⟩
theorem eqv_two : PyData.eqv (.tuple [.int x, .int y]) (.tuple [.int z, .int u]) = (decide (x = z) && decide (y = u)) := by
  simp [PyData.eqv, PyData.eqvAll]
  by_cases h1 : x = z <;> by_cases h2 : y = u <;> simp [h1, h2]
theorem ev_eqD {ta' tb' : TE} (ha : EvI ta σ H x) (hb : EvI tb σ H y) (ha' : EvI ta' σ H z) (hb' : EvI tb' σ H u) : EvV (tOp (rEqD K) (tTup (tCons ta (tCons tb tNil))) (tTup (tCons ta' (tCons tb' tNil)))) σ H (.bl (decide (x = z) && decide (y = u))) := fun H1 Q s q =>
  et_tup ha hb H1 _ s fun t H2 s2 e2 => et_tup ha' hb' H2 _ (s.trans s2) fun t' H3 s3 e3 => ⟨_, _, .tup (SqT.of (s3 _ _ e2)) (.cons (.int x) (.cons (.int y) .nil)), .tup (SqT.of e3) (.cons (.int z) (.cons (.int u) .nil)), rfl, rfl, by rw [eqv_two]; exact q H3 (s2.trans s3)⟩
theorem ev_neD {ta' tb' : TE} (ha : EvI ta σ H x) (hb : EvI tb σ H y) (ha' : EvI ta' σ H z) (hb' : EvI tb' σ H u) : EvV (tOp (rNeD K) (tTup (tCons ta (tCons tb tNil))) (tTup (tCons ta' (tCons tb' tNil)))) σ H (.bl (!(decide (x = z) && decide (y = u)))) := fun H1 Q s q =>
  et_tup ha hb H1 _ s fun t H2 s2 e2 => et_tup ha' hb' H2 _ (s.trans s2) fun t' H3 s3 e3 => ⟨_, _, .tup (SqT.of (s3 _ _ e2)) (.cons (.int x) (.cons (.int y) .nil)), .tup (SqT.of e3) (.cons (.int z) (.cons (.int u) .nil)), rfl, rfl, by rw [eqv_two]; exact q H3 (s2.trans s3)⟩
theorem ev_compare (ha : EvR T ta σ H x y) (hb : EvO T tb σ H z u) (lx : Lo x) (ly : Lo y) (lz : Lo z) (lu : Lo u) : EvV (tMethFE T.sR "compare" (sp_compare T) E0 ta (tCons tb tNil)) σ H (.int (sgn (x * u - z * y))) := fun H1 Q s q =>
  ha H1 _ s fun r H2 s2 ⟨d, e⟩ => ⟨r, T.aRatio, d, _, rfl, rfl, e, rfl, hb H2 _ (s.trans s2) fun v H3 s3 o3 => ⟨r, v, x, y, z, u, rfl, ⟨d, s3 _ _ e⟩, o3, lx, ly, lz, lu, fun H4 s4 => q H4 ((s2.trans s3).trans s4)⟩⟩
theorem ev_compareK {ks : List Str} (hk : ks.length = 1) (ha : EvR T ta σ H x y) (hb : EvO T tb σ H z u) (lx : Lo x) (ly : Lo y) (lz : Lo z) (lu : Lo u) : EvV (tMethFKE T.sR "compare" ks.length (sp_compare T) (fun vs zs => vs ++ zs) E0 ta (tCons tb tNil)) σ H (.int (sgn (x * u - z * y))) := fun H1 Q s q =>
  ha H1 _ s fun r H2 s2 ⟨d, e⟩ => ⟨r, T.aRatio, d, _, rfl, rfl, e, rfl, hb H2 _ (s.trans s2) fun v H3 s3 o3 => ⟨hk.symm, r, v, x, y, z, u, rfl, ⟨d, s3 _ _ e⟩, o3, lx, ly, lz, lu, fun H4 s4 => q H4 ((s2.trans s3).trans s4)⟩⟩
theorem er_overK {ks : List Str} (hk : ks.length = 1) (ha : EvR T ta σ H x y) (hb : EvO T tb σ H z u) (k : Ok4 x y z u) (hz : z ≠ 0) : EvR T (tMethFKE T.sR "over" ks.length (sp_overN T) (fun vs zs => vs ++ zs) E0 ta (tCons tb tNil)) σ H (nT (x * u) (y * z)) (nB (x * u) (y * z)) := fun H1 Q s q =>
  ha H1 _ s fun r H2 s2 ⟨d2, e2⟩ => ⟨r, T.aRatio, d2, _, rfl, rfl, e2, rfl, hb H2 _ (s.trans s2) fun v H3 s3 o3 => ⟨hk.symm, r, v, x, y, z, u, rfl, ⟨d2, s3 _ _ e2⟩, o3, k.lx, k.ly, k.lz, k.lu, k.ny, k.nu, hz, fun p H' s4 i4 => q p H' ((s2.trans s3).trans s4) i4⟩⟩
theorem ev_fdiv (ha : EvR T ta σ H x y) (hb : EvO T tb σ H z u) (k : Ok4 x y z u) (hz : z ≠ 0) : EvV (tOp (rBin T.aRatio (sp_floordivN T) E0) ta tb) σ H (.int ((x * u).fdiv (y * z))) := fun H1 Q s q =>
  ha H1 _ s fun r H2 s2 i2 => hb H2 _ (s.trans s2) fun v H3 s3 o3 => by
    obtain ⟨d3, e3⟩ := i2.same s3
    exact ⟨r, d3, _, rfl, e3, o3.two, r, v, x, y, z, u, rfl, ⟨d3, e3⟩, o3, k.lx, k.ly, k.lz, k.lu, k.ny, k.nu, hz, fun H' s4 => ⟨.inr ⟨_, rfl⟩, q H' ((s2.trans s3).trans s4)⟩⟩
/-- a if x is not 0, else 0 -/
theorem ev_if0 {i : Nat} {v : V} (h : σ[i]? = some (some (.int x))) (ha : x ≠ 0 → EvV ta σ H v) (h0 : x = 0 → v = .int 0) : EvV (tIf (tTest (tOp rNe (tVar i) (tC (.int 0)))) ta (tC (.int 0))) σ H v := fun H1 Q s q => by
  refine ⟨_, h, rfl, _, rfl, ?_⟩
  rw [int_dec]
  by_cases e : x = 0
  · rw [decide_eq_true e]
    have := q H1 (.refl _)
    rw [h0 e] at this
    exact this
  · rw [decide_eq_false e]
    exact ha e H1 Q s q
theorem ei_sign {i : Nat} (h : σ[i]? = some (some (.int x))) : EvI (tIf (tTest (tOp (rI0 fun i j => .bl (decide (j < i))) (tVar i) (tC (.int 0)))) (tC (.int 1)) (tUn (rU fun i => .int (-i)) (tC (.int 1)))) σ H (if 0 < x then 1 else -1) := fun H1 Q s q => by
  refine ⟨_, h, x, 0, rfl, rfl, _, rfl, ite2 (fun e => ?_) (fun e => ⟨1, rfl, ?_⟩)⟩
  · rw [if_pos (of_decide_eq_true e)] at q
    exact q
  · rw [if_neg (of_decide_eq_false (by simpa using e))] at q
    exact q
def EvVs (ta : TA) (σ : L2.St) (H : Hp) (vs : List V) : Prop := ∀ H1 (Q : List V → Hp → Prop), Same H H1 → (∀ H', Same H1 H' → Q vs H') → ta σ H1 Q
theorem evs_nil : EvVs tNil σ H [] := fun H1 Q s q => q H1 (.refl _)
theorem evs_cons {tr : TA} {vs : List V} (h : EvV te σ H v) (r : EvVs tr σ H vs) : EvVs (tCons te tr) σ H (v :: vs) := fun H1 Q s q => h H1 _ s fun H2 s2 => r H2 _ (s.trans s2) fun H3 s3 => q H3 (s2.trans s3)
/-- a list of such values -/
def EvW (te : TE) (σ : L2.St) (H : Hp) (vs : List V) : Prop := ∀ H1 (Q : VK), Same H H1 → (∀ l H', Same H1 H' → H' l = some (.lst vs) → Q (.ref l) H') → te σ H1 Q
theorem ew_lst {ta : TA} {vs : List V} (h : EvVs ta σ H vs) (hk : vs.length ≤ 100) : EvW (tLst ta) σ H vs := fun H1 Q s q => h H1 _ s fun H2 s2 => ⟨by rw [sizeLine_eq]; omega, fun p np => q p _ (s2.trans (same_new np)) upd_same⟩
theorem ew_v {i : Nat} {l : Addr} {vs : List V} (h : σ[i]? = some (some (.ref l))) (e : H l = some (.lst vs)) : EvW (tVar i) σ H vs := fun H1 Q s q => ⟨_, h, q l H1 (.refl _) (s _ _ e)⟩
theorem ew_cat {vs ws : List V} (ha : EvW ta σ H vs) (hb : EvW tb σ H ws) (hl : vs.length + ws.length ≤ 100) : EvW (tOp rCat ta tb) σ H (vs ++ ws) := fun H1 Q s q => ha H1 _ s fun l H2 s2 e2 => hb H2 _ (s.trans s2) fun m H3 s3 e3 =>
  ⟨l, m, vs, ws, rfl, rfl, s3 _ _ e2, e3, by rw [sizeLine_eq]; omega, fun p np => q p _ ((s2.trans s3).trans (same_new np)) upd_same⟩
theorem ev_at {vs : List V} {i : Int} (ha : EvW ta σ H vs) (h : atI vs i = some v) : EvV (tOp (rIxL K) ta (tC (.int i))) σ H v := fun H1 Q s q => ha H1 _ s fun l H2 s2 e2 => ⟨l, vs, i, v, rfl, rfl, SqL.of e2, h, q H2 s2⟩
theorem eqv_flatN {H : Hp} {a b : Addr} {xs : List V} {k : Nat} (ha : SqL K H a xs) (hb : SqL K H b xs) (hs : xs.all isSc = true) (hl : xs.length ≤ 1000) : Eqv K H (k + 1) (.ref a) (.ref b) :=
  .inr ⟨a, b, xs, xs, rfl, rfl, .inl ⟨ha, hb⟩, rfl, hl, fun i x y h1 h2 => by
    cases h1.symm.trans h2
    exact Eqv.sc (List.all_eq_true.mp hs x (List.mem_of_getElem? h1)) k⟩
/-- two such lists are alike -/
theorem ev_like {vs : List V} {k : Nat} (ha : EvW ta σ H vs) (hb : EvW tb σ H vs) (hs : vs.all isSc = true) (hl : vs.length ≤ 100) : EvV (tCall (spSame K (k + 1)) [] E0 (tCons ta (tCons tb tNil))) σ H (.bl true) := fun H1 Q s q => ha H1 _ s fun l H2 s2 e2 => hb H2 _ (s.trans s2) fun m H3 s3 e3 =>
  ⟨.ref l, .ref m, rfl, eqv_flatN (SqL.of (s3 _ _ e2)) (SqL.of e3) hs (by omega), fun H4 s4 => q H4 ((s2.trans s3).trans s4)⟩
theorem ev_neV (ha : EvV ta σ H (.int x)) (hb : EvV tb σ H (.int y)) : EvV (tOp rNe ta tb) σ H (.bl (!decide (x = y))) := fun H1 Q s q => ha H1 _ s fun H2 s2 => hb H2 _ (s.trans s2) fun H3 s3 => ⟨rfl, by rw [int_dec]; exact q H3 (s2.trans s3)⟩
theorem sgn_bool (x y : Int) : (if decide (y < x) = true then (1 : Int) else 0) - (if decide (x < y) = true then 1 else 0) = sgn (x - y) := by
  unfold sgn
  by_cases h1 : y < x
  · rw [decide_eq_true h1, decide_eq_false (show ¬ x < y by omega), if_neg (show ¬ x - y = 0 by omega), if_pos (show 0 < x - y by omega)]; rfl
  · by_cases h2 : x < y
    · rw [decide_eq_false h1, decide_eq_true h2, if_neg (show ¬ x - y = 0 by omega), if_neg (show ¬ 0 < x - y by omega)]; rfl
    · rw [decide_eq_false h1, decide_eq_false h2, if_pos (show x - y = 0 by omega)]; rfl
theorem sgn_neg (x y : Int) : sgn (y - x) = 0 - sgn (x - y) := by
  unfold sgn
  by_cases h : x - y = 0
  · rw [if_pos h, if_pos (show y - x = 0 by omega)]; rfl
  · rw [if_neg h, if_neg (show ¬ y - x = 0 by omega)]
    by_cases k : 0 < x - y
    · rw [if_pos k, if_neg (show ¬ 0 < y - x by omega)]; rfl
    · rw [if_neg k, if_pos (show 0 < y - x by omega)]; rfl
theorem go_ifnot {t e u : TS} {D : Ends} (h : te σ H fun x H1 => ∃ c, x = .bl c ∧ if (!c) = true then t { D with nx := u D } σ H1 else e { D with nx := u D } σ H1) : tSeq (tIfS (tNot (tB te)) t e) u D σ H := h
theorem go_ifor {t u : TS} {D : Ends} (ha : EvV ta σ H (.bl false)) (hb : EvV tb σ H (.bl p)) (hc : p = true → EvV tc σ H (.bl false)) (h : ∀ H', Same H H' → u D σ H') : tSeq (tIfS (tOr (tTest ta) (tAnd (tTest tb) (tTest tc))) t tNext) u D σ H :=
  ha H _ (.refl _) fun H1 s1 => ⟨_, rfl, (hb H1 _ s1 fun H2 s2 => ⟨p, rfl, by
    cases p with
    | false => exact h H2 (s1.trans s2)
    | true => exact hc rfl H2 _ (s1.trans s2) fun H3 s3 => ⟨_, rfl, h H3 ((s1.trans s2).trans s3)⟩⟩)⟩
end
end Rd
set_option maxHeartbeats 4000000
namespace Rd
open PySem PySem.Spec PyProof.Rows L2 L2H HotX
theorem clo_sub {env : Env} {names : List (Str × NameKind)} (hfree : ∀ y ∈ names, y.2 = .free → ∃ c, env.cells.lookup y.1 = some c) : ∀ c ∈ (cloFrom env.cells names []).map (·.2), c ∈ cellsOf env := fun c hc => by
  obtain ⟨p, hp, e⟩ := List.mem_map.mp hc
  subst e
  obtain ⟨n, c⟩ := p
  rcases cloFrom_mem hp with h | ⟨h1, h2⟩
  · cases h
  · obtain ⟨c2, h3⟩ := hfree _ h1 rfl
    have h3 : env.cells.lookup n = some c2 := h3
    rw [h3] at h2
    have h2 : c = c2 := h2
    subst h2
    exact mem_cellsOf.mpr ⟨n, h3⟩
theorem same_offz {HE Hz : Hp} {cells cs : List Addr} (fz : FzOf HE Hz cells) (sub : ∀ c ∈ cs, c ∈ cells) : Same HE (offC Hz cs) := fun a o e => by
  rw [offC_out fun m => by rw [fz.non a (sub a m)] at e; cases e]
  exact fz.same _ _ e
section
variable {P : Program} {w : World} {K : PySem.W.Frag} {mg : Str → Option Value} {base : Heap} {T : Txt K mg}
theorem lam_zero {HE : Hp} {k : Nat} {env : Env} {N : List Str} {σ : L2.St} {Hz : Hp} (fz : FzOf HE Hz (cellsOf env)) (z : FzVal env N σ Hz) (inj : ∀ x y c, env.cells.lookup x = some c → env.cells.lookup y = some c → x = y)
    {f : Addr} {q : Str} {params : Arguments} {body : Expr} {scope : Scope} {ds : List V} (hL : LamAt Hz f q params body scope (cloFrom env.cells scope.names []) ds)
    (hfree : ∀ y ∈ scope.names, y.2 = .free → ∃ c, env.cells.lookup y.1 = some c) {Nl ps : List Str} {σl : L2.St} (S : LScope Nl ps scope)
    (hval : ∀ (i : Nat) (x : Str) (v : V), Nl[i]? = some x → σl[i]? = some (some v) → ∃ j : Nat, N[j]? = some x ∧ σ[j]? = some (some v) ∧ env.scope.names.lookup x = some .cell) (hlen : σl.length = Nl.length)
    (hb0 : ds = [] → ps = [] ∧ ∀ doc pm cv ctv, bindArgs (PySem.W.kdv_fn "<lambda>" q params (.expr body) scope (cloFrom env.cells scope.names []) .none doc pm cv ctv) ⟨[], []⟩ = pure [])
    (hb1 : ds ≠ [] → ∀ (A : Addr) doc pm cv ctv (its : List Value), its.length = ds.length → ∃ kk, bindArgs (PySem.W.kdv_fn "<lambda>" q params (.expr body) scope (cloFrom env.cells scope.names []) (.ref A) doc pm cv ctv) ⟨[], []⟩ = seqItems? (.ref A) >>= kk ∧ kk (some its.toArray) = pure (ps.zip its))
    {tb : XK → TE} (hbody : ∀ (c' : Addr) (A : Around) (outer : List Env) (s : Shared) (H' : Hp) (E : XK), Room k (lCx P w K mg base Nl q scope (cloFrom env.cells scope.names []) f c' A outer s H' E).A → PE (lCx P w K mg base Nl q scope (cloFrom env.cells scope.names []) f c' A outer s H' E) body (tb E))
    (h : ∀ (H : Hp) (Q : VK) (E : XK), Same HE H → (∀ d H2, Same H H2 → E (.type "ZeroDivisionError") d H2) → tb E σl H Q) : DoesZ P w K mg base (k + 1) Hz f :=
  does_zero (lam_gen z inj hL hfree S hval hlen hb0 hb1 hbody) fun H Q E s he => h H Q E ((same_offz fz (clo_sub hfree)).trans s) he
theorem upd_id {H : Hp} {a : Addr} {o : HO} (e : H a = some o) : upd H a o = H := funext fun b => by
  by_cases h : b = a
  · rw [h, upd_same, e]
  · rw [upd_ne h]
theorem go_if1 {c : TT} {t e : TS} {D : Ends} {σ : L2.St} {H : Hp} (h : c σ H (fun b H1 => if b = true then t D σ H1 else e D σ H1)) : tIfS c t e D σ H := h
/-- a walk from a heap that has the list already -/
theorem lc_itz {J : It} {n : Nat} {Gd : Hp → Prop} {Y : Nat → Hp → V → Hp → Prop} (wk : Walk J n Gd Y) {g : TG} {tt : TT} {te : TE} {vs : List Nat} {σ : L2.St} {Hz : Hp} {D : Addr} {Qd : Hp → Prop} (eD : Hz D = some (.lst [])) (Pv : Nat → Hp → Prop) (h0 : Pv 0 Hz) (hG : ∀ i H, i ≤ n → Pv i H → Gd H)
    (hs : ∀ i x H H', i < n → Pv i H → Y i H x H' → g x (wipe σ vs) H' fun σ2 H2 => wipe σ2 vs = wipe σ vs ∧ tt σ2 H2 fun b H3 => if b = true then te σ2 H3 fun y H4 => ∃ acc, H4 D = some (.lst acc) ∧ acc.length < sizeLine ∧ Pv (i + 1) (upd H4 D (.lst (acc ++ [y]))) else Pv (i + 1) H3)
    (hd : ∀ H, Pv n H → Qd H) :
    ∃ W : Nat → Nat → Hp → Prop, (∃ m, W 0 m Hz) ∧ ∀ i m G, W i m G → (J.stop i G ∧ Qd G) ∨ (J.go i G ∧ ∃ Nx : Hp → Prop, (∀ G', Nx G' → ∃ m', m' < m ∧ W (i + 1) m' G') ∧ ∀ x G', J.yld i G x G' → g x (wipe σ vs) G' fun σ2 G2 => wipe σ2 vs = wipe σ vs ∧ tt σ2 G2 fun b G3 =>
      if b = true then te σ2 G3 fun y G4 => ∃ acc, G4 D = some (.lst acc) ∧ acc.length < sizeLine ∧ Nx (upd G4 D (.lst (acc ++ [y]))) else Nx G3) := by
  have h := lc_it (g := g) (tt := tt) (te := te) (vs := vs) (σ := σ) (H1 := Hz) (D := D) (Qd := Qd) wk Pv (by rw [upd_id eD]; exact h0) hG hs hd
  rw [upd_id eD] at h
  exact h
/-! ### texts that are refused -/
def wrongB : V → Bool
  | .str z => decide (z.length ≤ 200) && (wordsOf z).all (fun y => decide (y.length ≤ 200)) && decide ((wordsOf z).length ≤ 200) && !(wordsOf z).isEmpty && (termsOf z).isNone
  | v => isSc v
theorem wrong_of {v : V} (h : wrongB v = true) : (isSc v = true ∧ isS v = false) ∨ ∃ z, v = .str z ∧ TxtOk z ∧ termsOf z = none := by
  cases v with
  | str z =>
    have h : (decide (z.length ≤ 200) && (wordsOf z).all (fun y => decide (y.length ≤ 200)) && decide ((wordsOf z).length ≤ 200) && !(wordsOf z).isEmpty && (termsOf z).isNone) = true := h
    rw [Bool.and_eq_true, Bool.and_eq_true, Bool.and_eq_true, Bool.and_eq_true] at h
    obtain ⟨⟨⟨⟨h1, h2⟩, h3⟩, h4⟩, h5⟩ := h
    exact .inr ⟨z, rfl, ⟨of_decide_eq_true h1, fun y hy => of_decide_eq_true (List.all_eq_true.mp h2 y hy), of_decide_eq_true h3, fun e => by rw [e] at h4; cases h4⟩, Option.isNone_iff_eq_none.mp h5⟩
  | _ => first | exact .inl ⟨h, rfl⟩ | cases h
def okB (z : Str) : Bool := decide (z.length ≤ 200) && (wordsOf z).all (fun y => decide (y.length ≤ 200)) && decide ((wordsOf z).length ≤ 200) && !(wordsOf z).isEmpty
theorem okB_txt {z : Str} (h : okB z = true) : TxtOk z := by
  unfold okB at h
  rw [Bool.and_eq_true, Bool.and_eq_true, Bool.and_eq_true] at h
  obtain ⟨⟨⟨h1, h2⟩, h3⟩, h4⟩ := h
  exact ⟨of_decide_eq_true h1, fun y hy => of_decide_eq_true (List.all_eq_true.mp h2 y hy), of_decide_eq_true h3, fun e => by rw [e] at h4; cases h4⟩
def wrongs : List V := [.str "4/2", .str "3/1", .str "", .str "1/0", .str "-0", .str "01", .str "1/-2", .str " 1", .str "+1", .str "1/02", .str "0/5", .str "a", .str "1/", .str "/2", .str "1/2/3", .str "--1", .non, .int 3, .bl true]
theorem wrongs_all : wrongs.all wrongB = true := by decide +kernel
section
variable {σ : L2.St} {H : Hp} {x y : Int} {z : Str}
theorem er_read (k : TxtOk z) (e : termsOf z = some (x, y)) (hy : y ≠ 0) (ly : Lo y) : EvR T (ClX.tCMeth T.aRatio (spReadN T) E0 (tC (.ref T.aRatio)) (tCons (tC (.str z)) tNil)) σ H (nT x y) (nB x y) := fun H1 Q s q =>
  ⟨rfl, z, x, y, rfl, k, e, hy, ly, q⟩
theorem er_readK {ks : List Str} (hk : ks.length = 1) (k : TxtOk z) (e : termsOf z = some (x, y)) (hy : y ≠ 0) (ly : Lo y) : EvR T (tCMethK T.aRatio ks.length (spReadN T) (fun vs zs => vs ++ zs) E0 (tC (.ref T.aRatio)) (tCons (tC (.str z)) tNil)) σ H (nT x y) (nB x y) := fun H1 Q s q =>
  ⟨rfl, hk.symm, z, x, y, rfl, k, e, hy, ly, q⟩
end
theorem eqv_flatT {H : Hp} {a b : Addr} {xs : List V} {k : Nat} (ha : SqT K H a xs) (hb : SqT K H b xs) (hs : xs.all isSc = true) (hl : xs.length ≤ 1000) : Eqv K H (k + 1) (.ref a) (.ref b) :=
  .inr ⟨a, b, xs, xs, rfl, rfl, .inr ⟨ha, hb⟩, rfl, hl, fun i x y h1 h2 => by
    cases h1.symm.trans h2
    exact Eqv.sc (List.all_eq_true.mp hs x (List.mem_of_getElem? h1)) k⟩
end
end Rd
set_option maxHeartbeats 4000000
namespace Rd
open PySem PySem.Spec PyProof.Rows L2 L2H HotX
section
variable {P : Program} {w : World} {K : PySem.W.Frag} {mg : Str → Option Value} {base : Heap} {T : Txt K mg}
theorem go_asg {te : TE} {g : TG} {u : TS} {D : Ends} {σ : L2.St} {H : Hp} (h : te σ H (fun x H1 => g x σ H1 (u D))) : tSeq (tAsg te g) u D σ H := h
theorem go_if {c : TT} {t e u : TS} {D : Ends} {σ : L2.St} {H : Hp} (h : c σ H (fun b H1 => if b = true then t { D with nx := u D } σ H1 else e { D with nx := u D } σ H1)) : tSeq (tIfS c t e) u D σ H := h
theorem go_nx {D : Ends} {σ : L2.St} {H : Hp} (h : D.nx σ H) : tNext D σ H := h
theorem le_line {n : Nat} (h : n ≤ 100) : n ≤ sizeLine := by rw [sizeLine_eq]; omega
theorem go_tup2 {ta tb : TE} {σ : L2.St} {H : Hp} {Q : VK} (h : ta σ H fun x H1 => tb σ H1 fun y H2 => 2 ≤ sizeLine ∧ ∀ p, H2 p = none → Q (.ref p) (upd H2 p (.tup [x, y]))) : tTup (tCons ta (tCons tb tNil)) σ H Q := h
theorem go_tup3 {ta tb tc : TE} {σ : L2.St} {H : Hp} {Q : VK} (h : ta σ H fun x H1 => tb σ H1 fun y H2 => tc σ H2 fun z H3 => 3 ≤ sizeLine ∧ ∀ p, H3 p = none → Q (.ref p) (upd H3 p (.tup [x, y, z]))) : tTup (tCons ta (tCons tb (tCons tc tNil))) σ H Q := h
theorem en_ne {i : Nat} {x k : Int} {tc : TE} {σ : L2.St} {H : Hp} (h : σ[i]? = some (some (.int x))) (hc : EvI tc σ H k) (hk : k ≠ 0 ∧ -(10 ^ 9) ≤ k ∧ k ≤ 10 ^ 9) (hx : -(10 ^ 9) ≤ x ∧ x ≤ 10 ^ 9) (Q : VK)
    (q : ∀ y : Int, y ≠ 0 → -(10 ^ 9) ≤ y → y ≤ 10 ^ 9 → Q (.int y) H) : tIf (tTest (tOp rNe (tVar i) (tC (.int 0)))) (tVar i) tc σ H Q := by
  refine ⟨_, h, rfl, _, rfl, ?_⟩
  rw [int_dec]
  by_cases e : x = 0
  · rw [decide_eq_true e]
    exact hc H _ (.refl _) (q k hk.1 hk.2.1 hk.2.2)
  · rw [decide_eq_false e]
    exact ⟨_, h, q x e hx.1 hx.2⟩
theorem IsR.go {H H' : Hp} {b r : Addr} {x y : Int} (h : IsR T H r x y) (hB : Bag H b) (g : Go b H H') : IsR T H' r x y := by
  obtain ⟨d, e⟩ := h
  refine ⟨d, g.2 _ _ (fun z => ?_) e⟩
  obtain ⟨ys, eb⟩ := hB.some
  rw [z, eb] at e
  cases e
theorem IsR.put {H : Hp} {l r : Addr} {ys : List V} {o : HO} {x y : Int} (h : IsR T H r x y) (e : H l = some (.lst ys)) : IsR T (upd H l o) r x y := by
  obtain ⟨d, er⟩ := h
  exact ⟨d, by rw [upd_ne fun w => by rw [w, e] at er; cases er]; exact er⟩
/-- a number of at most a thousand million -/
def B9 (x : Int) : Prop := -(10 ^ 9) ≤ x ∧ x ≤ 10 ^ 9
theorem B9.abs {x y : Int} (h : B9 x) (k : y.natAbs ≤ x.natAbs) : B9 y := by unfold B9 at *; omega
theorem B9.lo {x : Int} (h : B9 x) : Lo x := by unfold B9 at h; unfold Lo; omega
theorem B9.mul {x y : Int} (h : B9 x) (k : B9 y) : -(10 ^ 18) ≤ x * y ∧ x * y ≤ 10 ^ 18 := by
  have h1 : x.natAbs ≤ 10 ^ 9 := by unfold B9 at h; omega
  have h2 : y.natAbs ≤ 10 ^ 9 := by unfold B9 at k; omega
  have h3 : (x * y).natAbs ≤ 10 ^ 18 := by
    rw [Int.natAbs_mul]
    calc x.natAbs * y.natAbs ≤ 10 ^ 9 * 10 ^ 9 := Nat.mul_le_mul h1 h2
      _ = 10 ^ 18 := by decide
  omega
theorem ok_law (T : Txt K mg) {ct Pt : Addr} (TB : LamX.TabB base mg ct Pt) (hc : T.d_law.fd.code = .ref ct) : FnOk P w K mg base CX0 12 T.d_law.f T.d_law.fd ["_law_script"] (spLaw K Pt) := by
  refine Fun.okC T.d_law.F sc_law (fun vs H Q E h => ?_) (fun cdv A outer s H vs Q E hcode hr h => ?_)
  · obtain ⟨a, ns, rfl, _⟩ := h
    rfl
  · obtain ⟨a, ns, rfl, hS, hl, hT, q⟩ := h
    rw [hc] at hcode
    subst hcode
    obtain ⟨ds, vd1, bd1⟩ := T.bd1
    refine ⟨(lawS T TB A outer s H E ds vd1 bd1 hr).1, (lawS T TB A outer s H E ds vd1 bd1 hr).2, ?_⟩
    have c := T.kRatio
    refine ⟨.ref a, rfl, a, ns, rfl, hS, hl, fun b H1 nb s1 hB => ?_⟩
    have hT1 : TabF H1 Pt lamQ := hT.same s1
    dsimp only [gName]
    refine ⟨5, rfl, by decide, by decide, for_range (n := 5) (fun i σ H3 => Bag H3 b ∧ TabF H3 Pt lamQ ∧ ∃ v2 v3 v4 v5 v6 v7 v8 v9 v10 v11 v12 v13 v14 v15 v16 v17 v18, σ = [some (.ref a), some (.ref b), v2, v3, v4, v5, v6, v7, v8, v9, v10, v11, v12, v13, v14, v15, v16, v17, v18]) ⟨hB, hT1, none, none, none, none, none, none, none, none, none, none, none, none, none, none, none, none, none, rfl⟩ ?_ ?_⟩
    · rintro i σ H3 hi ⟨hB3, hT3, v2, v3, v4, v5, v6, v7, v8, v9, v10, v11, v12, v13, v14, v15, v16, v17, v18, rfl⟩
      dsimp only [gName]
      refine ⟨.ref b, rfl, b, rfl, hB3, fun n1 H4 g4 l1 k1 => ⟨.ref b, rfl, b, rfl, g4.1, fun n2 H5 g5 l2 k2 => ⟨.ref b, rfl, b, rfl, g5.1, fun n3 H6 g6 l3 k3 => ⟨.ref b, rfl, b, rfl, g6.1, fun n4 H7 g7 l4 k4 => ⟨by show 4 ≤ sizeLine; rw [sizeLine_eq]; decide, fun p np => ?_⟩⟩⟩⟩⟩
      refine ⟨p, _, rfl, SqT.of upd_same, rfl, .int n1, _, rfl, .int n2, _, rfl, .int n3, _, rfl, .int n4, _, rfl, rfl, ?_⟩
      have g8 : Go b H3 (upd H7 p (.tup [.int n1, .int n2, .int n3, .int n4])) := (((g4.trans g5).trans g6).trans g7).new np
      generalize upd H7 p (.tup [.int n1, .int n2, .int n3, .int n4]) = H8 at g8
      refine en_ne (x := n2) (k := 1) rfl ei_c (by decide) ⟨l2, k2⟩ _ fun bo hb lb kb => en_ne (x := n4) (k := -3) rfl (ei_neg ei_c) (by decide) ⟨l4, k4⟩ _ fun dO hd ld kd => ⟨by show 2 ≤ sizeLine; rw [sizeLine_eq]; decide, fun p2 np2 => ?_⟩
      refine ⟨p2, _, rfl, SqT.of upd_same, rfl, .int bo, _, rfl, .int dO, _, rfl, rfl, ?_⟩
      have g9 := g8.new (o := .tup [.int bo, .int dO]) np2
      generalize upd H8 p2 (.tup [.int bo, .int dO]) = H9 at g9
      dsimp only [gName, List.set]
      have lob : Lo bo := by unfold Lo; omega
      have lod : Lo dO := by unfold Lo; omega
      refine go_asg (go_tup2 ?_)
      refine er_make (T := T) (ei_v (by rfl)) (ei_v (by rfl)) hb (sm_lo lob) H9 _ (.refl _) fun r1 HA sA iA => ?_
      refine er_makeK (T := T) rfl (ei_v (by rfl)) (ei_v (by rfl)) hd (sm_lo lod) HA _ (.refl _) fun r2 HB sB iB => ?_
      refine ⟨le_line (by decide), fun p3 np3 => ?_⟩
      refine ⟨p3, _, rfl, SqT.of upd_same, rfl, .ref r1, _, rfl, .ref r2, _, rfl, rfl, ?_⟩
      have sC := same_new (o := .tup [.ref r1, .ref r2]) np3
      have i1 := (iA.same sB).same sC
      have i2 := iB.same sC
      have gC := g9.same ((sA.trans sB).trans sC)
      generalize upd HB p3 (.tup [.ref r1, .ref r2]) = HC at i1 i2 gC
      dsimp only [gName, List.set]
      refine go_asg (go_tup3 ?_)
      refine et_plain (T := T) (ei_v (by rfl)) (ei_v (by rfl)) hb (by unfold Lo; omega) lob HC _ (.refl _) fun t1 HD sD eD => ?_
      refine et_plain (T := T) (ei_v (by rfl)) (ei_v (by rfl)) hd (by unfold Lo; omega) lod HD _ (.refl _) fun t2 HE sE eE => ?_
      refine ⟨.ref b, rfl, b, rfl, (gC.same (sD.trans sE)).1, fun n HF gF l5 k5 => ⟨le_line (by decide), fun p4 np4 => ?_⟩⟩
      have sG := same_new (o := .tup [.ref t1, .ref t2, .int n]) np4
      have ntup : ∀ {x : Addr} {xs : List V} {G : Hp}, Bag G b → G x = some (.tup xs) → x ≠ b := fun hB e z => by
        obtain ⟨ys, eb⟩ := hB.some
        rw [z, eb] at e
        cases e
      have bE := (gC.same (sD.trans sE)).1
      have gG := ((gC.same (sD.trans sE)).trans gF).new (o := .tup [.ref t1, .ref t2, .int n]) np4
      have eD := sG _ _ (gF.2 _ _ (ntup bE (sE _ _ eD)) (sE _ _ eD))
      have eE := sG _ _ (gF.2 _ _ (ntup bE eE) eE)
      have i1 := (((i1.same sD).same sE).go bE gF).same sG
      have i2 := (((i2.same sD).same sE).go bE gF).same sG
      refine ⟨p4, _, rfl, SqT.of upd_same, rfl, .ref t1, _, rfl, t1, _, rfl, SqT.of eD, rfl, .int _, _, rfl, .int _, _, rfl, rfl, .ref t2, _, rfl, t2, _, rfl, SqT.of eE, rfl, .int _, _, rfl, .int _, _, rfl, rfl, .int n, _, rfl, rfl, ?_⟩
      dsimp only [gName, List.set]
      generalize upd HF p4 (.tup [.ref t1, .ref t2, .int n]) = HG at gG eD eE i1 i2
      have rA : Red (nT n1 bo) (nB n1 bo) := norm_red hb
      have rC : Red (nT n3 dO) (nB n3 dO) := norm_red hd
      have bA : B9 (nT n1 bo) := B9.abs (x := n1) ⟨l1, k1⟩ (nT_le hb)
      have bB : B9 (nB n1 bo) := B9.abs (x := bo) ⟨lb, kb⟩ (nB_le hb)
      have bC : B9 (nT n3 dO) := B9.abs (x := n3) ⟨l3, k3⟩ (nT_le hd)
      have bD : B9 (nB n3 dO) := B9.abs (x := dO) ⟨ld, kd⟩ (nB_le hd)
      have bN : B9 n := ⟨l5, k5⟩
      clear eD eE sG np4
      generalize nT n1 bo = va at *
      generalize nB n1 bo = vb at *
      generalize nT n3 dO = vc at *
      generalize nB n3 dO = vd at *
      clear iA iB
      obtain ⟨ba1, ba2⟩ := id bA
      obtain ⟨bb1, bb2⟩ := id bB
      obtain ⟨bc1, bc2⟩ := id bC
      obtain ⟨bd1', bd2'⟩ := id bD
      obtain ⟨bn1, bn2⟩ := id bN
      have m1 := bA.mul bD
      have m2 := bC.mul bB
      have m3 := bB.mul bD
      have m4 := bA.mul bC
      have m5 := bN.mul bB
      have m6 := bN.mul bA
      have hy : vb ≠ 0 := Int.ne_of_gt rA.pos
      have hu : vd ≠ 0 := Int.ne_of_gt rC.pos
      have hyu : vb * vd ≠ 0 := Int.mul_ne_zero hy hu
      have k12 : Ok4 va vb vc vd := ⟨bA.lo, bB.lo, bC.lo, bD.lo, hy, hu⟩
      have k1n : Ok4 va vb n 1 := ⟨bA.lo, bB.lo, bN.lo, by unfold Lo; decide, hy, by decide⟩
      have k10 : Ok4 va vb 0 1 := ⟨bA.lo, bB.lo, by unfold Lo; decide, by unfold Lo; decide, hy, by decide⟩
      have M : ∀ {x : Int}, -(10 ^ 18) - 10 ^ 18 ≤ x ∧ x ≤ 10 ^ 18 + 10 ^ 18 → Lo x := fun h => by unfold Lo; omega
      refine go_asg ?_
      refine el_lst (T := T) (eps_cons (ep_pair (er_v (by rfl) i1) (et_tup (ei_v (by rfl)) (ei_v (by rfl))) rA bA.lo bB.lo) (eps_cons (ep_pair (er_v (by rfl) i2) (et_tup (ei_v (by rfl)) (ei_v (by rfl))) rC bC.lo bD.lo)
        (eps_cons (ep_calc (er_add (er_v (by rfl) i1) (er_v (by rfl) i2).o k12) (et_plain (ei_add (ei_mul (ei_v (by rfl)) (ei_v (by rfl)) bA.lo) (ei_mul (ei_v (by rfl)) (ei_v (by rfl)) bC.lo)) (ei_mul (ei_v (by rfl)) (ei_v (by rfl)) bB.lo) hyu (M (by omega)) (M (by omega))) hyu (M (by omega)) (M (by omega)))
        (eps_cons (ep_calc (er_sub (er_v (by rfl) i1) (er_v (by rfl) i2).o k12 rC) (et_plain (ei_sub (ei_mul (ei_v (by rfl)) (ei_v (by rfl)) bA.lo) (ei_mul (ei_v (by rfl)) (ei_v (by rfl)) bC.lo)) (ei_mul (ei_v (by rfl)) (ei_v (by rfl)) bB.lo) hyu (M (by omega)) (M (by omega))) hyu (M (by omega)) (M (by omega))) eps_nil)))) (by decide) HG _ (.refl _) fun q1 vs1 H10 s10 nq1 e10 ln1 ps1 => ?_
      dsimp only [gName, List.set]
      replace i1 := i1.same s10
      replace i2 := i2.same s10
      refine go_asg ?_
      refine el_cat (T := T) (by rfl) e10 ln1 ps1 (el_lst (eps_cons (ep_calc (er_mul (er_v (by rfl) i1) (er_v (by rfl) i2).o k12) (et_plain (ei_mul (ei_v (by rfl)) (ei_v (by rfl)) bA.lo) (ei_mul (ei_v (by rfl)) (ei_v (by rfl)) bB.lo) hyu (M (by omega)) (M (by omega))) hyu (M (by omega)) (M (by omega)))
        (eps_cons (ep_pair ((er_rsub ei_c (er_v (by rfl) i1) k10 rA).eq (z := 0 - va) (u := vb) (by rw [Int.zero_mul, Int.mul_one, Int.mul_one, Int.zero_sub]; exact (norm_of_red (red_neg rA)).1) (by rw [Int.zero_mul, Int.mul_one, Int.mul_one, Int.zero_sub]; exact (norm_of_red (red_neg rA)).2)) (et_tup (ei_sub ei_c (ei_v (by rfl))) (ei_v (by rfl))) (by rw [Int.zero_sub]; exact red_neg rA) (by have := bA.lo; unfold Lo at *; omega) bB.lo)
        (eps_cons (ep_pair ((er_neg (er_v (by rfl) i2) rC bD.lo).eq (z := 0 - vc) (u := vd) (by omega) rfl) (et_tup (ei_sub ei_c (ei_v (by rfl))) (ei_v (by rfl))) (by rw [Int.zero_sub]; exact red_neg rC) (by have := bC.lo; unfold Lo at *; omega) bD.lo)
        (eps_cons (ep_pair (er_abs (er_v (by rfl) i2) rC bD.lo) (et_tup (ei_abs (ei_v (by rfl))) (ei_v (by rfl))) (by rw [abs_val]; exact red_abs rC) (by have := bC.lo; unfold Lo at *; split <;> omega) bD.lo) eps_nil)))) (by decide)) (by decide) (by decide) H10 _ (.refl _) fun q2 vs2 H11 s11 nq2 e11 ln2 ps2 => ?_
      dsimp only [gName, List.set]
      replace i1 := i1.same s11
      replace i2 := i2.same s11
      refine go_asg ?_
      refine el_cat (T := T) (by rfl) e11 ln2 ps2 (el_lst (eps_cons (ep_calc ((er_add (er_v (by rfl) i1) (EvI.o (ei_v (by rfl))) k1n).eq (z := nT (va + n * vb) vb) (u := nB (va + n * vb) vb) (by rw [Int.mul_one, Int.mul_one]) (by rw [Int.mul_one, Int.mul_one])) (et_plain (ei_add (ei_v (by rfl)) (ei_mul (ei_v (by rfl)) (ei_v (by rfl)) bN.lo)) (ei_v (by rfl)) hy (M (by omega)) bB.lo) hy (M (by omega)) bB.lo)
        (eps_cons (ep_calc ((er_radd (ei_v (by rfl)) (er_v (by rfl) i1) k1n).eq (z := nT (va + n * vb) vb) (u := nB (va + n * vb) vb) (by rw [Int.mul_one, Int.mul_one]) (by rw [Int.mul_one, Int.mul_one])) (et_plain (ei_add (ei_v (by rfl)) (ei_mul (ei_v (by rfl)) (ei_v (by rfl)) bN.lo)) (ei_v (by rfl)) hy (M (by omega)) bB.lo) hy (M (by omega)) bB.lo)
        (eps_cons (ep_calc ((er_sub (er_v (by rfl) i1) (EvI.o (ei_v (by rfl))) k1n (red_int n)).eq (z := nT (va - n * vb) vb) (u := nB (va - n * vb) vb) (by rw [Int.mul_one, Int.mul_one]) (by rw [Int.mul_one, Int.mul_one])) (et_plain (ei_sub (ei_v (by rfl)) (ei_mul (ei_v (by rfl)) (ei_v (by rfl)) bN.lo)) (ei_v (by rfl)) hy (M (by omega)) bB.lo) hy (M (by omega)) bB.lo) eps_nil))) (by decide)) (by decide) (by decide) H11 _ (.refl _) fun q3 vs3 H12 s12 nq3 e12 ln3 ps3 => ?_
      dsimp only [gName, List.set]
      replace i1 := i1.same s12
      replace i2 := i2.same s12
      refine go_asg ?_
      refine el_cat (T := T) (by rfl) e12 ln3 ps3 (el_lst (eps_cons (ep_calc ((er_rsub (ei_v (by rfl)) (er_v (by rfl) i1) k1n rA).eq (z := nT (n * vb - va) vb) (u := nB (n * vb - va) vb) (by rw [Int.mul_one, Int.mul_one]) (by rw [Int.mul_one, Int.mul_one])) (et_plain (ei_sub (ei_mul (ei_v (by rfl)) (ei_v (by rfl)) bN.lo) (ei_v (by rfl))) (ei_v (by rfl)) hy (M (by omega)) bB.lo) hy (M (by omega)) bB.lo)
        (eps_cons (ep_calc ((er_rmul (ei_v (by rfl)) (er_v (by rfl) i1) k1n).eq (z := nT (n * va) vb) (u := nB (n * va) vb) (by rw [Int.mul_comm va n, Int.mul_one]) (by rw [Int.mul_comm va n, Int.mul_one])) (et_plain (ei_mul (ei_v (by rfl)) (ei_v (by rfl)) bN.lo) (ei_v (by rfl)) hy (M (by omega)) bB.lo) hy (M (by omega)) bB.lo)
        (eps_cons (ep_calc ((er_mul (er_v (by rfl) i1) (EvI.o (ei_v (by rfl))) k1n).eq (z := nT (n * va) vb) (u := nB (n * va) vb) (by rw [Int.mul_comm va n, Int.mul_one]) (by rw [Int.mul_comm va n, Int.mul_one])) (et_plain (ei_mul (ei_v (by rfl)) (ei_v (by rfl)) bN.lo) (ei_v (by rfl)) hy (M (by omega)) bB.lo) hy (M (by omega)) bB.lo)
        (eps_cons (ep_pair (er_make1 (ei_v (by rfl))) (et_tup (ei_v (by rfl)) ei_c) (red_int n) bN.lo (by unfold Lo; decide)) eps_nil)))) (by decide)) (by decide) (by decide) H12 _ (.refl _) fun q4 vs4 H13 s13 nq4 e13 ln4 ps4 => ?_
      dsimp only [gName, List.set]
      replace i1 := i1.same s13
      replace i2 := i2.same s13
      have s13 : Same HG H13 := ((s10.trans s11).trans s12).trans s13
      have ne13 : HG q4 = none := ((s10.trans s11).trans s12).free nq4
      refine ⟨fun σ' H' => σ' = [some (.ref a), some (.ref b), some (.int (0 + i)), some (.int vb), some (.int vc), some (.ref r2), some (.int n), some (.ref q4), v8, v9, v10, v11, v12, some (.int va), some (.int vd), some (.ref r1), v16, v17, v18] ∧ Same HG H' ∧ IsR T H' r1 va vb ∧ IsR T H' r2 vc vd ∧ ∃ vs, H' q4 = some (.lst vs) ∧ vs.length ≤ 50 ∧ ∀ v ∈ vs, Pr T H' v, ?_, ?_⟩
      · refine ⟨.int vc, rfl, rfl, _, rfl, ?_⟩
        rw [int_dec]
        by_cases hz : vc = 0
        · rw [decide_eq_true hz]
          exact ⟨rfl, s13, i1, i2, _, e13, by omega, ps4⟩
        · rw [decide_eq_false hz]
          have hyz : vb * vc ≠ 0 := Int.mul_ne_zero hy hz
          have m7 := bB.mul bC
          refine ⟨.ref q4, rfl, .inl ⟨rfl, _, SqL.of e13⟩, ?_⟩
          have ep : EvP T (tTup (tCons (tMethFE T.sR (Str.ofString "over") (sp_overN T) E0 (tVar 15) (tCons (tVar 5) tNil)) (tCons (tCall (spPlain T) [] E0 (tCons (tOp (rI CMul fun i j => V.int (i * j)) (tVar 13) (tVar 14)) (tCons (tOp (rI CMul fun i j => V.int (i * j)) (tVar 3) (tVar 4)) tNil))) tNil)))
            [some (.ref a), some (.ref b), some (.int (0 + i)), some (.int vb), some (.int vc), some (.ref r2), some (.int n), some (.ref q4), v8, v9, v10, v11, v12, some (.int va), some (.int vd), some (.ref r1), v16, v17, v18] H13 :=
            ep_calc (er_over (er_v rfl i1) (er_v rfl i2).o k12 hz) (et_plain (ei_mul (ei_v rfl) (ei_v rfl) bA.lo) (ei_mul (ei_v rfl) (ei_v rfl) bB.lo) hyz (M (by omega)) (M (by omega))) hyz (M (by omega)) (M (by omega))
          refine ep H13 _ (.refl _) fun v HX sX pX => ?_
          have eX := sX _ _ e13
          refine ⟨q4, _, v, rfl, rfl, eX, by rw [sizeLine_eq]; omega, rfl, fun x o e => by rw [upd_ne (ne_of_none e ne13)]; exact sX _ _ (s13 _ _ e), ?_, ?_, _, upd_same, by rw [List.length_append, List.length_singleton]; omega, fun u hu => ?_⟩
          · exact (i1.same sX).put eX
          · exact (i2.same sX).put eX
          · rcases List.mem_append.mp hu with hu | hu
            · exact Pr.put eX ((ps4 u hu).same sX)
            · rw [List.mem_singleton.mp hu]; exact Pr.put eX pX
      rintro σ0 H14 ⟨rfl, sG14, i1, i2, vs5, e14, ln5, ps5⟩
      refine go_if ?_
      refine ⟨.ref q4, rfl, q4, rfl, ⟨_, SqL.of e14⟩, fun D nD => lc_it (walk_list (xs := vs5)) (fun i H2 => Same H14 H2 ∧ H2 D = some (.lst [])) ⟨same_new nD, upd_same⟩ (fun i H2 _ h => SqL.of (h.1 _ _ e14)) ?_ ?_⟩
      · rintro i x H2 H3 hi ⟨sm, eD⟩ ⟨rfl, hx⟩
        obtain ⟨pp, pr, pt, px, py, rfl, ep, ir, et, rd, lx, ly⟩ := (ps5 _ (List.mem_of_getElem? hx)).same sm
        refine ⟨rfl, .ref pp, rfl, pp, _, 0, _, rfl, rfl, SqT.of ep, rfl, .ref pp, rfl, pp, _, 1, _, rfl, rfl, SqT.of ep, rfl, pr, pt, px, py, rfl, ir, et, rd, lx, ly, fun H4 s4 => ⟨_, rfl, iteF ⟨sm.trans s4, s4 _ _ eD⟩⟩⟩
      rintro H15 ⟨s15, eD⟩
      refine ⟨Nat.zero_le _, fun p5 np5 => ⟨_, _, .lst (SqL.of (same_new np5 _ _ eD)) .nil, .lst (SqL.of upd_same) .nil, rfl, rfl, _, rfl, iteF ?_⟩⟩
      have s16 := s15.trans (same_new (o := .lst []) np5)
      replace i1 := i1.same s16
      replace i2 := i2.same s16
      replace sG14 := sG14.trans s16
      clear s16 eD e14 ps5 ln5
      generalize upd H15 p5 (.lst []) = H16 at i1 i2 sG14
      obtain ⟨nr1, nr2⟩ := norm_of_red rA
      refine go_nx ?_
      dsimp only
      refine go_asg ?_
      refine ew_lst (evs_cons (ev_floor (T := T) (er_v (by rfl) i1) hy bB.lo) (evs_cons (ev_ceil (T := T) (er_v (by rfl) i1) hy bB.lo) (evs_cons (ev_eqR (er_v (by rfl) i1) (er_v (by rfl) i2)) (evs_cons (ev_neR (er_v (by rfl) i1) (er_v (by rfl) i2)) (evs_cons (ev_eqI (er_v (by rfl) i1) (ei_v (by rfl))) (evs_cons (ev_bool (er_v (by rfl) i1))
        (evs_cons ((ev_eqR ((er_make (ei_v (by rfl)) (ei_v (by rfl)) hy (sm_lo bB.lo)).eq nr1 nr2) (er_v (by rfl) i1)).eq (w := .bl true) (by rw [decide_eq_true rfl, decide_eq_true rfl]; rfl)) (evs_cons (ev_eqS (er_v (by rfl) i1) (er_v (by rfl) i1) bA.lo bB.lo) evs_nil)))))))) (by show 8 ≤ 100; decide) H16 _ (.refl _) fun l8 H17 s17 e17 => ?_
      dsimp only [gName, List.set]
      replace i1 := i1.same s17
      replace i2 := i2.same s17
      refine go_ifnot ?_
      refine ev_like (k := 1) (ew_v (by rfl) e17) (ew_lst (evs_cons (EvI.val (ei_fdiv (ei_v (by rfl)) (ei_v (by rfl)) hy (sm_lo bB.lo))) (evs_cons ((ev_sub ev_c (EvI.val (ei_fdiv (ei_sub ei_c (ei_v (by rfl))) (ei_v (by rfl)) hy (sm_lo bB.lo)))).eq (by rw [Int.zero_sub, Int.zero_sub])) (evs_cons (ev_eqD (ei_v (by rfl)) (ei_v (by rfl)) (ei_v (by rfl)) (ei_v (by rfl))) (evs_cons (ev_neD (ei_v (by rfl)) (ei_v (by rfl)) (ei_v (by rfl)) (ei_v (by rfl)))
        (evs_cons ((ev_eqD (ei_v (by rfl)) (ei_v (by rfl)) (ei_v (by rfl)) ei_c).eq (by rw [Bool.and_comm])) (evs_cons (ev_ne (ei_v (by rfl)) ei_c) (evs_cons ev_c (evs_cons ev_c evs_nil)))))))) (by show 8 ≤ 100; decide)) rfl (by show 8 ≤ 100; decide) H17 _ (.refl _) fun H18 s18 => ⟨_, rfl, iteF (go_nx ?_)⟩
      dsimp only
      replace i1 := i1.same s18
      replace i2 := i2.same s18
      refine go_asg ?_
      refine ew_lst (evs_cons ((ev_sub (ev_intb (ev_gt (ei_mul (ei_v (by rfl)) (ei_v (by rfl)) bA.lo) (ei_mul (ei_v (by rfl)) (ei_v (by rfl)) bC.lo))) (ev_intb (ev_lt (ei_mul (ei_v (by rfl)) (ei_v (by rfl)) bA.lo) (ei_mul (ei_v (by rfl)) (ei_v (by rfl)) bC.lo)))).eq (w := .int (sgn (va * vd - vc * vb))) (by rw [sgn_bool])) (evs_cons ((ev_sub (ev_intb (ev_gt (ei_v (by rfl)) (ei_mul (ei_v (by rfl)) (ei_v (by rfl)) bN.lo))) (ev_intb (ev_lt (ei_v (by rfl)) (ei_mul (ei_v (by rfl)) (ei_v (by rfl)) bN.lo)))).eq (w := .int (sgn (va - n * vb))) (by rw [sgn_bool])) evs_nil)) (by show 2 ≤ 100; decide) H18 _ (.refl _) fun l9 H19 s19 e19 => ?_
      dsimp only [gName, List.set]
      replace i1 := i1.same s19
      replace i2 := i2.same s19
      refine go_ifnot ?_
      refine ev_like (k := 1) (ew_lst (evs_cons (ev_compare (er_v (by rfl) i1) (er_v (by rfl) i2).o bA.lo bB.lo bC.lo bD.lo) (evs_cons ((ev_compare (er_v (by rfl) i1) (EvI.o (ei_v (by rfl))) bA.lo bB.lo bN.lo (by unfold Lo; decide)).eq (w := .int (sgn (va - n * vb))) (by rw [Int.mul_one])) (evs_cons ((ev_compare (er_v (by rfl) i2) (er_v (by rfl) i1).o bC.lo bD.lo bA.lo bB.lo).eq (w := .int (0 - sgn (va * vd - vc * vb))) (by rw [sgn_neg])) evs_nil))) (by show 3 ≤ 100; decide))
        (ew_cat (ew_v (by rfl) e19) (ew_lst (evs_cons (ev_sub ev_c (ev_at (ew_v (by rfl) e19) (by rfl))) evs_nil) (by show 1 ≤ 100; decide)) (by show 3 ≤ 100; decide)) rfl (by show 3 ≤ 100; decide) H19 _ (.refl _) fun H20 s20 => ⟨_, rfl, iteF (go_nx ?_)⟩
      dsimp only
      replace i1 := i1.same s20
      replace i2 := i2.same s20
      replace e19 := s20 _ _ e19
      refine go_ifor (p := !decide (vc = 0)) ((ev_neV (ev_compareK rfl (er_v (by rfl) i1) (er_v (by rfl) i2).o bA.lo bB.lo bC.lo bD.lo) (ev_at (ew_v (by rfl) e19) (by rfl))).eq (by rw [decide_eq_true rfl]; rfl)) (ev_ne (ei_v (by rfl)) ei_c) (fun hp => (ev_neR (er_overK rfl (er_v (by rfl) i1) (er_v (by rfl) i2).o k12 (by simpa using hp)) (er_over (er_v (by rfl) i1) (er_v (by rfl) i2).o k12 (by simpa using hp))).eq (by rw [decide_eq_true rfl, decide_eq_true rfl]; rfl)) fun H21 s21 => ?_
      replace i1 := i1.same s21
      replace i2 := i2.same s21
      have hf1 : ∀ {z : Int}, z ≠ 0 → Lo z → vb * z ≠ 0 := fun h _ => Int.mul_ne_zero hy h
      have k1n' := k1n
      refine go_asg ?_
      refine ew_lst (evs_cons (ev_if0 (v := .int (if vc = 0 then 0 else (va * vd).fdiv (vb * vc))) (by rfl) (fun h => (ev_fdiv (er_v (by rfl) i1) (er_v (by rfl) i2).o k12 h).eq (by rw [if_neg h])) (fun h => by rw [if_pos h])) (evs_cons (ev_if0 (v := .int (if n = 0 then 0 else va.fdiv (vb * n))) (by rfl) (fun h => (ev_fdiv (er_v (by rfl) i1) (EvI.o (ei_v (by rfl))) k1n h).eq (by rw [if_neg h, Int.mul_one])) (fun h => by rw [if_pos h])) evs_nil)) (by show 2 ≤ 100; decide) H21 _ (.refl _) fun l10 H22 s22 e22 => ?_
      dsimp only [gName, List.set]
      replace i1 := i1.same s22
      replace i2 := i2.same s22
      refine go_ifnot ?_
      refine ev_like (k := 1) (ew_v (by rfl) e22) (ew_lst (evs_cons (ev_if0 (by rfl) (fun h => (EvI.val (ei_fdiv (ei_mul (ei_mul (ei_v (by rfl)) (ei_v (by rfl)) bA.lo) (ei_sign (by rfl)) (M (by omega))) (ei_mul (ei_v (by rfl)) (ei_abs (ei_v (by rfl))) bB.lo) (Int.mul_ne_zero hy (by split <;> omega)) (sm_mul bB.lo (by have := bC.lo; unfold Lo at *; split <;> omega)))).eq (by rw [fdiv_sign _ _ _ h, if_neg h])) (fun h => by rw [if_pos h]))
        (evs_cons (ev_if0 (by rfl) (fun h => (EvI.val (ei_fdiv (ei_v (by rfl)) (ei_mul (ei_v (by rfl)) (ei_v (by rfl)) bB.lo) (Int.mul_ne_zero hy h) (sm_mul bB.lo bN.lo))).eq (by rw [if_neg h])) (fun h => by rw [if_pos h])) evs_nil)) (by show 2 ≤ 100; decide)) rfl (by show 2 ≤ 100; decide) H22 _ (.refl _) fun H23 s23 => ⟨_, rfl, iteF (go_nx ?_)⟩
      dsimp only
      replace i1 := i1.same s23
      replace i2 := i2.same s23
      have hTG := hT3.go hB3 gG
      have tA := hTG.same (sG14.trans ((((((s17.trans s18).trans s19).trans s20).trans s21).trans s22).trans s23))
      have sB0 := sG14.trans ((((((s17.trans s18).trans s19).trans s20).trans s21).trans s22).trans s23)
      refine go_asg ?_
      refine ⟨tA, fun f0 H24 k24 t24 n24 l24 => ⟨t24, fun f1 H25 k25 t25 n25 l25 => ⟨t25, fun f2 H26 k26 t26 n26 l26 => ⟨le_line (by show 3 ≤ 100; decide), fun la nla => ?_⟩⟩⟩⟩
      dsimp only [gName, List.set]
      have s27 := same_new (o := .lst [.ref f0, .ref f1, .ref f2]) nla
      have e27 : upd H26 la (.lst [.ref f0, .ref f1, .ref f2]) la = some (.lst [.ref f0, .ref f1, .ref f2]) := upd_same
      generalize upd H26 la (.lst [.ref f0, .ref f1, .ref f2]) = H27 at s27 e27
      have t27 := t26.same s27
      have k27 : KeepT H26 H27 := fun a o e _ => s27 _ _ e
      refine go_asg ?_
      refine ⟨.ref la, rfl, t27, fun f3 H28 k28 t28 n28 l28 => ⟨t28, fun f4 H29 k29 t29 n29 l29 => ⟨le_line (by show 2 ≤ 100; decide), fun lb nlb => ?_⟩⟩⟩
      have s30 := same_new (o := .lst [.ref f3, .ref f4]) nlb
      have e30 : upd H29 lb (.lst [.ref f3, .ref f4]) lb = some (.lst [.ref f3, .ref f4]) := upd_same
      dsimp only
      generalize upd H29 lb (.lst [.ref f3, .ref f4]) = H30 at s30 e30
      have t30 := t29.same s30
      have k30 : KeepT H29 H30 := fun a o e _ => s30 _ _ e
      have e27' := ((k28.trans k29).trans k30) _ _ e27 (fun _ z => by cases z)
      refine ⟨la, lb, _, _, rfl, rfl, e27', e30, le_line (by show 5 ≤ 100; decide), fun lc nlc => ?_⟩
      have s31 := same_new (o := .lst ([.ref f0, .ref f1, .ref f2] ++ [.ref f3, .ref f4])) nlc
      have e31 : upd H30 lc (.lst ([.ref f0, .ref f1, .ref f2] ++ [.ref f3, .ref f4])) lc = some (.lst [.ref f0, .ref f1, .ref f2, .ref f3, .ref f4]) := upd_same
      dsimp only [gName, List.set]
      generalize upd H30 lc (.lst ([.ref f0, .ref f1, .ref f2] ++ [.ref f3, .ref f4])) = H31 at s31 e31
      have t31 := t30.same s31
      have k31 : KeepT H30 H31 := fun a o e _ => s31 _ _ e
      have kA : KeepT H24 H31 := (((((k25.trans k26).trans k27).trans k28).trans k29).trans k30).trans k31
      have kB : KeepT H25 H31 := ((((k26.trans k27).trans k28).trans k29).trans k30).trans k31
      have kC : KeepT H26 H31 := (((k27.trans k28).trans k29).trans k30).trans k31
      have kD : KeepT H28 H31 := (k29.trans k30).trans k31
      have kE : KeepT H29 H31 := k30.trans k31
      have k0 : KeepT H23 H31 := k24.trans kA
      have i1' : IsR T H31 r1 va vb := let ⟨d, e⟩ := i1; ⟨d, k0 _ _ e (fun _ z => by cases z)⟩
      have hB31 : Bag H31 b := (gG.1.same sB0).keepT k0
      refine go_if1 ?_
      refine ⟨.ref lc, rfl, lc, rfl, ⟨_, SqL.of e31⟩, fun D nD Hz fz fv => ?_⟩
      have sZ : Same H31 Hz := (same_new nD).trans fz.same
      have eD : Hz D = some (.lst []) := fz.same _ _ upd_same
      have kz : Keeps H31 Hz := .same sZ
      have bd2 := T.bd2
      have iZ : ∀ {H' : Hp}, Same (upd H31 D (.lst [])) H' → IsR T H' r1 va vb := fun s => (i1'.same (same_new nD)).same s
      have z0 : DoesZ P w K mg base 7 Hz f0 := lam_zero (k := 6) fz fv cells_inj (l24.keep (kA.keeps.trans kz)) (free_ok rfl) (Nl := ["_law_a"]) (ps := []) (σl := [some (.int va)]) ⟨rfl, rfl, rfl, by decide +kernel, by decide +kernel, by decide +kernel⟩
          (hval1 13 rfl rfl rfl) rfl (fun _ => ⟨rfl, fun _ _ _ _ => rfl⟩) (fun h => absurd rfl h)
          (tb := fun E => tMake T.aRatio (spInitZ T) [] E (tCons (tVar 0) (tCons (tC (.int 0)) tNil)))
          (fun c' A outer s H' E hr => pe_make T.kRatio.made (ok_mr_initZ T) (hr.mono (by decide)) (by rfl) T.c_Ratio bd2 .nil (L2N.passes_call (L2N.takes_of rfl rfl rfl rfl) (fun _ _ _ _ h => h)) (pa_cons (pv 0) (pa_cons pe_int pa_nil)))
          (fun H Q E s he => ⟨.int va, rfl, fun x dx nx nd ne => ⟨x, dx, va, rfl, he none _ (fun b o e => by rw [upd_ne (ne_of_none e nx), upd_ne (ne_of_none e nd)]; exact e)⟩⟩)
      have lo0 : Lo 0 := by unfold Lo; decide
      have lo1 : Lo 1 := by unfold Lo; decide
      have z1 : DoesZ P w K mg base 7 Hz f1 := lam_zero (k := 6) fz fv cells_inj (l25.keep (kB.keeps.trans kz)) (free_ok rfl) (Nl := ["_law_one"]) (ps := ["_law_x"]) (σl := [some (.ref r1)]) ⟨rfl, rfl, rfl, by decide +kernel, by decide +kernel, by decide +kernel⟩
          (hval1 15 rfl rfl rfl) rfl (fun h => nomatch h) (fun _ A doc pm cv ctv its hl => ⟨_, rfl, match its, hl with | [_], _ => rfl⟩)
          (tb := fun E => tOp (rBin T.aRatio (sp_floordivZ T) E) (tVar 0) (tC (.int 0)))
          (fun c' A outer s H' E hr => pe_op (op_own T.o_floordiv (ok_mr_floordivZ T) (hr.mono (by decide)) T.mr_floordiv.b (L2N.passes_call (L2N.takes_of rfl rfl rfl rfl) (fun _ _ _ _ h => h))) (pv 0) pe_int)
          (fun H Q E s he => by
            obtain ⟨d, e⟩ := iZ s
            exact ⟨.ref r1, rfl, r1, d, _, rfl, e, .inr ⟨0, rfl⟩, r1, .int 0, va, vb, 0, 1, rfl, ⟨d, e⟩, .inr ⟨rfl, rfl⟩, bA.lo, bB.lo, lo0, lo1, hy, by decide, rfl, fun d H' s' => he d H' s'⟩)
      have z2 : DoesZ P w K mg base 7 Hz f2 := lam_zero (k := 6) fz fv cells_inj (l26.keep (kC.keeps.trans kz)) (free_ok rfl) (Nl := ["_law_one"]) (ps := ["_law_y"]) (σl := [some (.ref r1)]) ⟨rfl, rfl, rfl, by decide +kernel, by decide +kernel, by decide +kernel⟩
          (hval1 15 rfl rfl rfl) rfl (fun h => nomatch h) (fun _ A doc pm cv ctv its hl => ⟨_, rfl, match its, hl with | [_], _ => rfl⟩)
          (tb := fun E => tMethFE T.sR "over" (sp_overZ T) E (tVar 0) (tCons (tMake T.aRatio (spInitN T) [.int 1] E0 (tCons (tC (.int 0)) tNil)) tNil))
          (fun c' A outer s H' E hr => pe_methFE (pv 0) T.famRatio T.mr_over.M (ok_mr_overZ T) (hr.mono (by decide)) T.mr_over.b (L2N.passes_call (L2N.takes_of rfl rfl rfl rfl) (fun _ _ _ _ h => h)) (pa_cons (pe_make T.kRatio.made (ok_mr_initN T) (hr.mono (by decide)) (by rfl) T.c_Ratio bd1 vd1 pass0 (pa_cons pe_int pa_nil)) pa_nil))
          (fun H Q E s he => by
            obtain ⟨d, e⟩ := iZ s
            exact ⟨.ref r1, rfl, r1, T.aRatio, d, _, rfl, rfl, e, rfl, er_make1 (T := T) (σ := [some (.ref r1)]) (H := H) (x := 0) ei_c H _ (.refl _) fun r H' s' i' => ⟨r1, .ref r, va, vb, 0, 1, rfl, ⟨d, s' _ _ e⟩, .inl ⟨r, rfl, i'⟩, bA.lo, bB.lo, lo0, lo1, hy, by decide, rfl, fun d H2 s2 => he d H2 (s'.trans s2)⟩⟩)
      have z3 : DoesZ P w K mg base 7 Hz f3 := lam_zero (k := 6) fz fv cells_inj (l28.keep (kD.keeps.trans kz)) (free_ok rfl) (Nl := ["_law_one"]) (ps := []) (σl := [some (.ref r1)]) ⟨rfl, rfl, rfl, by decide +kernel, by decide +kernel, by decide +kernel⟩
          (hval1 15 rfl rfl rfl) rfl (fun _ => ⟨rfl, fun _ _ _ _ => rfl⟩) (fun h => absurd rfl h)
          (tb := fun E => tMethFE T.sR "over" (sp_overZ T) E (tVar 0) (tCons (tC (.int 0)) tNil))
          (fun c' A outer s H' E hr => pe_methFE (pv 0) T.famRatio T.mr_over.M (ok_mr_overZ T) (hr.mono (by decide)) T.mr_over.b (L2N.passes_call (L2N.takes_of rfl rfl rfl rfl) (fun _ _ _ _ h => h)) (pa_cons pe_int pa_nil))
          (fun H Q E s he => by
            obtain ⟨d, e⟩ := iZ s
            exact ⟨.ref r1, rfl, r1, T.aRatio, d, _, rfl, rfl, e, rfl, r1, .int 0, va, vb, 0, 1, rfl, ⟨d, e⟩, .inr ⟨rfl, rfl⟩, bA.lo, bB.lo, lo0, lo1, hy, by decide, rfl, fun d H2 s2 => he d H2 s2⟩)
      have z4 : DoesZ P w K mg base 7 Hz f4 := lam_zero (k := 6) fz fv cells_inj (l29.keep (kE.keeps.trans kz)) (free_ok rfl) (Nl := ["_law_one", "_law_d"]) (ps := ["_law_x"]) (σl := [some (.ref r1), some (.int vd)]) ⟨rfl, rfl, rfl, by decide +kernel, by decide +kernel, by decide +kernel⟩
          (hval2 15 14 rfl rfl rfl rfl rfl rfl) rfl (fun h => nomatch h) (fun _ A doc pm cv ctv its hl => ⟨_, rfl, match its, hl with | [_], _ => rfl⟩)
          (tb := fun E => tOp (rBin T.aRatio (sp_floordivZ T) E) (tVar 0) (tMake T.aRatio (spInitN T) [] E0 (tCons (tC (.int 0)) (tCons (tVar 1) tNil))))
          (fun c' A outer s H' E hr => pe_op (op_own T.o_floordiv (ok_mr_floordivZ T) (hr.mono (by decide)) T.mr_floordiv.b (L2N.passes_call (L2N.takes_of rfl rfl rfl rfl) (fun _ _ _ _ h => h))) (pv 0) (pe_make T.kRatio.made (ok_mr_initN T) (hr.mono (by decide)) (by rfl) T.c_Ratio bd2 .nil pass0 (pa_cons pe_int (pa_cons (pv 1) pa_nil))))
          (fun H Q E s he => by
            obtain ⟨d, e⟩ := iZ s
            exact ⟨.ref r1, rfl, er_make (T := T) (σ := [some (.ref r1), some (.int vd)]) (H := H) (x := 0) (y := vd) ei_c (ei_v rfl) hu (sm_lo bD.lo) H _ (.refl _) fun r H' s' i' => by
              obtain ⟨dr, er⟩ := id i'
              exact ⟨r1, d, _, rfl, s' _ _ e, .inl ⟨r, dr, _, rfl, er⟩, r1, .ref r, va, vb, nT 0 vd, nB 0 vd, rfl, ⟨d, s' _ _ e⟩, .inl ⟨r, rfl, i'⟩, bA.lo, bB.lo, lo_le lo0 (nT_le hu), lo_le bD.lo (nB_le hu), hy, Int.ne_of_gt (nB_pos hu), Int.zero_fdiv _, fun d H2 s2 => he d H2 (s'.trans s2)⟩⟩)
      have all : ∀ f : Addr, V.ref f ∈ ([.ref f0, .ref f1, .ref f2, .ref f3, .ref f4] : List V) → DoesZ P w K mg base 7 Hz f := by
        intro f hf
        simp only [List.mem_cons, List.not_mem_nil, or_false, V.ref.injEq] at hf
        rcases hf with rfl | rfl | rfl | rfl | rfl
        · exact z0
        · exact z1
        · exact z2
        · exact z3
        · exact z4
      refine lc_itz (walk_list (xs := [.ref f0, .ref f1, .ref f2, .ref f3, .ref f4])) eD (fun i G => Same Hz G) (.refl _) (fun i G _ h => SqL.of (h _ _ (sZ _ _ e31))) ?_ ?_
      · rintro j x G G' hj sm ⟨eG, hx⟩
        rw [eG]
        have mx := List.mem_of_getElem? hx
        obtain ⟨f, rfl⟩ : ∃ f, x = .ref f := by
          simp only [List.mem_cons, List.not_mem_nil, or_false] at mx
          rcases mx with h | h | h | h | h <;> exact ⟨_, h⟩
        obtain ⟨hl, spf, ha, hs⟩ := (all f mx).same sm
        exact ⟨rfl, .ref f, rfl, f, spf, rfl, hl, ha, fun Q' E' he => hs _ Q' E' (.refl _) fun d H2 s2 => he d H2 ⟨true, rfl, sm.trans s2⟩⟩
      intro G sm
      have sE := fz.back sm
      have eD' := sE _ _ upd_same
      refine ⟨Nat.zero_le _, fun p6 np6 => ⟨_, _, .lst (SqL.of (same_new np6 _ _ eD')) .nil, .lst (SqL.of upd_same) .nil, rfl, rfl, _, rfl, iteF ?_⟩⟩
      have sF := ((same_new nD).trans sE).trans (same_new (o := .lst []) np6)
      exact ⟨hB31.same sF, t31.same sF, _, _, _, _, _, _, _, _, _, _, _, _, _, _, _, _, _, rfl⟩
    · rintro σ H3 ⟨hB3, hT3, v2, v3, v4, v5, v6, v7, v8, v9, v10, v11, v12, v13, v14, v15, v16, v17, v18, rfl⟩
      dsimp only
      have ww : EvVs (σ := [some (.ref a), some (.ref b), v2, v3, v4, v5, v6, v7, v8, v9, v10, v11, v12, v13, v14, v15, v16, v17, v18]) (H := H3) (ta := _) (vs := wrongs) := evs_cons ev_c (evs_cons ev_c (evs_cons ev_c (evs_cons ev_c (evs_cons ev_c (evs_cons ev_c (evs_cons ev_c (evs_cons ev_c (evs_cons ev_c (evs_cons ev_c (evs_cons ev_c (evs_cons ev_c (evs_cons ev_c (evs_cons ev_c (evs_cons ev_c (evs_cons ev_c (evs_cons ev_c (evs_cons ev_c (evs_cons ev_c (evs_nil)))))))))))))))))))
      refine go_asg ?_
      refine ew_lst ww (by decide +kernel) H3 _ (.refl _) fun l12 H4 s4 e12 => ?_
      dsimp only [gName, List.set]
      have t4 := hT3.same s4
      refine go_asg ?_
      refine ⟨.ref l12, rfl, l12, rfl, ⟨_, SqL.of e12⟩, fun D nD => lc_it (walk_list (xs := wrongs)) (fun i H2 => TabF H2 Pt lamQ ∧ H2 l12 = some (.lst wrongs) ∧ ∃ vs, H2 D = some (.lst vs) ∧ vs.length = i ∧ ∀ v ∈ vs, ∃ p, v = .ref p ∧ H2 p = some (.tup [.str "InvalidText", .int 1])) ⟨t4.same (same_new nD), same_new nD _ _ e12, [], upd_same, rfl, fun _ h => nomatch h⟩ (fun i H2 _ h => SqL.of h.2.1) ?_ ?_⟩
      · rintro i x H5 H6 hi ⟨t5, e5, vs, eD, lv, pv5⟩ ⟨eG, hx⟩
        rw [eG]
        have hw := wrong_of (List.all_eq_true.mp wrongs_all x (List.mem_of_getElem? hx))
        refine ⟨rfl, t5, fun env f H7 Hz k7 t7 n7 l7 fz fv hfr hsc => ?_⟩
        have hd := does_text (T := T) (P := P) (w := w) (base := base) (lam_genB (k := 6) fv (l7.keep (.same fz.same)) (by decide +kernel) hfr (Nl := ["_law_text_z"]) (ps := []) (σl := [some x]) ⟨rfl, rfl, rfl, by decide +kernel, by decide +kernel, by decide +kernel⟩
          (hval1 18 rfl rfl (hsc _ List.mem_cons_self)) rfl (fun _ => ⟨rfl, fun _ _ _ _ => rfl⟩) (fun h => absurd rfl h)
          (tb := fun E => ClX.tCMeth T.aRatio (spReadX T) E (tC (.ref T.aRatio)) (tCons (tVar 0) tNil))
          (fun c' A outer s H' E hr => ClX.pe_cmeth (pe_glob (v := .ref T.aRatio) rfl T.c_Ratio rfl) T.rdr T.rdm (FnOk.toR (ok_mr_readX T) T.mr_read.b) (hr.mono (by decide)) (L2N.passes_call (L2N.takes_of rfl rfl rfl rfl) (fun _ _ _ _ h => h)) (pa_cons (pv 0) pa_nil)))
          (fun H Q E s he => ⟨rfl, x, rfl, x, rfl, hw, fun d H' s' e => he d H' s' e⟩)
        obtain ⟨hl, spf, ha, hq⟩ := hd
        refine ⟨f, spf, rfl, hl, ha, fun Q' E' he => hq Q' E' fun cls d H8 er s8 => he cls d H8 er fun H9 p s9 np e9 => ?_⟩
        have s89 := s8.trans s9
        have keep : ∀ {a : Addr} {o : HO}, H5 a = some o → (∀ ps, o ≠ .tbl ps) → (∀ oc u, o ≠ .frz oc u) → offC H9 (cellsIn env ["_law_text_z"]) a = some o := fun e n m => fz.kept s89 (s89 _ _ (fz.same _ _ (k7 _ _ e n))) m
        have eD9 := keep eD (fun _ z => by cases z) (fun _ _ z => by cases z)
        have e12' := keep e5 (fun _ z => by cases z) (fun _ _ z => by cases z)
        have np' : offC H9 (cellsIn env ["_law_text_z"]) p = some (.tup [.str "InvalidText", .int 1]) := fz.kept s89 e9 (fun _ _ z => by cases z)
        have nlD : l12 ≠ D := ne_of_none e12 nD
        refine ⟨vs, eD9, by rw [lv]; exact Nat.lt_of_lt_of_le hi (le_line (by decide +kernel)), (t7.same (fz.back s89)).put eD9, by rw [upd_ne nlD]; exact e12', _, upd_same, by rw [List.length_append, List.length_singleton, lv], fun v hv => ?_⟩
        rcases List.mem_append.mp hv with hv | hv
        · obtain ⟨p', rfl, ep⟩ := pv5 v hv
          have ep' := keep ep (fun _ z => by cases z) (fun _ _ z => by cases z)
          exact ⟨p', rfl, by rw [upd_ne (fun z => by rw [z, eD9] at ep'; cases ep')]; exact ep'⟩
        · exact ⟨p, List.mem_singleton.mp hv, by rw [upd_ne (fun z => by rw [z, eD9] at np'; cases np')]; exact np'⟩
      rintro H5 ⟨t5, e5, vs, eD, lv, pv5⟩
      dsimp only [gName, List.set]
      have rd : ∀ {σ' : L2.St} {H' : Hp}, EvV (tOp (rEqF K T.sR (sp_eq T)) (ClX.tCMeth T.aRatio (spReadN T) E0 (tC (.ref T.aRatio)) (tCons (tC (.str "-7/2")) tNil)) (tMake T.aRatio (spInitN T) [] E0 (tCons (tC (.int 7)) (tCons (tUn (rU fun i => .int (-i)) (tC (.int 2))) tNil)))) σ' H' (.bl true) :=
        fun {σ' H'} => (ev_eqR (er_read (x := -7) (y := 2) (okB_txt (by decide +kernel)) (by decide +kernel) (by decide) (by unfold Lo; decide)) (er_make (x := 7) (y := -2) ei_c (ei_neg ei_c) (by decide) (by unfold Sm; decide))).eq (congrArg V.bl (by decide +kernel))
      have rk : ∀ {σ' : L2.St} {H' : Hp}, EvV (tOp (rEqF K T.sR (sp_eq T)) (tCMethK T.aRatio (["text"] : List Str).length (spReadN T) (fun vs zs => vs ++ zs) E0 (tC (.ref T.aRatio)) (tCons (tC (.str "-7/2")) tNil)) (tMake T.aRatio (spInitN T) [] E0 (tCons (tC (.int 7)) (tCons (tUn (rU fun i => .int (-i)) (tC (.int 2))) tNil)))) σ' H' (.bl true) :=
        fun {σ' H'} => (ev_eqR (er_readK rfl (x := -7) (y := 2) (okB_txt (by decide +kernel)) (by decide +kernel) (by decide) (by unfold Lo; decide)) (er_make (x := 7) (y := -2) ei_c (ei_neg ei_c) (by decide) (by unfold Sm; decide))).eq (congrArg V.bl (by decide +kernel))
      have lw : wrongs.length = 19 := by decide +kernel
      refine ⟨.ref D, rfl, le_line (by show 2 ≤ 100; decide), fun tt ntt => ⟨le_line (by show 1 ≤ 100; decide), fun lr nlr => ⟨.ref l12, rfl, l12, wrongs, rfl, .inl (SqL.of (same_new nlr _ _ (same_new ntt _ _ e5))), lr, _, _, rfl, rfl, upd_same, by rw [lw]; decide, by rw [lw]; decide, by rw [lw]; exact le_line (by show 1 * 19 ≤ 100; decide), fun pr npr => ?_⟩⟩⟩
      have s6 := ((same_new (o := .tup [.str "InvalidText", .int 1]) ntt).trans (same_new (o := .lst [.ref tt]) nlr)).trans (same_new (o := .lst (List.replicate ((wrongs.length : Nat) : Int).toNat [V.ref tt]).flatten) npr)
      have ett := ((same_new (o := .lst [.ref tt]) nlr).trans (same_new (o := .lst (List.replicate ((wrongs.length : Nat) : Int).toNat [V.ref tt]).flatten) npr)) _ _ (upd_same (H := H5) (a := tt) (o := .tup [.str "InvalidText", .int 1]))
      refine ⟨.ref D, .ref pr, rfl, .inr ⟨D, pr, vs, _, rfl, rfl, .inl ⟨SqL.of (s6 _ _ eD), SqL.of upd_same⟩, ?_, by rw [lv, lw]; decide, fun i x y h1 h2 => ?_⟩, fun H6 s7 => ⟨_, rfl, iteT ?_⟩⟩
      · rw [lv, lw]; rfl
      · obtain ⟨p, rfl, ep⟩ := pv5 x (List.mem_of_getElem? h1)
        have my := List.mem_of_getElem? h2
        obtain ⟨l, hl, hy⟩ := List.mem_flatten.mp my
        rw [List.eq_of_mem_replicate hl] at hy
        rw [List.mem_singleton.mp hy]
        exact eqv_flatT (SqT.of (s6 _ _ ep)) (SqT.of ett) rfl (by show 2 ≤ 1000; decide)
      · exact rd H6 _ (.refl _) fun H7 s8 => ⟨_, rfl, iteT (rk H7 _ (.refl _) fun H8 s9 => q H8)⟩
end
end Rd
set_option maxHeartbeats 0
namespace Rd
open PySem PySem.Spec PyProof.Rows L2
theorem excB_ok {K : PySem.W.Frag} {D : Addr} (h : excB K D = true) : ExcC K D := by
  obtain ⟨h1, h⟩ := Bool.and_eq_true_iff.mp h
  obtain ⟨h2, h⟩ := Bool.and_eq_true_iff.mp h
  obtain ⟨h3, h⟩ := Bool.and_eq_true_iff.mp h
  obtain ⟨h4, h⟩ := Bool.and_eq_true_iff.mp h
  obtain ⟨h5, h⟩ := Bool.and_eq_true_iff.mp h
  obtain ⟨h6, h⟩ := Bool.and_eq_true_iff.mp h
  obtain ⟨h7, h8⟩ := Bool.and_eq_true_iff.mp h
  exact ⟨of_decide_eq_true h1, of_decide_eq_true h2, of_decide_eq_true h3, h4, of_decide_eq_true h5, of_decide_eq_true h6, of_decide_eq_true h7, of_decide_eq_true h8⟩
def mkDX {K : PySem.W.Frag} {mg : Str → Option Value} {x qual : Str} {st : Stmt} {ps nm : List Str} {B newId initId : String} {bmB : List Value} {C f : Addr} {fd : FuncData}
    (FB : ExcBaseFacts B newId initId bmB) (S : StoreFacts B bmB "object.__setattr__" "object") (g : mg x = some (.ref C)) (i : PySem.W.findIn K (.ref C) "__init__" = some (some (.ref f))) (F : L2.Fun K "__init__" qual st f fd) (b : Binds K fd ps [])
    (hx : xB K C f bmB newId nm = true) : DX K mg x qual st ps nm B newId initId bmB :=
  have h1 := (Bool.and_eq_true_iff.mp hx).1
  have r1 := (Bool.and_eq_true_iff.mp hx).2
  have h2 := (Bool.and_eq_true_iff.mp r1).1
  have r2 := (Bool.and_eq_true_iff.mp r1).2
  have h3 := (Bool.and_eq_true_iff.mp r2).1
  have r3 := (Bool.and_eq_true_iff.mp r2).2
  have h4 := (Bool.and_eq_true_iff.mp r3).1
  have r4 := (Bool.and_eq_true_iff.mp r3).2
  have h5 := (Bool.and_eq_true_iff.mp r4).1
  have r5 := (Bool.and_eq_true_iff.mp r4).2
  have h6 := (Bool.and_eq_true_iff.mp r5).1
  have r6 := (Bool.and_eq_true_iff.mp r5).2
  have h7 := (Bool.and_eq_true_iff.mp r6).1
  have r7 := (Bool.and_eq_true_iff.mp r6).2
  have h8 := (Bool.and_eq_true_iff.mp r7).1
  have r8 := (Bool.and_eq_true_iff.mp r7).2
  have h9 := (Bool.and_eq_true_iff.mp r8).1
  have h10 := (Bool.and_eq_true_iff.mp r8).2
  { C := C, f := f, fd := _, g := g, T := ⟨FB, S, h1, h2, h3, of_decide_eq_true h4, h5⟩, iC := i, tI := of_decide_eq_true h8, F := F, b := b,
    xf := ⟨xfB_ok h6, excB_ok h7⟩, no := fun n hn => of_decide_eq_true (List.all_eq_true.mp h9 n (List.elem_iff.mp hn)), ty := of_decide_eq_true h10 }
theorem fun_of {K : PySem.W.Frag} {x qual : Str} {st : Stmt} {f : Addr} {fd : FuncData} (F : FunD K x qual (defArgs st) (defBody st) (defScope st) [] [] f fd) : L2.Fun K x qual st f fd := by
  obtain ⟨oc, od, dV, kV, doc, pm, an, cdv, ct, osl, e, lk, hcd, hd, hk⟩ := F.ex
  rcases hd with ⟨_, rfl⟩ | ⟨n, _⟩
  · exact ⟨⟨oc, od, kV, doc, pm, an, cdv, ct, osl, e, lk, hcd⟩, F.kp⟩
  · exact absurd rfl n
theorem code_of {K : PySem.W.Frag} {x qual : Str} {st : Stmt} {fd : FuncData} {p : Str × Option Str} (F : L2.Fun K x qual st (He.fAd K p) fd) : fd.code = .ref (He.codeOf K p) := by
  obtain ⟨oc, od, kV, doc, pm, an, cdv, ct, osl, e, lk, hcd⟩ := F.ex
  obtain ⟨c, hc⟩ := He.codeIn_ref hcd
  have e2 : fd.code = .ref c := by rw [e]; exact hc
  rw [He.codeOf_eq lk e2]
  exact e2
theorem mkCl {K : PySem.W.Frag} {x : Str} {fs : List Str} (h : clsB K x = true) (hc : Cls K (He.ga K x)) (mk : Mk K (He.ga K x) (He.ma K (He.ga K x) "__init__")) (no : ∀ f, f ∈ fs → NoAttr K (He.ga K x) f) : ClsD K (He.ga K x) (He.ma K (He.ga K x) "__init__") fs := by
  unfold clsB at h
  obtain ⟨h1, h⟩ := He.ba h
  obtain ⟨h2, h⟩ := He.ba h
  obtain ⟨h3, h⟩ := He.ba h
  obtain ⟨h4, h⟩ := He.ba h
  obtain ⟨h5, h⟩ := He.ba h
  obtain ⟨h6, h7⟩ := He.ba h
  exact ⟨hc, mk, fun f hf => no f (List.elem_iff.mp hf), He.eqO_ok h1, of_decide_eq_true h2, fun t ht => List.all_eq_true.mp h3 t (List.elem_iff.mp ht), h4, of_decide_eq_true h5, fun t ht => of_decide_eq_true (List.all_eq_true.mp h6 t (List.elem_iff.mp ht)), He.eqO_ok h7⟩
theorem two2 {p : Str → Prop} {a b : Str} (h1 : p a) (h2 : p b) : ∀ f, f ∈ [a, b] → p f := fun f m => by
  simp only [List.mem_cons, List.not_mem_nil, or_false] at m
  rcases m with h | h <;> rw [h] <;> assumption
theorem factsB {w : World} {K : PySem.W.Frag} {h : Heap} {mg : Str → Option Value} {fa : Addr} (X : K.In h) (G : h.Ns mainGlobals mg) (hfa : mg ("law" : Str) = some (.ref fa)) (c : He.SaysX faL fnL tsL tfL exB w h K) (sv : seenL K = seenV) :
    LamX.LawAtS PySem.Challenge.rw_ringlessday_k43_ratios_reckoned w K CX0 12 63 "_law_script" mg fa h := by
  obtain ⟨e1, e23⟩ := He.ba c.more
  obtain ⟨e2, e3⟩ := He.ba e23
  obtain ⟨eX, eO⟩ := He.ba e1
  obtain ⟨eS, eR⟩ := He.ba e3
  obtain ⟨s1, eS⟩ := He.ba eS
  obtain ⟨s2, eS⟩ := He.ba eS
  obtain ⟨s3, s4⟩ := He.ba eS
  obtain ⟨r1, eR⟩ := He.ba eR
  obtain ⟨r2, eR⟩ := He.ba eR
  obtain ⟨r3, eR⟩ := He.ba eR
  obtain ⟨r4, r5⟩ := He.ba eR
  obtain ⟨o1, eO⟩ := He.ba eO
  obtain ⟨o2, eO⟩ := He.ba eO
  obtain ⟨o3, o4⟩ := He.ba eO
  have D : He.SaysD faL fnL K := c.t.d
  obtain ⟨tL, hL⟩ := He.str_ok X G (D.fact 22 (f := .str "DIGITS" "0123456789") rfl)
  obtain ⟨tM, hM⟩ := He.int_ok X G (D.fact 23 (f := .int "PART" 1000000000) rfl)
  obtain ⟨fd0, F0'⟩ := D.def_ 0 (d := dd0) rfl
  have F0 : L2.Fun K "is_integer" "is_integer" s_is_integer (He.fAd K ("is_integer", none)) fd0 := fun_of F0'
  obtain ⟨fd1, F1'⟩ := D.def_ 1 (d := dd1) rfl
  have F1 : L2.Fun K "number_word" "number_word" s_number_word (He.fAd K ("number_word", none)) fd1 := fun_of F1'
  obtain ⟨fd2, F2'⟩ := D.def_ 2 (d := dd2) rfl
  have F2 : L2.Fun K "word_of_number" "word_of_number" s_word_of_number (He.fAd K ("word_of_number", none)) fd2 := fun_of F2'
  obtain ⟨fd3, F3'⟩ := D.def_ 3 (d := dd3) rfl
  have F3 : L2.Fun K "is_term" "is_term" s_is_term (He.fAd K ("is_term", none)) fd3 := fun_of F3'
  obtain ⟨fd4, F4'⟩ := D.def_ 4 (d := dd4) rfl
  have F4 : L2.Fun K "as_ratio" "as_ratio" s_as_ratio (He.fAd K ("as_ratio", none)) fd4 := fun_of F4'
  obtain ⟨fd5, F5'⟩ := D.def_ 5 (d := dd5) rfl
  have F5 : L2.Fun K "terms_of" "terms_of" s_terms_of (He.fAd K ("terms_of", none)) fd5 := fun_of F5'
  obtain ⟨fd6, F6'⟩ := D.def_ 6 (d := dd6) rfl
  have F6 : L2.Fun K "_law_bag" "_law_bag" s_law_bag (He.fAd K ("_law_bag", none)) fd6 := fun_of F6'
  obtain ⟨fd7, F7'⟩ := D.def_ 7 (d := dd7) rfl
  have F7 : L2.Fun K "_law_pull" "_law_pull" s_law_pull (He.fAd K ("_law_pull", none)) fd7 := fun_of F7'
  obtain ⟨fd8, F8'⟩ := D.def_ 8 (d := dd8) rfl
  have F8 : L2.Fun K "_law_of" "_law_of" s_law_of (He.fAd K ("_law_of", none)) fd8 := fun_of F8'
  obtain ⟨fd9, F9'⟩ := D.def_ 9 (d := dd9) rfl
  have F9 : L2.Fun K "_law_like" "_law_like" s_law_like (He.fAd K ("_law_like", none)) fd9 := fun_of F9'
  obtain ⟨fd10, F10'⟩ := D.def_ 10 (d := dd10) rfl
  have F10 : L2.Fun K "_law_field" "_law_field" s_law_field (He.fAd K ("_law_field", none)) fd10 := fun_of F10'
  obtain ⟨fd11, F11'⟩ := D.def_ 11 (d := dd11) rfl
  have F11 : L2.Fun K "_law_try" "_law_try" s_law_try (He.fAd K ("_law_try", none)) fd11 := fun_of F11'
  obtain ⟨fd12, F12'⟩ := D.def_ 12 (d := dd12) rfl
  have F12 : L2.Fun K "_law_plain" "_law_plain" s_law_plain (He.fAd K ("_law_plain", none)) fd12 := fun_of F12'
  obtain ⟨fd13, F13'⟩ := D.def_ 13 (d := dd13) rfl
  have F13 : L2.Fun K "_law_number" "_law_number" s_law_number (He.fAd K ("_law_number", none)) fd13 := fun_of F13'
  obtain ⟨fd14, F14'⟩ := D.def_ 14 (d := dd14) rfl
  have F14 : L2.Fun K "_law_so" "_law_so" s_law_so (He.fAd K ("_law_so", none)) fd14 := fun_of F14'
  obtain ⟨fd15, F15'⟩ := D.def_ 15 (d := dd15) rfl
  have F15 : L2.Fun K "_law_zero" "_law_zero" s_law_zero (He.fAd K ("_law_zero", none)) fd15 := fun_of F15'
  obtain ⟨fd16, F16'⟩ := D.def_ 16 (d := dd16) rfl
  have F16 : L2.Fun K "law" "law" s_law (He.fAd K ("law", none)) fd16 := fun_of F16'
  obtain ⟨fd17, F17'⟩ := D.def_ 17 (d := dd17) rfl
  have F17 : L2.Fun K "__init__" "InvalidText.__init__" (inS 3 0) (He.fAd K ("InvalidText", some "__init__")) fd17 := fun_of F17'
  have r17 := He.ba (List.all_eq_true.mp eX _ (List.mem_of_getElem? (i := 0) rfl))
  obtain ⟨fd18, F18'⟩ := D.def_ 18 (d := dd18) rfl
  obtain ⟨fd19, F19'⟩ := D.def_ 19 (d := dd19) rfl
  have F19 : L2.Fun K "over" "Ratio.over" (inS 14 2) (He.fAd K ("Ratio", some "over")) fd19 := fun_of F19'
  obtain ⟨fd20, F20'⟩ := D.def_ 20 (d := dd20) rfl
  have F20 : L2.Fun K "compare" "Ratio.compare" (inS 14 3) (He.fAd K ("Ratio", some "compare")) fd20 := fun_of F20'
  obtain ⟨fd21, F21'⟩ := D.def_ 21 (d := dd21) rfl
  have F21 : L2.Fun K "floor" "Ratio.floor" (inS 14 4) (He.fAd K ("Ratio", some "floor")) fd21 := fun_of F21'
  obtain ⟨fd22, F22'⟩ := D.def_ 22 (d := dd22) rfl
  have F22 : L2.Fun K "ceiling" "Ratio.ceiling" (inS 14 5) (He.fAd K ("Ratio", some "ceiling")) fd22 := fun_of F22'
  obtain ⟨fd23, F23'⟩ := D.def_ 23 (d := dd23) rfl
  have F23 : L2.Fun K "__add__" "Ratio.__add__" (inS 14 6) (He.fAd K ("Ratio", some "__add__")) fd23 := fun_of F23'
  obtain ⟨fd24, F24'⟩ := D.def_ 24 (d := dd24) rfl
  have F24 : L2.Fun K "__radd__" "Ratio.__radd__" (inS 14 7) (He.fAd K ("Ratio", some "__radd__")) fd24 := fun_of F24'
  obtain ⟨fd25, F25'⟩ := D.def_ 25 (d := dd25) rfl
  have F25 : L2.Fun K "__sub__" "Ratio.__sub__" (inS 14 8) (He.fAd K ("Ratio", some "__sub__")) fd25 := fun_of F25'
  obtain ⟨fd26, F26'⟩ := D.def_ 26 (d := dd26) rfl
  have F26 : L2.Fun K "__rsub__" "Ratio.__rsub__" (inS 14 9) (He.fAd K ("Ratio", some "__rsub__")) fd26 := fun_of F26'
  obtain ⟨fd27, F27'⟩ := D.def_ 27 (d := dd27) rfl
  have F27 : L2.Fun K "__mul__" "Ratio.__mul__" (inS 14 10) (He.fAd K ("Ratio", some "__mul__")) fd27 := fun_of F27'
  obtain ⟨fd28, F28'⟩ := D.def_ 28 (d := dd28) rfl
  have F28 : L2.Fun K "__rmul__" "Ratio.__rmul__" (inS 14 11) (He.fAd K ("Ratio", some "__rmul__")) fd28 := fun_of F28'
  obtain ⟨fd29, F29'⟩ := D.def_ 29 (d := dd29) rfl
  have F29 : L2.Fun K "__floordiv__" "Ratio.__floordiv__" (inS 14 12) (He.fAd K ("Ratio", some "__floordiv__")) fd29 := fun_of F29'
  obtain ⟨fd30, F30'⟩ := D.def_ 30 (d := dd30) rfl
  have F30 : L2.Fun K "__neg__" "Ratio.__neg__" (inS 14 13) (He.fAd K ("Ratio", some "__neg__")) fd30 := fun_of F30'
  obtain ⟨fd31, F31'⟩ := D.def_ 31 (d := dd31) rfl
  have F31 : L2.Fun K "__abs__" "Ratio.__abs__" (inS 14 14) (He.fAd K ("Ratio", some "__abs__")) fd31 := fun_of F31'
  obtain ⟨fd32, F32'⟩ := D.def_ 32 (d := dd32) rfl
  have F32 : L2.Fun K "__bool__" "Ratio.__bool__" (inS 14 15) (He.fAd K ("Ratio", some "__bool__")) fd32 := fun_of F32'
  obtain ⟨fd33, F33'⟩ := D.def_ 33 (d := dd33) rfl
  have F33 : L2.Fun K "__eq__" "Ratio.__eq__" (inS 14 16) (He.fAd K ("Ratio", some "__eq__")) fd33 := fun_of F33'
  obtain ⟨fd34, F34'⟩ := D.def_ 34 (d := dd34) rfl
  have F34 : L2.Fun K "__str__" "Ratio.__str__" (inS 14 17) (He.fAd K ("Ratio", some "__str__")) fd34 := fun_of F34'
  obtain ⟨fd35, F35'⟩ := D.def_ 35 (d := dd35) rfl
  have F35 : L2.Fun K "__repr__" "Ratio.__repr__" (inS 14 18) (He.fAd K ("Ratio", some "__repr__")) fd35 := fun_of F35'
  obtain ⟨fdR, FR'⟩ := He5.DefA.funD (d := dRd) sv r5
  have FR : L2.Fun K "read" "Ratio.read" (inS 14 1) (He5.wf K (He.ga K "Ratio") "classmethod" "read") fdR := fun_of FR'
  have e := hfa.symm.trans (He.glo_ok X G (D.fact 16 (f := .glo "law") rfl))
  cases e
  let T : Txt K mg := {
    d_is_integer := ⟨_, fd0, F0, He.glo_ok X G (D.fact 0 (f := .glo "is_integer") rfl), F0.binds fun _ _ _ _ _ _ us hl => match us, hl with | [_], _ => rfl⟩,
    d_number_word := ⟨_, fd1, F1, He.glo_ok X G (D.fact 1 (f := .glo "number_word") rfl), F1.binds fun _ _ _ _ _ _ us hl => match us, hl with | [_], _ => rfl⟩,
    d_word_of_number := ⟨_, fd2, F2, He.glo_ok X G (D.fact 2 (f := .glo "word_of_number") rfl), F2.binds fun _ _ _ _ _ _ us hl => match us, hl with | [_], _ => rfl⟩,
    d_is_term := ⟨_, fd3, F3, He.glo_ok X G (D.fact 3 (f := .glo "is_term") rfl), F3.binds fun _ _ _ _ _ _ us hl => match us, hl with | [_], _ => rfl⟩,
    d_as_ratio := ⟨_, fd4, F4, He.glo_ok X G (D.fact 4 (f := .glo "as_ratio") rfl), F4.binds fun _ _ _ _ _ _ us hl => match us, hl with | [_], _ => rfl⟩,
    d_terms_of := ⟨_, fd5, F5, He.glo_ok X G (D.fact 5 (f := .glo "terms_of") rfl), F5.binds fun _ _ _ _ _ _ us hl => match us, hl with | [_], _ => rfl⟩,
    d__law_bag := ⟨_, fd6, F6, He.glo_ok X G (D.fact 6 (f := .glo "_law_bag") rfl), F6.binds fun _ _ _ _ _ _ us hl => match us, hl with | [_], _ => rfl⟩,
    d__law_pull := ⟨_, fd7, F7, He.glo_ok X G (D.fact 7 (f := .glo "_law_pull") rfl), F7.binds fun _ _ _ _ _ _ us hl => match us, hl with | [_, _], _ => rfl⟩,
    d__law_of := ⟨_, fd8, F8, He.glo_ok X G (D.fact 8 (f := .glo "_law_of") rfl), F8.binds fun _ _ _ _ _ _ us hl => match us, hl with | [_, _], _ => rfl⟩,
    d__law_like := ⟨_, fd9, F9, He.glo_ok X G (D.fact 9 (f := .glo "_law_like") rfl), F9.binds fun _ _ _ _ _ _ us hl => match us, hl with | [_, _], _ => rfl⟩,
    d__law_field := ⟨_, fd10, F10, He.glo_ok X G (D.fact 10 (f := .glo "_law_field") rfl), F10.binds fun _ _ _ _ _ _ us hl => match us, hl with | [_], _ => rfl⟩,
    d__law_try := ⟨_, fd11, F11, He.glo_ok X G (D.fact 11 (f := .glo "_law_try") rfl), F11.binds fun _ _ _ _ _ _ us hl => match us, hl with | [_], _ => rfl⟩,
    d__law_plain := ⟨_, fd12, F12, He.glo_ok X G (D.fact 12 (f := .glo "_law_plain") rfl), F12.binds fun _ _ _ _ _ _ us hl => match us, hl with | [_, _], _ => rfl⟩,
    d__law_number := ⟨_, fd13, F13, He.glo_ok X G (D.fact 13 (f := .glo "_law_number") rfl), F13.binds fun _ _ _ _ _ _ us hl => match us, hl with | [_], _ => rfl⟩,
    d__law_so := ⟨_, fd14, F14, He.glo_ok X G (D.fact 14 (f := .glo "_law_so") rfl), F14.binds fun _ _ _ _ _ _ us hl => match us, hl with | [_, _], _ => rfl⟩,
    d__law_zero := ⟨_, fd15, F15, He.glo_ok X G (D.fact 15 (f := .glo "_law_zero") rfl), F15.binds fun _ _ _ _ _ _ us hl => match us, hl with | [_], _ => rfl⟩,
    d_law := ⟨_, fd16, F16, He.glo_ok X G (D.fact 16 (f := .glo "law") rfl), F16.binds fun _ _ _ _ _ _ us hl => match us, hl with | [_], _ => rfl⟩,
    x_InvalidText := mkDX (nm := ["line", "code"]) PySem.F.excBase_ValueError PySem.F.store_ValueError (He.glo_ok X G (D.fact 17 (f := .glo "InvalidText") rfl)) (He.eqO_ok r17.1) F17 (F17.binds fun _ _ _ _ _ _ us hl => match us, hl with | [_, _], _ => rfl) r17.2,
    mr_init := ⟨_, fd18, F18'⟩,
    mr_over := ⟨⟨_, fd19, F19, F19.binds fun _ _ _ _ _ _ us hl => match us, hl with | [_, _], _ => rfl⟩, fun D0 h0 => by rw [h0]; exact He.meth_ok (D.fact 28 (f := .meth "Ratio" "over") rfl)⟩,
    mr_compare := ⟨⟨_, fd20, F20, F20.binds fun _ _ _ _ _ _ us hl => match us, hl with | [_, _], _ => rfl⟩, fun D0 h0 => by rw [h0]; exact He.meth_ok (D.fact 29 (f := .meth "Ratio" "compare") rfl)⟩,
    mr_floor := ⟨⟨_, fd21, F21, F21.binds fun _ _ _ _ _ _ us hl => match us, hl with | [_], _ => rfl⟩, fun D0 h0 => by rw [h0]; exact He.meth_ok (D.fact 30 (f := .meth "Ratio" "floor") rfl)⟩,
    mr_ceiling := ⟨⟨_, fd22, F22, F22.binds fun _ _ _ _ _ _ us hl => match us, hl with | [_], _ => rfl⟩, fun D0 h0 => by rw [h0]; exact He.meth_ok (D.fact 31 (f := .meth "Ratio" "ceiling") rfl)⟩,
    mr_add := ⟨⟨_, fd23, F23, F23.binds fun _ _ _ _ _ _ us hl => match us, hl with | [_, _], _ => rfl⟩, fun D0 h0 => by rw [h0]; exact He.meth_ok (D.fact 32 (f := .meth "Ratio" "__add__") rfl)⟩,
    mr_radd := ⟨⟨_, fd24, F24, F24.binds fun _ _ _ _ _ _ us hl => match us, hl with | [_, _], _ => rfl⟩, fun D0 h0 => by rw [h0]; exact He.meth_ok (D.fact 33 (f := .meth "Ratio" "__radd__") rfl)⟩,
    mr_sub := ⟨⟨_, fd25, F25, F25.binds fun _ _ _ _ _ _ us hl => match us, hl with | [_, _], _ => rfl⟩, fun D0 h0 => by rw [h0]; exact He.meth_ok (D.fact 34 (f := .meth "Ratio" "__sub__") rfl)⟩,
    mr_rsub := ⟨⟨_, fd26, F26, F26.binds fun _ _ _ _ _ _ us hl => match us, hl with | [_, _], _ => rfl⟩, fun D0 h0 => by rw [h0]; exact He.meth_ok (D.fact 35 (f := .meth "Ratio" "__rsub__") rfl)⟩,
    mr_mul := ⟨⟨_, fd27, F27, F27.binds fun _ _ _ _ _ _ us hl => match us, hl with | [_, _], _ => rfl⟩, fun D0 h0 => by rw [h0]; exact He.meth_ok (D.fact 36 (f := .meth "Ratio" "__mul__") rfl)⟩,
    mr_rmul := ⟨⟨_, fd28, F28, F28.binds fun _ _ _ _ _ _ us hl => match us, hl with | [_, _], _ => rfl⟩, fun D0 h0 => by rw [h0]; exact He.meth_ok (D.fact 37 (f := .meth "Ratio" "__rmul__") rfl)⟩,
    mr_floordiv := ⟨⟨_, fd29, F29, F29.binds fun _ _ _ _ _ _ us hl => match us, hl with | [_, _], _ => rfl⟩, fun D0 h0 => by rw [h0]; exact He.meth_ok (D.fact 38 (f := .meth "Ratio" "__floordiv__") rfl)⟩,
    mr_neg := ⟨⟨_, fd30, F30, F30.binds fun _ _ _ _ _ _ us hl => match us, hl with | [_], _ => rfl⟩, fun D0 h0 => by rw [h0]; exact He.meth_ok (D.fact 39 (f := .meth "Ratio" "__neg__") rfl)⟩,
    mr_abs := ⟨⟨_, fd31, F31, F31.binds fun _ _ _ _ _ _ us hl => match us, hl with | [_], _ => rfl⟩, fun D0 h0 => by rw [h0]; exact He.meth_ok (D.fact 40 (f := .meth "Ratio" "__abs__") rfl)⟩,
    mr_bool := ⟨⟨_, fd32, F32, F32.binds fun _ _ _ _ _ _ us hl => match us, hl with | [_], _ => rfl⟩, fun D0 h0 => by rw [h0]; exact He.meth_ok (D.fact 41 (f := .meth "Ratio" "__bool__") rfl)⟩,
    mr_eq := ⟨⟨_, fd33, F33, F33.binds fun _ _ _ _ _ _ us hl => match us, hl with | [_, _], _ => rfl⟩, fun D0 h0 => by rw [h0]; exact He.meth_ok (D.fact 42 (f := .meth "Ratio" "__eq__") rfl)⟩,
    mr_str := ⟨⟨_, fd34, F34, F34.binds fun _ _ _ _ _ _ us hl => match us, hl with | [_], _ => rfl⟩, fun D0 h0 => by rw [h0]; exact He.meth_ok (D.fact 43 (f := .meth "Ratio" "__str__") rfl)⟩,
    mr_repr := ⟨⟨_, fd35, F35, F35.binds fun _ _ _ _ _ _ us hl => match us, hl with | [_], _ => rfl⟩, fun D0 h0 => by rw [h0]; exact He.meth_ok (D.fact 44 (f := .meth "Ratio" "__repr__") rfl)⟩,
    mr_read := ⟨_, fdR, FR, FR.binds fun _ _ _ _ _ _ us hl => match us, hl with | [_, _], _ => rfl⟩, pRead := _, rdr := ⟨r1, He.eqO_ok r2⟩, rdm := He5.cmet_of r3 r4,
    z_ZeroDivisionError := He.free_ok X G (D.fact 45 (f := .free "ZeroDivisionError") rfl),
    z_abs := He.free_ok X G (D.fact 46 (f := .free "abs") rfl),
    z_all := He.free_ok X G (D.fact 47 (f := .free "all") rfl),
    z_bool := He.free_ok X G (D.fact 48 (f := .free "bool") rfl),
    z_divmod := He.free_ok X G (D.fact 49 (f := .free "divmod") rfl),
    z_int := He.free_ok X G (D.fact 50 (f := .free "int") rfl),
    z_isinstance := He.free_ok X G (D.fact 51 (f := .free "isinstance") rfl),
    z_len := He.free_ok X G (D.fact 52 (f := .free "len") rfl),
    z_list := He.free_ok X G (D.fact 53 (f := .free "list") rfl),
    z_range := He.free_ok X G (D.fact 54 (f := .free "range") rfl),
    z_repr := He.free_ok X G (D.fact 55 (f := .free "repr") rfl),
    z_str := He.free_ok X G (D.fact 56 (f := .free "str") rfl),
    z_tuple := He.free_ok X G (D.fact 57 (f := .free "tuple") rfl),
    z_zip := He.free_ok X G (D.fact 58 (f := .free "zip") rfl),
    c_gcd := PySem.W.mg_of X G (He.eqO_ok o3), tL := tL, c_DIGITS := hL, tM := tM, c_PART := hM,
    aDayError := He.ga K "DayError", c_DayError := He.glo_ok X G (D.fact 18 (f := .glo "DayError") rfl),
    aMissing := He.ga K "Missing", c_Missing := He.glo_ok X G (D.fact 19 (f := .glo "Missing") rfl),
    aNothingLeft := He.ga K "NothingLeft", c_NothingLeft := He.glo_ok X G (D.fact 20 (f := .glo "NothingLeft") rfl),
    aRatio := He.ga K "Ratio", c_Ratio := He.glo_ok X G (D.fact 21 (f := .glo "Ratio") rfl),
    kRatio := mkCl (List.all_eq_true.mp e2 _ (List.mem_of_getElem? (i := 0) rfl)) (He.cls_ok (D.fact 24 (f := .cls "Ratio") rfl)) (He.mkr_ok (D.fact 25 (f := .mkr "Ratio") rfl)) (two2 (He.noat_ok (D.fact 26 (f := .noat "Ratio" "top") rfl)) (He.noat_ok (D.fact 27 (f := .noat "Ratio" "bottom") rfl))),
    hn := He.eqO_ok o1, htk := of_decide_eq_true o2, selfR := s1, subI := of_decide_eq_true s2, subR := of_decide_eq_true s3, noRF := He.eqO_ok s4,
    ex_InvalidText := ⟨true, of_decide_eq_true (List.all_eq_true.mp o4 _ (List.mem_of_getElem? (i := 0) rfl)), rfl⟩ }
  have b := FunD.bindsA (ps := ["_law_script"]) F16' fun _ _ _ _ _ _ us hl => match us, hl with | [_], _ => rfl
  have q0 : (("law", none) : He.Defn) ∈ tfL := List.mem_of_getElem? (i := 0) rfl
  have cs : ∀ {p : Addr × Addr}, p ∈ [He.cT K ("law", none)] → ∃ d, d ∈ tfL ∧ p = He.cT K d := fun m => ⟨_, q0, List.mem_singleton.mp m⟩
  refine ⟨fd16, [He.cT K ("law", none)], spLaw K (He.cT K ("law", none)).2, fun p hm => ?_, fun p hm => ?_, fun p hm => ?_, fun s v => b s [v] rfl,
    fun H a ns hl _ hH hS => ⟨a, ns, rfl, hS, hl, TabF.nil (hH _ (List.mem_of_getElem? (i := 0) rfl)), fun _ => rfl⟩,
    fun base _ _ hT => ok_law T (hT _ (List.mem_of_getElem? (i := 0) rfl)) (code_of F16)⟩
  · obtain ⟨d, m, e⟩ := cs hm; rw [e]; exact c.empty _ m
  · obtain ⟨d, m, e⟩ := cs hm; rw [e]; exact c.out _ m
  · obtain ⟨d, m, e⟩ := cs hm; rw [e]; exact PySem.W.codeHd_of_K X (c.hd _ m)
end Rd
open PySem PySem.W PySem.Calls PyProof.Rows
theorem PySem.Challenge.cw_ringlessday_k43_ratios_reckoned_holds : PySem.Challenge.rw_ringlessday_k43_ratios_reckoned.Holds := by
  w_on; o_law
  refine HandSHeadRun.head_imp (r := OpenLaw.row PySem.Challenge.rw_ringlessday_k43_ratios_reckoned) (q := Rd.qv) (H := Rd.hkB) (ob := Rd.obB) (M := 12000) (loose := Rd.looseL) (d := HandSHeadRun.topDef (OpenLaw.row PySem.Challenge.rw_ringlessday_k43_ratios_reckoned).prog 29) (kwd := []) Rd.obB_eq Rd.runB (by kernel_rfl) (by kernel_rfl) (by kernel_rfl) (by rfl) (by first | assumption | decide +kernel) (by decide +kernel) ⟨rfl, rfl, rfl, rfl, rfl, by decide +kernel⟩ ?hw ?hc
  case hw => w_witness2
  case hc =>
    refine LamX.walk_ofTsE (l := PySem.Challenge.rw_ringlessday_k43_ratios_reckoned) (n := 63) (k := 12) (x := "_law_script") (CX := fun _ => L2.CX0) rfl (by decide) (by kernel_rfl) ⟨rfl, by decide, by decide⟩ ?F (fun _ _ _ _ _ z => z)
    intro w mg fa h Y G hmg0
    obtain ⟨K, KX, c, sv⟩ := Y
    have hmg : mg ("law" : PySem.Str) = some (.ref fa) := by
      have e : (HandSHeadRun.topDef (OpenLaw.row PySem.Challenge.rw_ringlessday_k43_ratios_reckoned).prog 29).name = ("law" : PySem.Str) := by kernel_rfl
      rw [← e]
      exact hmg0
    exact ⟨K, KX, Rd.factsB KX G hmg c sv⟩
