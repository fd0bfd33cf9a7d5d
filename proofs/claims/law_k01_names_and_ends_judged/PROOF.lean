import PyProof.Rows.All
import Wide.All
import OpenK.AllK
import Wide.FinOn
import HandS.ForMost
import HandS.IsInst
import HandS.Style
import HandS.Flow
import HandS.Codes
import HandS.Walk
import PySem.Challenge.RW_ringlessday_k01_names_and_ends_judged
import HandS.Zip
import HandS.Defaults
set_option Elab.async false
set_option linter.all false
set_option maxRecDepth 100000
namespace Rd
open PySem PySem.Spec PyProof.Rows L2
def topS (i : Nat) : Stmt := PySem.Challenge.pw_ringlessday_k01_names_and_ends_judged.main.body.getD i (.Pass ⟨0, 0, 0, 0⟩)
end Rd
set_option maxHeartbeats 2000000
namespace Rd
open PySem PySem.Spec PyProof.Rows L2
open C8 (pss_cut tCut)
/-! ## a def of the text, where it stands and how it binds -/
structure Def (K : PySem.W.Frag) (mg : Str → Option Value) (x : Str) (st : Stmt) (ps : List Str) where
  f : Addr
  fd : FuncData
  F : Fun K x x st f fd
  g : mg x = some (.ref f)
  b : Binds K fd ps []
/-! ## the bag of drawn numbers -/
def Bag (H : Hp) (b : Addr) : Prop := ∃ (c : Addr) (ns : List Int) (i r m n : Int),
  H b = some (.lst [.ref c, .int i, .int r, .int m, .int n]) ∧ c ≠ b ∧ H c = some (.lst (ns.map V.int)) ∧ 0 ≤ i ∧ 0 ≤ r ∧ 0 ≤ m ∧ m < 2147483587
def Cell (H : Hp) (b c : Addr) : Prop := ∃ r, H b = some (.lst (.ref c :: r))
/-- from one heap to a later one: the bag may have moved on, all else stands -/
structure Go (b : Addr) (H H' : Hp) : Prop where
  bag : Bag H' b
  keep : ∀ a o, a ≠ b → H a = some o → H' a = some o
  cell : ∀ c, Cell H b c → Cell H' b c
theorem Bag.some {H : Hp} {b : Addr} (h : Bag H b) : ∃ xs, H b = some (.lst xs) := let ⟨_, _, _, _, _, _, e, _⟩ := h; ⟨_, e⟩
theorem Go.refl {H : Hp} {b : Addr} (h : Bag H b) : Go b H H := ⟨h, fun _ _ _ e => e, fun _ h => h⟩
theorem Go.trans {H H1 H2 : Hp} {b : Addr} (g : Go b H H1) (k : Go b H1 H2) : Go b H H2 := ⟨k.1, fun a o n e => k.2 a o n (g.2 a o n e), fun c h => k.3 c (g.3 c h)⟩
theorem Bag.new {H : Hp} {b p : Addr} {o : HO} (h : Bag H b) (np : H p = none) : Bag (upd H p o) b := by
  obtain ⟨c, ns, i, r, m, n, e, hc, ec, k⟩ := h
  exact ⟨c, ns, i, r, m, n, by rw [upd_ne (ne_of_none e np)]; exact e, hc, by rw [upd_ne (ne_of_none ec np)]; exact ec, k⟩
theorem Go.new {H H' : Hp} {b p : Addr} {o : HO} (g : Go b H H') (np : H' p = none) : Go b H (upd H' p o) :=
  ⟨g.1.new np, fun a u n e => by rw [upd_ne (ne_of_none (g.2 a u n e) np)]; exact g.2 a u n e, fun c h => by
    obtain ⟨r, e⟩ := g.3 c h
    exact ⟨r, by rw [upd_ne (ne_of_none e np)]; exact e⟩⟩
theorem Bag.same {H H' : Hp} {b : Addr} (h : Bag H b) (s : Same H H') : Bag H' b := by
  obtain ⟨c, ns, i, r, m, n, e, hc, ec, k⟩ := h
  exact ⟨c, ns, i, r, m, n, s _ _ e, hc, s _ _ ec, k⟩
theorem Go.same {H H1 H' : Hp} {b : Addr} (g : Go b H H1) (s : Same H1 H') : Go b H H' := ⟨g.1.same s, fun a o n e => s _ _ (g.2 a o n e), fun c h => let ⟨r, e⟩ := g.3 c h; ⟨r, s _ _ e⟩⟩
/-- an object that is neither the bag nor its list of cells may change -/
theorem Bag.put {H : Hp} {b p c : Addr} {o : HO} (h : Bag H b) (hc : Cell H b c) (n : p ≠ b) (n2 : p ≠ c) : Bag (upd H p o) b := by
  obtain ⟨c', ns, i, r, m, k, e, hc', ec, q⟩ := h
  obtain ⟨r', e'⟩ := hc
  rw [e] at e'
  cases e'
  exact ⟨c, ns, i, r, m, k, by rw [upd_ne (Ne.symm n)]; exact e, hc', by rw [upd_ne (Ne.symm n2)]; exact ec, q⟩
theorem Cell.put {H : Hp} {b p c : Addr} {o : HO} (h : Cell H b c) (n : p ≠ b) : Cell (upd H p o) b c := by
  obtain ⟨r, e⟩ := h
  exact ⟨r, by rw [upd_ne (Ne.symm n)]; exact e⟩
theorem Bag.cell {H : Hp} {b : Addr} (h : Bag H b) : ∃ c, Cell H b c ∧ ∃ o, H c = Option.some o := by
  obtain ⟨c, ns, i, r, m, k, e, hc', ec, q⟩ := h
  exact ⟨c, ⟨_, e⟩, _, ec⟩
/-- what the bag is not -/
theorem Go.back {H H' : Hp} {b p : Addr} (g : Go b H H') (hb : Bag H b) (np : H' p = none) : H p = none := by
  cases e : H p with
  | none => rfl
  | some o =>
    by_cases h : p = b
    · obtain ⟨xs, ex⟩ := g.1.some
      rw [h, ex] at np
      cases np
    · rw [g.2 p o h e] at np
      cases np
theorem Bag.ne {H : Hp} {b p : Addr} (h : Bag H b) (np : H p = none) : p ≠ b := fun e => by
  obtain ⟨xs, ex⟩ := h.some
  rw [e, ex] at np
  cases np
abbrev s_is_name : Stmt := topS 5
abbrev N_is_name : List Str := ["value", "letter"]
theorem sc_is_name : FnScope ["value", "letter"] ["value"] (defScope s_is_name) := ⟨rfl, rfl, rfl, by decide +kernel, rfl, by decide +kernel, by decide +kernel⟩
abbrev s_is_integer : Stmt := topS 7
abbrev N_is_integer : List Str := ["value"]
theorem sc_is_integer : FnScope ["value"] ["value"] (defScope s_is_integer) := ⟨rfl, rfl, rfl, by decide +kernel, rfl, by decide +kernel, by decide +kernel⟩
abbrev s_is_number : Stmt := topS 6
abbrev N_is_number : List Str := ["value", "least", "most"]
theorem sc_is_number : FnScope ["value", "least", "most"] ["value", "least", "most"] (defScope s_is_number) := ⟨rfl, rfl, rfl, by decide +kernel, rfl, by decide +kernel, by decide +kernel⟩
abbrev s_is_end : Stmt := topS 8
abbrev N_is_end : List Str := ["value"]
theorem sc_is_end : FnScope ["value"] ["value"] (defScope s_is_end) := ⟨rfl, rfl, rfl, by decide +kernel, rfl, by decide +kernel, by decide +kernel⟩
abbrev s_is_entry : Stmt := topS 9
abbrev N_is_entry : List Str := ["value"]
theorem sc_is_entry : FnScope ["value"] ["value"] (defScope s_is_entry) := ⟨rfl, rfl, rfl, by decide +kernel, rfl, by decide +kernel, by decide +kernel⟩
abbrev s_law_bag : Stmt := topS 11
abbrev N_law_bag : List Str := ["_law_script", "_law_mixed", "_law_cell"]
theorem sc_law_bag : FnScope ["_law_script", "_law_mixed", "_law_cell"] ["_law_script"] (defScope s_law_bag) := ⟨rfl, rfl, rfl, by decide +kernel, rfl, by decide +kernel, by decide +kernel⟩
abbrev s_law_draw : Stmt := topS 12
abbrev N_law_draw : List Str := ["_law_bag_here", "_law_many", "_law_cell", "_law_digit", "_law_seed"]
theorem sc_law_draw : FnScope ["_law_bag_here", "_law_many", "_law_cell", "_law_digit", "_law_seed"] ["_law_bag_here", "_law_many"] (defScope s_law_draw) := ⟨rfl, rfl, rfl, by decide +kernel, rfl, by decide +kernel, by decide +kernel⟩
abbrev s_law_of : Stmt := topS 13
abbrev N_law_of : List Str := ["_law_bag_here", "_law_some"]
theorem sc_law_of : FnScope ["_law_bag_here", "_law_some"] ["_law_bag_here", "_law_some"] (defScope s_law_of) := ⟨rfl, rfl, rfl, by decide +kernel, rfl, by decide +kernel, by decide +kernel⟩
abbrev s_law_same : Stmt := topS 14
abbrev N_law_same : List Str := ["_law_found", "_law_due", "_law_low", "_law_high"]
theorem sc_law_same : FnScope ["_law_found", "_law_due", "_law_low", "_law_high"] ["_law_found", "_law_due"] (defScope s_law_same) := ⟨rfl, rfl, rfl, by decide +kernel, rfl, by decide +kernel, by decide +kernel⟩
abbrev s_law_strange : Stmt := topS 15
abbrev N_law_strange : List Str := ["_law_bag_here"]
theorem sc_law_strange : FnScope ["_law_bag_here"] ["_law_bag_here"] (defScope s_law_strange) := ⟨rfl, rfl, rfl, by decide +kernel, rfl, by decide +kernel, by decide +kernel⟩
abbrev s_law_end_so : Stmt := topS 16
abbrev N_law_end_so : List Str := ["_law_bag_here", "_law_word", "_law_bent", "_law_gate", "_law_right", "_law_some", "_law_found"]
theorem sc_law_end_so : FnScope ["_law_bag_here", "_law_word", "_law_bent", "_law_gate", "_law_right", "_law_some", "_law_found"] ["_law_bag_here", "_law_word", "_law_bent"] (defScope s_law_end_so) := ⟨rfl, rfl, rfl, by decide +kernel, rfl, by decide +kernel, by decide +kernel⟩
abbrev s_law_entry_so : Stmt := topS 17
abbrev N_law_entry_so : List Str := ["_law_bag_here", "_law_word", "_law_bent", "_law_number", "_law_right", "_law_some", "_law_found"]
theorem sc_law_entry_so : FnScope ["_law_bag_here", "_law_word", "_law_bent", "_law_number", "_law_right", "_law_some", "_law_found"] ["_law_bag_here", "_law_word", "_law_bent"] (defScope s_law_entry_so) := ⟨rfl, rfl, rfl, by decide +kernel, rfl, by decide +kernel, by decide +kernel⟩
abbrev s_law : Stmt := topS 18
abbrev N_law : List Str := ["_law_script", "_law_bag_here", "_law_letters", "_law_turn", "_law_word", "_law_at_z", "_law_bent", "_law_right", "_law_number", "_law_low", "_law_high", "_law_due", "_law_found", "_law_k"]
theorem sc_law : FnScope ["_law_script", "_law_bag_here", "_law_letters", "_law_turn", "_law_word", "_law_at_z", "_law_bent", "_law_right", "_law_number", "_law_low", "_law_high", "_law_due", "_law_found", "_law_k"] ["_law_script"] (defScope s_law) := ⟨rfl, rfl, rfl, by decide +kernel, rfl, by decide +kernel, by decide +kernel⟩
structure Txt (K : PySem.W.Frag) (mg : Str → Option Value) where
  z_abs : mg "abs" = none
  z_all : mg "all" = none
  z_bool : mg "bool" = none
  z_int : mg "int" = none
  z_isinstance : mg "isinstance" = none
  z_len : mg "len" = none
  z_list : mg "list" = none
  z_range : mg "range" = none
  z_str : mg "str" = none
  z_tuple : mg "tuple" = none
  z_zip : mg "zip" = none
  d_is_name : Def K mg "is_name" s_is_name ["value"]
  d_is_integer : Def K mg "is_integer" s_is_integer ["value"]
  d_is_number : Def K mg "is_number" s_is_number ["value", "least", "most"]
  d_is_end : Def K mg "is_end" s_is_end ["value"]
  d_is_entry : Def K mg "is_entry" s_is_entry ["value"]
  d__law_bag : Def K mg "_law_bag" s_law_bag ["_law_script"]
  d__law_draw : Def K mg "_law_draw" s_law_draw ["_law_bag_here", "_law_many"]
  d__law_of : Def K mg "_law_of" s_law_of ["_law_bag_here", "_law_some"]
  d__law_same : Def K mg "_law_same" s_law_same ["_law_found", "_law_due"]
  d__law_strange : Def K mg "_law_strange" s_law_strange ["_law_bag_here"]
  d__law_end_so : Def K mg "_law_end_so" s_law_end_so ["_law_bag_here", "_law_word", "_law_bent"]
  d__law_entry_so : Def K mg "_law_entry_so" s_law_entry_so ["_law_bag_here", "_law_word", "_law_bent"]
  d_law : Def K mg "law" s_law ["_law_script"]
  tL : Tok
  c_LETTERS : mg "LETTERS" = some (.str "abcdefghijklmnopqrstuvwxyz" tL)
  tM : Tok
  c_MOST_LETTERS : mg "MOST_LETTERS" = some (.int 6 tM)
  tS : Tok
  c_MOST_STEPS : mg "MOST_STEPS" = some (.int 6 tS)
  aS : Addr
  c_SIDES : mg "SIDES" = some (.ref aS)
  k_SIDES : ∀ H : Hp, SqT K H aS [.str "a", .str "b", .str "c", .str "d", .str "left", .str "right", .str "stem"]
def bl (c : Addr) (i r m n : Int) : HO := .lst [.ref c, .int i, .int r, .int m, .int n]
section
variable {P : Program} {w : World} {K : PySem.W.Frag} {mg : Str → Option Value} {base : Heap}
def spDraw : Sp := fun vs H Q _ => ∃ (b : Addr) (k : Int), vs = [.ref b, .int k] ∧ Bag H b ∧ 0 < k ∧ k < 1000000 ∧
  ∀ d H', Go b H H' → 0 ≤ d → d < k → Q (.int d) H'
theorem at0 {α : Type} {x : α} {r : List α} : atI (x :: r) 0 = some x := atI_nat (j := 0) rfl
theorem ok_law_draw (T : Txt K mg) : FnOk P w K mg base CX0 1 T.d__law_draw.f T.d__law_draw.fd ["_law_bag_here", "_law_many"] spDraw := by
  refine T.d__law_draw.F.ok sc_law_draw (fun vs H Q E h => ?_) (fun cdv A outer s H vs Q E hr h => ?_)
  · obtain ⟨b, k, rfl, _⟩ := h
    rfl
  · obtain ⟨b, k, rfl, hB, k0, k1, q⟩ := h
    refine ⟨_, (pss_cut (ps_asg (pe_op op_add (pe_ix ix_list (pv 0) pe_int (fun _ _ => rfl)) pe_int) (pg_sub (pv 0) pe_int set_list))
      (pss_cut (ps_if (PW.pt (pw_and (pt_cmpR op_eq (pe_ix ix_list (pv 0) pe_int (fun _ _ => rfl)) pe_int (nomark _)) (pw_and1 (pt_cmpR op_lt (pe_ix ix_list (pv 0) pe_int (fun _ _ => rfl)) (pe_callB call_len_seq (by rfl) T.z_len (by decide +kernel) (pa_cons (pe_ix ix_list (pv 0) pe_int (fun _ _ => rfl)) pa_nil)) (nomark _))))) (pss_cons (ps_set (i := 2) sc_law_draw.nd rfl (Or.inl rfl) (pe_callB call_abs (by rfl) T.z_abs (by decide +kernel) (pa_cons (pe_ix ix_list (pe_ix ix_list (pv 0) pe_int (fun _ _ => rfl)) (pe_ix ix_list (pv 0) pe_int (fun _ _ => rfl)) (fun _ _ => rfl)) pa_nil)))
      (pss_cons (ps_asg (pe_op op_add (pe_ix ix_list (pv 0) pe_int (fun _ _ => rfl)) pe_int) (pg_sub (pv 0) pe_int set_list))
      (pss_one (ps_if (pt_cmpR op_ge (pv 2) (pe_op op_pow pe_int pe_int) (nomark _)) (pss_one (ps_asg (pv 2) (pg_sub (pv 0) pe_int set_list))) (pss_one (ps_asg (pe_op op_mod (pe_callTy call_int1 (by rfl) T.z_int (by decide +kernel) (pa_cons (pe_op op_add (pe_op op_add (pe_op op_mul (pe_ix ix_list (pv 0) pe_int (fun _ _ => rfl)) pe_int) (pe_op op_mul (pe_op op_mod (pe_callTy call_int1 (by rfl) T.z_int (by decide +kernel) (pa_cons (pv 2) pa_nil)) pe_int) pe_int)) pe_int) pa_nil)) pe_int) (pg_sub (pv 0) pe_int set_list))))))) pss_nil)
      (pss_cut (ps_if (pt_cmpR op_gt (pe_ix ix_list (pv 0) pe_int (fun _ _ => rfl)) pe_int (nomark _)) (pss_cons (ps_set (i := 3) sc_law_draw.nd rfl (Or.inl rfl) (pe_op op_mod (pe_callTy call_int1 (by rfl) T.z_int (by decide +kernel) (pa_cons (pe_ix ix_list (pv 0) pe_int (fun _ _ => rfl)) pa_nil)) (pv 1)))
      (pss_cons (ps_asg (pe_op op_fdiv (pe_ix ix_list (pv 0) pe_int (fun _ _ => rfl)) (pv 1)) (pg_sub (pv 0) pe_int set_list))
      (pss_one (ps_ret (pv 3))))) pss_nil)
      (pss_cons (ps_set (i := 4) sc_law_draw.nd rfl (Or.inl rfl) (pe_op op_mod (pe_callTy call_int1 (by rfl) T.z_int (by decide +kernel) (pa_cons (pe_op op_add (pe_op op_mul (pe_ix ix_list (pv 0) pe_int (fun _ _ => rfl)) (pe_ix ix_list (pv 0) pe_int (fun _ _ => rfl))) (pe_op op_mul (pe_ix ix_list (pv 0) pe_int (fun _ _ => rfl)) pe_int)) pa_nil)) pe_int))
      (pss_cons (ps_asg (pe_op op_mod (pe_callTy call_int1 (by rfl) T.z_int (by decide +kernel) (pa_cons (pe_op op_add (pe_op op_add (pe_op op_mul (pv 4) pe_int) (pe_op op_mul (pe_ix ix_list (pv 0) pe_int (fun _ _ => rfl)) pe_int)) pe_int) pa_nil)) pe_int) (pg_sub (pv 0) pe_int set_list))
      (pss_one (ps_ret (pe_op op_mod (pe_callTy call_int1 (by rfl) T.z_int (by decide +kernel) (pa_cons (pe_op op_add (pe_op op_fdiv (pe_ix ix_list (pv 0) pe_int (fun _ _ => rfl)) pe_int) (pe_op op_mul (pe_op op_mod (pe_callTy call_int1 (by rfl) T.z_int (by decide +kernel) (pa_cons (pe_ix ix_list (pv 0) pe_int (fun _ _ => rfl)) pa_nil)) pe_int) pe_int)) pa_nil)) (pv 1))))))))), ?_⟩
    obtain ⟨c, ns, i, r, m, n, hb, hc, ec, i0, r0, m0, m1⟩ := hB
    have hcb : ∀ o, (upd H b o) c = some (.lst (ns.map V.int)) := fun o => by rw [upd_ne hc]; exact ec
    refine ⟨fun σ H' => σ = [some (.ref b), some (.int k), none, none, none] ∧ H' = upd H b (bl c i r m (n + 1)), ?_, ?_⟩
    · refine ⟨.ref b, rfl, b, _, 4, .int n, rfl, rfl, SqL.of hb, atI_nat (j := 4) rfl, n, 1, rfl, rfl, .ref b, rfl, b, _, 4, 4, rfl, rfl, hb, rfl, rfl, rfl⟩
    rintro σ H' ⟨rfl, rfl⟩
    refine ⟨fun σ H' => ∃ v i r m n, σ = [some (.ref b), some (.int k), v, none, none] ∧ H' = upd H b (bl c i r m n) ∧ 0 ≤ i ∧ 0 ≤ r ∧ 0 ≤ m ∧ m < 2147483587, ?_, ?_⟩
    · refine ⟨.ref b, rfl, b, _, 2, .int r, rfl, rfl, SqL.of upd_same, atI_nat (j := 2) rfl, rfl, _, rfl, ite2 (fun e => ?_) (fun e => ?_)⟩
      · refine ⟨.ref b, rfl, b, _, 1, .int i, rfl, rfl, SqL.of upd_same, atI_nat (j := 1) rfl, .ref b, rfl, b, _, 0, .ref c, rfl, rfl, SqL.of upd_same, atI_nat (j := 0) rfl, c, _, rfl, .inl (SqL.of (hcb _)), i, _, rfl, rfl, _, rfl, ite2 (fun e2 => ?_) (fun e2 => ?_)⟩
        · have hi : i < ns.length := by
            have := of_decide_eq_true e2
            rw [List.length_map] at this
            exact this
          obtain ⟨x, hx⟩ : ∃ x, (ns.map V.int)[i.toNat]? = some (.int x) := by
            have hj : i.toNat < ns.length := by omega
            exact ⟨ns[i.toNat], by rw [List.getElem?_map, List.getElem?_eq_getElem hj]; rfl⟩
          have ha : atI (ns.map V.int) i = some (.int x) := by
            have := atI_nat hx
            rwa [Int.toNat_of_nonneg i0] at this
          refine ⟨.ref b, rfl, b, _, 0, .ref c, rfl, rfl, SqL.of upd_same, atI_nat (j := 0) rfl, .ref b, rfl, b, _, 1, .int i, rfl, rfl, SqL.of upd_same, atI_nat (j := 1) rfl, c, _, i, .int x, rfl, rfl, SqL.of (hcb _), ha, x, rfl, ?_⟩
          generalize ey : (if x < 0 then -x else x) = y
          have y0 : 0 ≤ y := by rw [← ey]; split <;> omega
          refine ⟨.ref b, rfl, b, _, 1, .int i, rfl, rfl, SqL.of upd_same, atI_nat (j := 1) rfl, i, 1, rfl, rfl, .ref b, rfl, b, _, 1, 1, rfl, rfl, upd_same, rfl, ?_⟩
          rw [upd_upd]
          refine ⟨.int y, rfl, 10, 18, rfl, rfl, ⟨by decide, by decide, by decide⟩, y, _, rfl, rfl, _, rfl, ite2 (fun e3 => ?_) (fun e3 => ?_)⟩
          · refine ⟨.int y, rfl, .ref b, rfl, b, _, 2, 2, rfl, rfl, upd_same, rfl, ?_⟩
            rw [upd_upd]
            exact ⟨_, i + 1, y, m, n + 1, rfl, rfl, by omega, y0, m0, m1⟩
          · refine ⟨.ref b, rfl, b, _, 3, .int m, rfl, rfl, SqL.of upd_same, atI_nat (j := 3) rfl, m, _, rfl, rfl, .inr ⟨by decide, by decide⟩, .int y, rfl, .inl ⟨y, rfl, y, _, rfl, rfl, (by show (0 : Int) < 1000033; decide), _, _, rfl, rfl, .inr ⟨by decide, by decide⟩, _, _, rfl, rfl, _, _, rfl, rfl, .inl ⟨_, rfl, ?_⟩⟩⟩
            refine ⟨_, _, rfl, rfl, (by show (0 : Int) < 2147483587; decide), .ref b, rfl, b, _, 3, 3, rfl, rfl, upd_same, rfl, ?_⟩
            rw [upd_upd]
            exact ⟨_, i + 1, r, _, n + 1, rfl, rfl, by omega, r0, Int.emod_nonneg _ (by decide), Int.emod_lt_of_pos _ (by decide)⟩
        · exact ⟨none, i, r, m, n + 1, rfl, rfl, i0, r0, m0, m1⟩
      · exact iteF ⟨none, i, r, m, n + 1, rfl, rfl, i0, r0, m0, m1⟩
    rintro σ H' ⟨v, i, r, m, n, rfl, rfl, i0, r0, m0, m1⟩
    have fin : ∀ i r m n : Int, 0 ≤ i → 0 ≤ r → 0 ≤ m → m < 2147483587 → Go b H (upd H b (bl c i r m n)) := fun i r m n i0 r0 m0 m1 =>
      ⟨⟨c, ns, i, r, m, n, upd_same, hc, hcb _, i0, r0, m0, m1⟩, fun a o na e => by rw [upd_ne na]; exact e, fun c2 h2 => by
        obtain ⟨r2, e2⟩ := h2
        rw [hb] at e2
        cases e2
        exact ⟨_, upd_same⟩⟩
    refine ⟨fun σ H' => σ = [some (.ref b), some (.int k), v, none, none] ∧ H' = upd H b (bl c i r m n), ?_, ?_⟩
    · refine ⟨.ref b, rfl, b, _, 2, .int r, rfl, rfl, SqL.of upd_same, atI_nat (j := 2) rfl, r, _, rfl, rfl, _, rfl, ite2 (fun e => ?_) (fun e => ?_)⟩
      · refine ⟨.ref b, rfl, b, _, 2, .int r, rfl, rfl, SqL.of upd_same, atI_nat (j := 2) rfl, .inl ⟨r, rfl, .int k, rfl, r, k, rfl, rfl, k0, ?_⟩⟩
        refine ⟨.ref b, rfl, b, _, 2, .int r, rfl, rfl, SqL.of upd_same, atI_nat (j := 2) rfl, .int k, rfl, r, k, rfl, rfl, ⟨k0, by omega⟩, .ref b, rfl, b, _, 2, 2, rfl, rfl, upd_same, rfl, ?_⟩
        rw [upd_upd]
        refine ⟨_, rfl, ?_⟩
        exact q _ _ (fin i (r / k) m n i0 (Int.ediv_nonneg r0 (by omega)) m0 m1) (Int.emod_nonneg _ (by omega)) (Int.emod_lt_of_pos _ k0)
      · exact ⟨rfl, rfl⟩
    rintro σ H' ⟨rfl, rfl⟩
    refine ⟨.ref b, rfl, b, _, 3, .int m, rfl, rfl, SqL.of upd_same, atI_nat (j := 3) rfl, .ref b, rfl, b, _, 3, .int m, rfl, rfl, SqL.of upd_same, atI_nat (j := 3) rfl, m, m, rfl, rfl, .inl ⟨by omega, by omega⟩, .ref b, rfl, b, _, 4, .int n, rfl, rfl, SqL.of upd_same, atI_nat (j := 4) rfl, n, _, rfl, rfl, .inr ⟨by decide, by decide⟩, _, _, rfl, rfl, .inl ⟨_, rfl, _, _, rfl, rfl, (by show (0 : Int) < 2147483629; decide), ?_⟩⟩
    dsimp only
    generalize ez : (m * m + n * 10331) % 2147483629 = z
    have z0 : 0 ≤ z := by rw [← ez]; exact Int.emod_nonneg _ (by decide)
    have z1 : z < 2147483629 := by rw [← ez]; exact Int.emod_lt_of_pos _ (by decide)
    refine ⟨.int z, rfl, z, _, rfl, rfl, .inr ⟨by decide, by decide⟩, .ref b, rfl, b, _, 3, .int m, rfl, rfl, SqL.of upd_same, atI_nat (j := 3) rfl, m, _, rfl, rfl, .inr ⟨by decide, by decide⟩, _, _, rfl, rfl, _, _, rfl, rfl, .inl ⟨_, rfl, _, _, rfl, rfl, (by show (0 : Int) < 2147483587; decide), .ref b, rfl, b, _, 3, 3, rfl, rfl, upd_same, rfl, ?_⟩⟩
    rw [upd_upd]
    dsimp only
    generalize ey : (z * 19319 + m * 43037 + 70019) % 2147483587 = y
    have y0 : 0 ≤ y := by rw [← ey]; exact Int.emod_nonneg _ (by decide)
    have y1 : y < 2147483587 := by rw [← ey]; exact Int.emod_lt_of_pos _ (by decide)
    refine ⟨.ref b, rfl, b, _, 3, .int y, rfl, rfl, SqL.of upd_same, atI_nat (j := 3) rfl, y, _, rfl, rfl, ⟨by decide, by decide⟩, .ref b, rfl, b, _, 3, .int y, rfl, rfl, SqL.of upd_same, atI_nat (j := 3) rfl, .inl ⟨y, rfl, y, _, rfl, rfl, (by show (0 : Int) < 7919; decide), _, _, rfl, rfl, .inr ⟨by decide, by decide⟩, _, _, rfl, rfl, .inl ⟨_, rfl, .int k, rfl, _, k, rfl, rfl, k0, ?_⟩⟩⟩
    exact q _ _ (fin i r y n i0 r0 y0 y1) (Int.emod_nonneg _ (by omega)) (Int.emod_lt_of_pos _ k0)
end
end Rd
set_option maxHeartbeats 2000000
namespace Rd
open PySem PySem.Spec PyProof.Rows L2
open C8 (pss_cut tCut)
section
variable {P : Program} {w : World} {K : PySem.W.Frag} {mg : Str → Option Value} {base : Heap}
theorem same_new {H : Hp} {p : Addr} {o : HO} (h : H p = none) : Same H (upd H p o) := fun b x e => by
  rw [upd_ne (ne_of_none e h)]
  exact e
theorem ints_at {ns : List Int} {i : Nat} {y : V} (h : (ns.map V.int)[i]? = some y) : ∃ z, y = V.int z := by
  rw [List.getElem?_map] at h
  cases e : ns[i]? with
  | none => rw [e] at h; cases h
  | some z => rw [e] at h; exact ⟨z, (Option.some.inj h).symm⟩
theorem cut63 (ns : List Int) (h : ns.length ≤ 63) : cutV (ns.map V.int) none (some 63) = ns.map V.int := by
  unfold cutV
  have e1 : HT.sIx (ns.map V.int).length 0 none = 0 := HT.sIx_none _ _
  have e2 : HT.sIx (ns.map V.int).length (ns.map V.int).length (some 63) = min 63 (ns.map V.int).length := HT.sIx_nat _ _ 63
  rw [e1, e2, List.drop_zero, List.length_map]
  exact List.take_of_length_le (by rw [List.length_map]; omega)
def spBag (K : PySem.W.Frag) : Sp := fun vs H Q _ => ∃ (a : Addr) (ns : List Int), vs = [.ref a] ∧ SqL K H a (ns.map V.int) ∧ ns.length ≤ 63 ∧
  ∀ b H', H b = none → Same H H' → Bag H' b → Q (.ref b) H'
theorem ok_law_bag (T : Txt K mg) : FnOk P w K mg base CX0 1 T.d__law_bag.f T.d__law_bag.fd ["_law_script"] (spBag K) := by
  refine T.d__law_bag.F.ok sc_law_bag (fun vs H Q E h => ?_) (fun cdv A outer s H vs Q E hr h => ?_)
  · obtain ⟨b, k, rfl, _⟩ := h
    rfl
  · obtain ⟨a, ns, rfl, hS, hl, q⟩ := h
    refine ⟨_, (pss_cons (ps_set (i := 1) sc_law_bag.nd rfl (Or.inl rfl) pe_int)
      (pss_cons (ps_for PassesOwn.never rfl (pi_list (pe_slice sl_list (pv 0) po_none (po_some pe_int))) (pg_name (i := 2) sc_law_bag.nd rfl (Or.inl rfl)) (pss_one (ps_set (i := 1) sc_law_bag.nd rfl (Or.inl rfl) (pe_op op_mod (pe_callTy call_int1 (by rfl) T.z_int (by decide +kernel) (pa_cons (pe_op op_add (pe_op op_add (pe_op op_mul (pv 1) pe_int) (pe_op op_mul (pe_op op_mod (pe_callTy call_int1 (by rfl) T.z_int (by decide +kernel) (pa_cons (pv 2) pa_nil)) pe_int) pe_int)) pe_int) pa_nil)) pe_int))))
      (pss_one (ps_ret (pe_lst (pa_cons (pe_callTy call_list_of (by rfl) T.z_list (by decide +kernel) (pa_cons (pe_slice sl_list (pv 0) po_none (po_some pe_int)) pa_nil)) (pa_cons pe_int (pa_cons pe_int (pa_cons (pv 1) (pa_cons pe_int pa_nil)))))))))), ?_⟩
    refine ⟨.ref a, rfl, 63, rfl, a, _, rfl, hS, fun p np => ?_⟩
    rw [cut63 ns hl]
    refine ⟨p, rfl, ⟨_, SqL.of upd_same⟩, for_list (K := K) (a := p) (xs := ns.map V.int) (fun i σ H2 => ∃ (m : Int) (v : Option V), σ = [some (.ref a), some (.int m), v] ∧ 0 ≤ m ∧ m < 2147483587 ∧ H2 = upd H p (.lst (ns.map V.int)))
      ⟨12027, none, rfl, by decide, by decide, rfl⟩ (fun i σ H2 _ ⟨_, _, _, _, _, e⟩ => by rw [e]; exact SqL.of upd_same) ?_ ?_⟩
    · rintro i y σ H2 hi ⟨m, v, rfl, m0, m1, rfl⟩
      obtain ⟨z, rfl⟩ := ints_at hi
      refine ⟨.int m, rfl, m, _, rfl, rfl, .inr ⟨by decide, by decide⟩, .int z, rfl, .inl ⟨z, rfl, z, _, rfl, rfl, (by show (0 : Int) < 1000033; decide), _, _, rfl, rfl, .inr ⟨by decide, by decide⟩, _, _, rfl, rfl, _, _, rfl, rfl, .inl ⟨_, rfl, _, _, rfl, rfl, (by show (0 : Int) < 2147483563; decide), ?_⟩⟩⟩
      exact ⟨_, _, rfl, Int.emod_nonneg _ (by decide), Int.lt_of_lt_of_le (Int.emod_lt_of_pos _ (by decide)) (by decide), rfl⟩
    · rintro σ H2 ⟨m, v, rfl, m0, m1, rfl⟩
      refine ⟨.ref a, rfl, 63, rfl, a, _, rfl, (same_new np).seq hS, fun p2 np2 => ?_⟩
      rw [cut63 ns hl]
      refine ⟨p2, _, rfl, .inl (SqL.of upd_same), fun c nc => ⟨.int m, rfl, by show 5 ≤ sizeLine; decide, fun b nb => ?_⟩⟩
      have s1 := same_new (o := .lst (ns.map V.int)) np
      have s2 := s1.trans (same_new (o := .lst (ns.map V.int)) np2)
      have s3 := s2.trans (same_new (o := .lst (ns.map V.int)) nc)
      have ncb : c ≠ b := ne_of_none upd_same nb
      refine q b _ (s3.free nb) (s3.trans (same_new nb)) ⟨c, ns, 0, 0, m, 0, upd_same, ncb, by rw [upd_ne ncb]; exact upd_same, by decide, by decide, m0, m1⟩
/-! ### one of some -/
def spOfL : Sp := fun vs H Q _ => ∃ (b l : Addr) (xs : List V), vs = [.ref b, .ref l] ∧ Bag H b ∧ l ≠ b ∧ H l = some (.lst xs) ∧ 0 < xs.length ∧ xs.length < 1000 ∧
  ∀ v H', Go b H H' → v ∈ xs → Q v H'
theorem sc_of' : FnScope N_law_of ["_law_bag_here", "_law_some"] (defScope s_law_of) := sc_law_of
theorem atI_mem {xs : List V} {d : Int} (h0 : 0 ≤ d) (h1 : d < xs.length) : ∃ v, atI xs d = some v ∧ v ∈ xs := by
  have hj : d.toNat < xs.length := by omega
  refine ⟨xs[d.toNat], ?_, List.getElem_mem hj⟩
  have := atI_nat (xs := xs) (j := d.toNat) (v := xs[d.toNat]) (List.getElem?_eq_getElem hj)
  rwa [Int.toNat_of_nonneg h0] at this
theorem ok_law_ofL (T : Txt K mg) : FnOk P w K mg base CX0 2 T.d__law_of.f T.d__law_of.fd ["_law_bag_here", "_law_some"] spOfL := by
  refine T.d__law_of.F.ok sc_law_of (fun vs H Q E h => ?_) (fun cdv A outer s H vs Q E hr h => ?_)
  · obtain ⟨b, l, xs, rfl, _⟩ := h
    rfl
  · obtain ⟨b, l, xs, rfl, hB, nl, hl, h0, h1, q⟩ := h
    refine ⟨_, (pss_one (ps_ret (pe_ix ix_list (pv 1) (pe_call (ok_law_draw T) (hr.mono (by decide)) (by rfl) T.d__law_draw.g T.d__law_draw.F.kp T.d__law_draw.b .nil pass0 (pa_cons (pv 0) (pa_cons (pe_callB call_len_seq (by rfl) T.z_len (by decide +kernel) (pa_cons (pv 1) pa_nil)) pa_nil))) (fun _ _ => rfl)))), ?_⟩
    refine ⟨.ref l, rfl, .ref b, rfl, .ref l, rfl, l, xs, rfl, .inl (SqL.of hl), b, _, rfl, hB, by omega, by omega, fun d H' g d0 d1 => ?_⟩
    obtain ⟨v, hv, mv⟩ := atI_mem d0 d1
    exact ⟨l, xs, d, v, rfl, rfl, SqL.of (g.2 _ _ nl hl), hv, q v H' g mv⟩
/-- one sign of a text -/
def spOfS : Sp := fun vs H Q _ => ∃ (b : Addr) (z : Str), vs = [.ref b, .str z] ∧ Bag H b ∧ 0 < z.length ∧ z.length < 1000 ∧
  ∀ c H', Go b H H' → c ∈ z.cps.toList → Q (.str ⟨#[c]⟩) H'
theorem ok_law_ofS (T : Txt K mg) : FnOk P w K mg base CX0 2 T.d__law_of.f T.d__law_of.fd ["_law_bag_here", "_law_some"] spOfS := by
  refine T.d__law_of.F.ok sc_law_of (fun vs H Q E h => ?_) (fun cdv A outer s H vs Q E hr h => ?_)
  · obtain ⟨b, z, rfl, _⟩ := h
    rfl
  · obtain ⟨b, z, rfl, hB, h0, h1, q⟩ := h
    refine ⟨_, (pss_one (ps_ret (pe_ix ix_str (pv 1) (pe_call (ok_law_draw T) (hr.mono (by decide)) (by rfl) T.d__law_draw.g T.d__law_draw.F.kp T.d__law_draw.b .nil pass0 (pa_cons (pv 0) (pa_cons (pe_callB call_len_str (by rfl) T.z_len (by decide +kernel) (pa_cons (pv 1) pa_nil)) pa_nil))) (fun _ _ => rfl)))), ?_⟩
    refine ⟨.str z, rfl, .ref b, rfl, .str z, rfl, z, rfl, Nat.le_of_lt (small1000 (by omega)), b, _, rfl, hB, by omega, by omega, fun d H' g d0 d1 => ?_⟩
    have e : z.cps.toList.length = z.length := by simp [Str.length]
    have hj : d.toNat < z.cps.toList.length := by omega
    have ha := atI_nat (xs := z.cps.toList) (j := d.toNat) (List.getElem?_eq_getElem hj)
    rw [Int.toNat_of_nonneg d0] at ha
    exact ⟨z, d, _, rfl, rfl, Nat.le_of_lt (small1000 (by omega)), ha, q _ H' g (List.getElem_mem hj)⟩
end
end Rd
set_option maxHeartbeats 4000000
namespace Rd
open PySem PySem.Spec PyProof.Rows L2
open C8 (pss_cut tCut)
open RZ (ItzT pi_zipA)
/-! ### two values that are the same data -/
def isSc : V → Bool
  | .non => true
  | .bl _ => true
  | .int _ => true
  | .str _ => true
  | _ => false
def Eqv (K : PySem.W.Frag) (H : Hp) : Nat → V → V → Prop
  | 0, x, y => x = y ∧ isSc x = true
  | n + 1, x, y => (x = y ∧ isSc x = true) ∨ ∃ (a b : Addr) (xs ys : List V), x = .ref a ∧ y = .ref b ∧ ((SqL K H a xs ∧ SqL K H b ys) ∨ (SqT K H a xs ∧ SqT K H b ys)) ∧ xs.length = ys.length ∧ xs.length ≤ 1000 ∧
      ∀ (i : Nat) (x y : V), xs[i]? = some x → ys[i]? = some y → Eqv K H n x y
theorem Eqv.sc {K : PySem.W.Frag} {H : Hp} {x : V} (h : isSc x = true) : ∀ n, Eqv K H n x x
  | 0 => ⟨rfl, h⟩
  | _ + 1 => .inl ⟨rfl, h⟩
theorem same_seqT {K : PySem.W.Frag} {H H' : Hp} {a : Addr} {xs : List V} (e : Same H H') (h : SqT K H a xs) : SqT K H' a xs := by
  rcases h with (h | ⟨o, h⟩) | h
  · exact .inl (.inl (e _ _ h))
  · exact .inl (.inr ⟨o, e _ _ h⟩)
  · exact .inr h
theorem Eqv.same {K : PySem.W.Frag} {H H' : Hp} (s : Same H H') : ∀ {n : Nat} {x y : V}, Eqv K H n x y → Eqv K H' n x y
  | 0, _, _, h => h
  | n + 1, _, _, h => by
    rcases h with h | ⟨a, b, xs, ys, e1, e2, hq, l, l2, r⟩
    · exact .inl h
    · refine .inr ⟨a, b, xs, ys, e1, e2, ?_, l, l2, fun i x y h1 h2 => (r i x y h1 h2).same s⟩
      rcases hq with ⟨h1, h2⟩ | ⟨h1, h2⟩
      · exact .inl ⟨s.seq h1, s.seq h2⟩
      · exact .inr ⟨same_seqT s h1, same_seqT s h2⟩
theorem ty_seqL {K : PySem.W.Frag} {H : Hp} {a : Addr} {xs : List V} (h : SqL K H a xs) : TyX K H (.ref a) (.type "list") := by
  rcases h with (h | ⟨o, h⟩) | ⟨o, its, n, h, c, _⟩
  · exact .base (.lst h)
  · exact .base (.frz h)
  · exact .kList h c
theorem ty_seqT {K : PySem.W.Frag} {H : Hp} {a : Addr} {xs : List V} (h : SqT K H a xs) : TyX K H (.ref a) (.type "tuple") := by
  rcases h with (h | ⟨o, h⟩) | ⟨o, its, n, h, c, _⟩
  · exact .base (.tup h)
  · exact .fTuple h
  · exact .kTuple h c
/-- the built-in type of a value that is no object of an own class -/
def tyn : V → String
  | .non => "NoneType"
  | .bl _ => "bool"
  | .int _ => "int"
  | .str _ => "str"
  | _ => "list"
theorem ty_sc {K : PySem.W.Frag} {H : Hp} {x : V} (h : isSc x = true) : TyX K H x (.type (tyn x)) := by
  cases x with
  | non => exact .base .non
  | bl b => exact .base (.bl b)
  | int i => exact .base (.int i)
  | str s => exact .base (.str s)
  | _ => cases h
theorem kit2 {K : PySem.W.Frag} {t c1 c2 : String} {b1 b2 : Bool} (h1 : kitB t c1 = some b1) (h2 : kitB t c2 = some b2) : PySem.W.kitAny K (.type t) [.type c1, .type c2] = some (b1 || b2) := by
  refine kitAny_cons (kit_ty h1) (fun e => kitAny_cons (kit_ty h2) (fun e2 => ?_) fun e2 => ?_) fun e => ?_
  · rw [e, e2]; exact kitAny_nil
  · rw [e, e2]; rfl
  · rw [e]; rfl
section
variable {K : PySem.W.Frag} {a b : Addr} {xs ys : List V}
theorem walk_zipT {n : Nat} (hn : n = min xs.length ys.length) : Walk (ItzT K a b) n (fun H => SqT K H a xs ∧ SqT K H b ys) (YPair (fun i => xs[i]?) (fun i => ys[i]?)) where
  goes := fun i H hi q => by
    have h1 : i < xs.length := by omega
    have h2 : i < ys.length := by omega
    exact ⟨xs, ys, xs[i], ys[i], q.1, q.2, List.getElem?_eq_getElem h1, List.getElem?_eq_getElem h2⟩
  stops := fun H q => ⟨xs, ys, q.1, q.2, by omega⟩
  yields := fun i H v H' hi q y => by
    obtain ⟨T, x, z, h1, h2, h3, h4, h5⟩ := y
    exact ⟨T, x, z, h1, h2, h3, h4 xs q.1, h5 ys q.2⟩
end
section
variable {P : Program} {w : World} {K : PySem.W.Frag} {mg : Str → Option Value} {base : Heap}
def spSame (K : PySem.W.Frag) (n : Nat) : Sp := fun vs H Q _ => ∃ x y, vs = [x, y] ∧ Eqv K H n x y ∧ ∀ H', Same H H' → Q (.bl true) H'
theorem all_true (k : Nat) : (List.replicate k true).all id = true := by
  induction k with
  | zero => rfl
  | succ n ih => rw [List.replicate_succ, List.all_cons, ih]; rfl
theorem ok_law_same (T : Txt K mg) : ∀ n, FnOk P w K mg base CX0 (n + 1) T.d__law_same.f T.d__law_same.fd ["_law_found", "_law_due"] (spSame K n) := by
  -- the way of a value that is no list and no tuple
  have sc : ∀ (n : Nat) (x : V), isSc x = true → ∀ (cdv : Value) (A : Around) (outer : List Env) (s : Shared) (H : Hp) (Q : VK) (E : XK), Room n (A.deeper (envOfC "_law_same" (defScope s_law_same) s.heap.objs.size T.d__law_same.f cdv)) →
      (∀ H', Same H H' → Q (.bl true) H') →
      ∃ t, PSs (cxOf CX0 P w K mg base N_law_same "_law_same" (defScope s_law_same) T.d__law_same.f cdv A outer s H E).nox (defBody s_law_same) t ∧ t { nx := fun _ H' => Q .non H', rt := Q } (start N_law_same [x, x]) H := by
    intro n x hx cdv A outer s H Q E hr q
    refine ⟨_, (pss_cons (ps_if (PW.pt (pw_or (pt_cmpR op_isN (pv 1) pe_non (nomark _)) (pw_or1 (pt_cmpR op_isN (pv 0) pe_non (nomark _))))) (pss_one (ps_ret (pe_and (pe_cmpR op_isN (pv 1) pe_non (nomark _)) (pe_one (pe_cmpR op_isN (pv 0) pe_non (nomark _)))))) pss_nil)
      (pss_cons (ps_if (pt_val (pe_callB call_isiT (by rfl) T.z_isinstance (by decide +kernel) (pa_cons (pv 1) (pa_cons (pe_tup (pa_cons (pe_bltn (v := .ty "list") (by rfl) T.z_list (by decide +kernel) rfl) (pa_cons (pe_bltn (v := .ty "tuple") (by rfl) T.z_tuple (by decide +kernel) rfl) pa_nil))) pa_nil)))) (pss_cons ps_never (pss_one ps_never)) pss_nil)
      (pss_cons (ps_if (PW.pt (pw_or (pt_cmpR op_ne (pe_callB call_isi (by rfl) T.z_isinstance (by decide +kernel) (pa_cons (pv 0) (pa_cons (pe_bltn (v := .ty "bool") (by rfl) T.z_bool (by decide +kernel) rfl) pa_nil))) (pe_callB call_isi (by rfl) T.z_isinstance (by decide +kernel) (pa_cons (pv 1) (pa_cons (pe_bltn (v := .ty "bool") (by rfl) T.z_bool (by decide +kernel) rfl) pa_nil))) (nomark _)) (pw_or1 (pt_cmpR op_ne (pe_callB call_isi (by rfl) T.z_isinstance (by decide +kernel) (pa_cons (pv 0) (pa_cons (pe_bltn (v := .ty "int") (by rfl) T.z_int (by decide +kernel) rfl) pa_nil))) (pe_callB call_isi (by rfl) T.z_isinstance (by decide +kernel) (pa_cons (pv 1) (pa_cons (pe_bltn (v := .ty "int") (by rfl) T.z_int (by decide +kernel) rfl) pa_nil))) (nomark _))))) (pss_one (ps_ret pe_bl)) pss_nil)
      (pss_one (ps_ret (pe_and (pe_cmpR op_eq (pe_callB call_isi (by rfl) T.z_isinstance (by decide +kernel) (pa_cons (pv 0) (pa_cons (pe_bltn (v := .ty "str") (by rfl) T.z_str (by decide +kernel) rfl) pa_nil))) (pe_callB call_isi (by rfl) T.z_isinstance (by decide +kernel) (pa_cons (pv 1) (pa_cons (pe_bltn (v := .ty "str") (by rfl) T.z_str (by decide +kernel) rfl) pa_nil))) (nomark _)) (pe_one (pe_cmpR op_eq (pv 0) (pv 1) (nomark _))))))))), ?_⟩
    by_cases hn : x = .non
    · subst hn
      exact ⟨.non, rfl, rfl, true, rfl, iteT (iteT ⟨.non, rfl, rfl, true, rfl, iteT ⟨.non, rfl, rfl, q H (Same.refl H)⟩⟩)⟩
    · have hd : decide (x = V.non) = false := decide_eq_false hn
      refine ⟨x, rfl, rfl, false, by rw [hd], iteF ⟨x, rfl, rfl, false, by rw [hd], iteF ?_⟩⟩
      have kl : kitB (tyn x) "list" = some false ∧ kitB (tyn x) "tuple" = some false := by
        cases x with
        | non => exact absurd rfl hn
        | bl b => exact ⟨by show kitB "bool" _ = _; decide +kernel, by show kitB "bool" _ = _; decide +kernel⟩
        | int b => exact ⟨by show kitB "int" _ = _; decide +kernel, by show kitB "int" _ = _; decide +kernel⟩
        | str b => exact ⟨by show kitB "str" _ = _; decide +kernel, by show kitB "str" _ = _; decide +kernel⟩
        | _ => cases hx
      obtain ⟨bb, kb⟩ : ∃ bb, kitB (tyn x) "bool" = some bb := by
        cases x with
        | non => exact absurd rfl hn
        | bl b => exact ⟨true, by show kitB "bool" _ = _; decide +kernel⟩
        | int b => exact ⟨false, by show kitB "int" _ = _; decide +kernel⟩
        | str b => exact ⟨false, by show kitB "str" _ = _; decide +kernel⟩
        | _ => cases hx
      obtain ⟨bi, ki⟩ : ∃ bi, kitB (tyn x) "int" = some bi := by
        cases x with
        | non => exact absurd rfl hn
        | bl b => exact ⟨true, by show kitB "bool" _ = _; decide +kernel⟩
        | int b => exact ⟨true, by show kitB "int" _ = _; decide +kernel⟩
        | str b => exact ⟨false, by show kitB "str" _ = _; decide +kernel⟩
        | _ => cases hx
      obtain ⟨bs, ks⟩ : ∃ bs, kitB (tyn x) "str" = some bs := by
        cases x with
        | non => exact absurd rfl hn
        | bl b => exact ⟨false, by show kitB "bool" _ = _; decide +kernel⟩
        | int b => exact ⟨false, by show kitB "int" _ = _; decide +kernel⟩
        | str b => exact ⟨true, by show kitB "str" _ = _; decide +kernel⟩
        | _ => cases hx
      refine ⟨x, rfl, by show 2 ≤ sizeLine; decide, fun p np => ?_⟩
      refine ⟨x, p, [.ty "list", .ty "tuple"], _, _, false, rfl, upd_same, .cons (.ty _) (.cons (.ty _) .nil), ty_sc hx, kit2 kl.1 kl.2, false, rfl, iteF ?_⟩
      refine ⟨x, rfl, x, _, _, _, bb, rfl, .ty _, ty_sc hx, kit_ty kb, x, rfl, x, _, _, _, bb, rfl, .ty _, ty_sc hx, kit_ty kb, rfl, false, by rw [decide_eq_true rfl]; rfl, iteF ?_⟩
      refine ⟨x, rfl, x, _, _, _, bi, rfl, .ty _, ty_sc hx, kit_ty ki, x, rfl, x, _, _, _, bi, rfl, .ty _, ty_sc hx, kit_ty ki, rfl, false, by rw [decide_eq_true rfl]; rfl, iteF ?_⟩
      refine ⟨x, rfl, x, _, _, _, bs, rfl, .ty _, ty_sc hx, kit_ty ks, x, rfl, x, _, _, _, bs, rfl, .ty _, ty_sc hx, kit_ty ks, rfl, true, by rw [decide_eq_true rfl], iteT ?_⟩
      refine ⟨x, rfl, x, rfl, ?_, ?_⟩
      · cases x with
        | non => rfl
        | bl b => rfl
        | int b => rfl
        | str b => rfl
        | _ => cases hx
      · rw [decide_eq_true rfl]
        exact q _ (same_new np)
  intro n
  induction n with
  | zero =>
    refine T.d__law_same.F.ok sc_law_same (fun vs H Q E h => ?_) (fun cdv A outer s H vs Q E hr h => ?_)
    · obtain ⟨x, y, rfl, _⟩ := h
      rfl
    · obtain ⟨x, y, rfl, ⟨rfl, hx⟩, q⟩ := h
      exact sc 0 x hx cdv A outer s H Q E hr q
  | succ n ih =>
    refine T.d__law_same.F.ok sc_law_same (fun vs H Q E h => ?_) (fun cdv A outer s H vs Q E hr h => ?_)
    · obtain ⟨x, y, rfl, _⟩ := h
      rfl
    · obtain ⟨x, y, rfl, h, q⟩ := h
      rcases h with ⟨rfl, hx⟩ | ⟨a, b, xs, ys, rfl, rfl, hq, hl, hm, hr2⟩
      · exact sc (n + 1) x hx cdv A outer s H Q E hr q
      · refine ⟨_, (pss_cons (ps_if (PW.pt (pw_or (pt_cmpR op_isN (pv 1) pe_non (nomark _)) (pw_or1 (pt_cmpR op_isN (pv 0) pe_non (nomark _))))) (pss_one (ps_ret (pe_and (pe_cmpR op_isN (pv 1) pe_non (nomark _)) (pe_one (pe_cmpR op_isN (pv 0) pe_non (nomark _)))))) pss_nil)
      (pss_cons (ps_if (pt_val (pe_callB call_isiT (by rfl) T.z_isinstance (by decide +kernel) (pa_cons (pv 1) (pa_cons (pe_tup (pa_cons (pe_bltn (v := .ty "list") (by rfl) T.z_list (by decide +kernel) rfl) (pa_cons (pe_bltn (v := .ty "tuple") (by rfl) T.z_tuple (by decide +kernel) rfl) pa_nil))) pa_nil)))) (pss_cons (ps_if (PW.pt (pw_or (pt_cmpR op_ne (pe_callB call_isi (by rfl) T.z_isinstance (by decide +kernel) (pa_cons (pv 0) (pa_cons (pe_bltn (v := .ty "list") (by rfl) T.z_list (by decide +kernel) rfl) pa_nil))) (pe_callB call_isi (by rfl) T.z_isinstance (by decide +kernel) (pa_cons (pv 1) (pa_cons (pe_bltn (v := .ty "list") (by rfl) T.z_list (by decide +kernel) rfl) pa_nil))) (nomark _)) (pw_or1 (pt_cmpR op_ne (pe_callB call_isi (by rfl) T.z_isinstance (by decide +kernel) (pa_cons (pv 0) (pa_cons (pe_bltn (v := .ty "tuple") (by rfl) T.z_tuple (by decide +kernel) rfl) pa_nil))) (pe_callB call_isi (by rfl) T.z_isinstance (by decide +kernel) (pa_cons (pv 1) (pa_cons (pe_bltn (v := .ty "tuple") (by rfl) T.z_tuple (by decide +kernel) rfl) pa_nil))) (nomark _))))) (pss_one (ps_ret pe_bl)) pss_nil)
      (pss_one (ps_ret (pe_and (pe_cmpR op_eq (pe_callB call_len_seq (by rfl) T.z_len (by decide +kernel) (pa_cons (pv 0) pa_nil)) (pe_callB call_len_seq (by rfl) T.z_len (by decide +kernel) (pa_cons (pv 1) pa_nil)) (nomark _)) (pe_one (pe_callB (cr_all rfl) (by rfl) T.z_all (by decide +kernel) (pa_cons (pe_lc (own := [("_law_low", 2), ("_law_high", 3)]) (g := gTup K 2 (gCons (gName 2) (gCons (gName 3) gNil))) (tt := tYes) (by rfl) sc_law_same.nd (pi_zipA (by rfl) T.z_zip (pa_cons (pv 0) (pa_cons (pv 1) pa_nil))) (blkOk_by (own := [("_law_low", 2), ("_law_high", 3)]) (N := N_law_same) (sc := defScope s_law_same) (by decide +kernel)) (fun _ _ _ _ _ => (pg_tup rfl (pgs_cons (pg_name (i := 2) sc_law_same.nd rfl (Or.inl rfl)) (pgs_cons (pg_name (i := 3) sc_law_same.nd rfl (Or.inl rfl)) pgs_nil)))) (fun _ _ _ _ _ => pts_nil) (fun _ _ _ _ _ => (pe_call ih (hr.mono (Nat.le_refl _)) (by rfl) T.d__law_same.g T.d__law_same.F.kp T.d__law_same.b .nil pass0 (pa_cons (pv 2) (pa_cons (pv 3) pa_nil))))) pa_nil))))))) pss_nil)
      (pss_cons ps_never (pss_one ps_never)))), ?_⟩
        refine ⟨.ref b, rfl, rfl, false, rfl, iteF ⟨.ref a, rfl, rfl, false, rfl, iteF ?_⟩⟩
        obtain ⟨t, bl', bt, kl, kt, kor, tya, tyb⟩ : ∃ (t : String) (bl' bt : Bool), kitB t "list" = some bl' ∧ kitB t "tuple" = some bt ∧ (bl' || bt) = true ∧ (∀ H', Same H H' → TyX K H' (.ref a) (.type t)) ∧ (∀ H', Same H H' → TyX K H' (.ref b) (.type t)) := by
          rcases hq with ⟨h1, h2⟩ | ⟨h1, h2⟩
          · exact ⟨"list", true, false, by decide +kernel, by decide +kernel, rfl, fun _ s => ty_seqL (s.seq h1), fun _ s => ty_seqL (s.seq h2)⟩
          · exact ⟨"tuple", false, true, by decide +kernel, by decide +kernel, rfl, fun _ s => ty_seqT (same_seqT s h1), fun _ s => ty_seqT (same_seqT s h2)⟩
        refine ⟨.ref b, rfl, by show 2 ≤ sizeLine; decide, fun p np => ?_⟩
        have s1 := same_new (o := .tup [.ty "list", .ty "tuple"]) np
        refine ⟨.ref b, p, [.ty "list", .ty "tuple"], _, _, true, rfl, upd_same, .cons (.ty _) (.cons (.ty _) .nil), tyb _ s1, by rw [← kor]; exact kit2 kl kt, true, rfl, iteT ?_⟩
        refine ⟨.ref a, rfl, .ref a, _, _, _, bl', rfl, .ty _, tya _ s1, kit_ty kl, .ref b, rfl, .ref b, _, _, _, bl', rfl, .ty _, tyb _ s1, kit_ty kl, rfl, false, by rw [decide_eq_true rfl]; rfl, iteF ?_⟩
        refine ⟨.ref a, rfl, .ref a, _, _, _, bt, rfl, .ty _, tya _ s1, kit_ty kt, .ref b, rfl, .ref b, _, _, _, bt, rfl, .ty _, tyb _ s1, kit_ty kt, rfl, false, by rw [decide_eq_true rfl]; rfl, iteF ?_⟩
        have hq1 : (SqL K (upd H p (.tup [.ty "list", .ty "tuple"])) a xs ∧ SqL K (upd H p (.tup [.ty "list", .ty "tuple"])) b ys) ∨ (SqT K (upd H p (.tup [.ty "list", .ty "tuple"])) a xs ∧ SqT K (upd H p (.tup [.ty "list", .ty "tuple"])) b ys) := by
          rcases hq with ⟨h1, h2⟩ | ⟨h1, h2⟩
          · exact .inl ⟨s1.seq h1, s1.seq h2⟩
          · exact .inr ⟨same_seqT s1 h1, same_seqT s1 h2⟩
        generalize upd H p (.tup [.ty "list", .ty "tuple"]) = H1 at s1 hq1
        have hxa : SqL K H1 a xs ∨ SqT K H1 a xs := by rcases hq1 with ⟨h, _⟩ | ⟨h, _⟩; exact .inl h; exact .inr h
        have hyb : SqL K H1 b ys ∨ SqT K H1 b ys := by rcases hq1 with ⟨_, h⟩ | ⟨_, h⟩; exact .inl h; exact .inr h
        refine ⟨.ref a, rfl, a, xs, rfl, hxa, .ref b, rfl, b, ys, rfl, hyb, rfl, true, by rw [hl, decide_eq_true rfl], iteT ?_⟩
        refine ⟨.ref a, rfl, .ref b, rfl, a, b, xs, ys, rfl, ?_⟩
        have fin : ∀ D (H2 : Hp), (Same H1 H2 ∧ H2 D = some (.lst ((List.replicate xs.length true).map V.bl))) → ∃ (a : Addr) (bs : List Bool), [V.ref D] = [V.ref a] ∧ SqL K H2 a (bs.map V.bl) ∧ Q (.bl (bs.all id)) H2 := fun D H2 h => ⟨D, _, rfl, SqL.of h.2, by rw [all_true]; exact q _ (s1.trans h.1)⟩
        have hmin : xs.length = min xs.length ys.length := by omega
        rcases hq1 with ⟨h1, h2⟩ | ⟨h1, h2⟩
        · refine .inl ⟨h1, h2, fun D nD => lc_it (walk_zip (xs := xs) (ys := ys) hmin) (fun i H2 => Same H1 H2 ∧ H2 D = some (.lst ((List.replicate i true).map V.bl))) ⟨same_new nD, upd_same⟩ (fun i H2 _ h => ⟨h.1.seq h1, h.1.seq h2⟩) ?_ (fun H2 h => fin D H2 h)⟩
          rintro i x H2 H3 hi ⟨sm, eD⟩ ⟨T', u, v, rfl, nT, rfl, hu, hv⟩
          have sT := same_new (o := .tup [u, v]) nT
          refine ⟨T', [u, v], rfl, SqT.of upd_same, rfl, u, [v], rfl, v, [], rfl, rfl, rfl, ?_⟩
          refine ⟨u, rfl, v, rfl, u, v, rfl, (hr2 i u v hu hv).same (s1.trans (sm.trans sT)), fun H' s => ?_⟩
          refine ⟨_, s _ _ (sT _ _ eD), ?_, ?_, ?_⟩
          · rw [List.length_map, List.length_replicate]
            exact small1000 (by omega)
          · exact fun z o e => by rw [upd_ne (ne_of_none e nD)]; exact s _ _ (sT _ _ (sm _ _ e))
          · rw [upd_same, List.replicate_succ', List.map_append]
            rfl
        · refine .inr ⟨h1, h2, fun D nD => lc_it (walk_zipT (xs := xs) (ys := ys) hmin) (fun i H2 => Same H1 H2 ∧ H2 D = some (.lst ((List.replicate i true).map V.bl))) ⟨same_new nD, upd_same⟩ (fun i H2 _ h => ⟨same_seqT h.1 h1, same_seqT h.1 h2⟩) ?_ (fun H2 h => fin D H2 h)⟩
          rintro i x H2 H3 hi ⟨sm, eD⟩ ⟨T', u, v, rfl, nT, rfl, hu, hv⟩
          have sT := same_new (o := .tup [u, v]) nT
          refine ⟨T', [u, v], rfl, SqT.of upd_same, rfl, u, [v], rfl, v, [], rfl, rfl, rfl, ?_⟩
          refine ⟨u, rfl, v, rfl, u, v, rfl, (hr2 i u v hu hv).same (s1.trans (sm.trans sT)), fun H' s => ?_⟩
          refine ⟨_, s _ _ (sT _ _ eD), ?_, ?_, ?_⟩
          · rw [List.length_map, List.length_replicate]
            exact small1000 (by omega)
          · exact fun z o e => by rw [upd_ne (ne_of_none e nD)]; exact s _ _ (sT _ _ (sm _ _ e))
          · rw [upd_same, List.replicate_succ', List.map_append]
            rfl
end
end Rd
set_option maxHeartbeats 4000000
namespace Rd
open PySem PySem.Spec PyProof.Rows L2
open C8 (pss_cut tCut)
open RZ (ItzT pi_zipA)
/-! ## the program: names, numbers, ends, entries -/
inductive Kd (K : PySem.W.Frag) (H : Hp) : V → String → Prop
  | sc {x : V} (h : isSc x = true) : Kd K H x (tyn x)
  | lst {a : Addr} {xs : List V} (h : SqL K H a xs) : Kd K H (.ref a) "list"
  | tup {a : Addr} {xs : List V} (h : SqT K H a xs) : Kd K H (.ref a) "tuple"
theorem Kd.ty {K : PySem.W.Frag} {H : Hp} {v : V} {t : String} (h : Kd K H v t) : TyX K H v (.type t) := by
  cases h with
  | sc h => exact ty_sc h
  | lst h => exact ty_seqL h
  | tup h => exact ty_seqT h
theorem Kd.same {K : PySem.W.Frag} {H H' : Hp} {v : V} {t : String} (s : Same H H') (h : Kd K H v t) : Kd K H' v t := by
  cases h with
  | sc h => exact .sc h
  | lst h => exact .lst (s.seq h)
  | tup h => exact .tup (same_seqT s h)
def isS : V → Bool
  | .str _ => true
  | _ => false
def isB : V → Bool
  | .bl _ => true
  | _ => false
def isI : V → Bool
  | .bl _ => true
  | .int _ => true
  | _ => false
section
variable {K : PySem.W.Frag} {H : Hp} {v : V} {t : String}
theorem kd_cases {p : V → String → Prop} (h : Kd K H v t) (h1 : p .non "NoneType") (h2 : ∀ b, p (.bl b) "bool") (h3 : ∀ i, p (.int i) "int") (h4 : ∀ z, p (.str z) "str") (h5 : ∀ a, p (.ref a) "list") (h6 : ∀ a, p (.ref a) "tuple") : p v t := by
  cases h with
  | sc h =>
    cases v with
    | non => exact h1
    | bl b => exact h2 b
    | int i => exact h3 i
    | str z => exact h4 z
    | _ => cases h
  | lst h => exact h5 _
  | tup h => exact h6 _
theorem kd_str (h : Kd K H v t) : kitB t "str" = some (isS v) :=
  kd_cases (p := fun v t => kitB t "str" = some (isS v)) h (by show kitB "NoneType" "str" = some false; decide +kernel) (fun _ => by show kitB "bool" "str" = some false; decide +kernel) (fun _ => by show kitB "int" "str" = some false; decide +kernel) (fun _ => by show kitB "str" "str" = some true; decide +kernel) (fun _ => by show kitB "list" "str" = some false; decide +kernel) (fun _ => by show kitB "tuple" "str" = some false; decide +kernel)
theorem kd_int (h : Kd K H v t) : kitB t "int" = some (isI v) :=
  kd_cases (p := fun v t => kitB t "int" = some (isI v)) h (by show kitB "NoneType" "int" = some false; decide +kernel) (fun _ => by show kitB "bool" "int" = some true; decide +kernel) (fun _ => by show kitB "int" "int" = some true; decide +kernel) (fun _ => by show kitB "str" "int" = some false; decide +kernel) (fun _ => by show kitB "list" "int" = some false; decide +kernel) (fun _ => by show kitB "tuple" "int" = some false; decide +kernel)
theorem kd_bool (h : Kd K H v t) : kitB t "bool" = some (isB v) :=
  kd_cases (p := fun v t => kitB t "bool" = some (isB v)) h (by show kitB "NoneType" "bool" = some false; decide +kernel) (fun _ => by show kitB "bool" "bool" = some true; decide +kernel) (fun _ => by show kitB "int" "bool" = some false; decide +kernel) (fun _ => by show kitB "str" "bool" = some false; decide +kernel) (fun _ => by show kitB "list" "bool" = some false; decide +kernel) (fun _ => by show kitB "tuple" "bool" = some false; decide +kernel)
theorem kd_tuple (h : Kd K H v t) : kitB t "tuple" = some (decide (t = "tuple")) :=
  kd_cases (p := fun v t => kitB t "tuple" = some (decide (t = "tuple"))) h (by decide +kernel) (fun _ => by decide +kernel) (fun _ => by decide +kernel) (fun _ => by decide +kernel) (fun _ => by decide +kernel) (fun _ => by decide +kernel)
end
def low (c : Nat) : Bool := decide (97 ≤ c) && decide (c ≤ 122)
def isNm : V → Bool
  | .str z => (decide (1 ≤ z.length) && decide (z.length ≤ 6)) && z.cps.toList.all low
  | _ => false
theorem isNm_str (z : Str) : isNm (.str z) = ((decide (1 ≤ z.length) && decide (z.length ≤ 6)) && z.cps.toList.all low) := rfl
def isNum : V → Int → Int → Bool
  | .int i, lo, hi => decide (lo ≤ i) && decide (i ≤ hi)
  | _, _, _ => false
theorem letters_low (c : Nat) : decide (c ∈ ("abcdefghijklmnopqrstuvwxyz" : Str).cps.toList) = low c := by
  have e : ("abcdefghijklmnopqrstuvwxyz" : Str).cps.toList = List.range' 97 26 := by decide +kernel
  rw [e]
  unfold low
  rw [← Bool.decide_and]
  exact decide_eq_decide.mpr (by rw [List.mem_range'_1]; omega)
section
variable {P : Program} {w : World} {K : PySem.W.Frag} {mg : Str → Option Value} {base : Heap}
def spName (K : PySem.W.Frag) : Sp := fun vs H Q _ => ∃ v t, vs = [v] ∧ Kd K H v t ∧ (∀ z, v = .str z → z.length ≤ 1000) ∧ ∀ H', Same H H' → Q (.bl (isNm v)) H'
theorem ok_is_name (T : Txt K mg) : FnOk P w K mg base CX0 1 T.d_is_name.f T.d_is_name.fd ["value"] (spName K) := by
  refine T.d_is_name.F.ok sc_is_name (fun vs H Q E h => ?_) (fun cdv A outer s H vs Q E hr h => ?_)
  · obtain ⟨v, t, rfl, _⟩ := h
    rfl
  · obtain ⟨v, t, rfl, hk, hz, q⟩ := h
    refine ⟨_, (pss_cons (ps_if (PW.pt (pw_or (pt_not (pt_val (pe_callB call_isi (by rfl) T.z_isinstance (by decide +kernel) (pa_cons (pv 0) (pa_cons (pe_bltn (v := .ty "str") (by rfl) T.z_str (by decide +kernel) rfl) pa_nil))))) (pw_or1 (pt_not (pt_chain op_le op_le pe_int (pe_callB call_len_str (by rfl) T.z_len (by decide +kernel) (pa_cons (pv 0) pa_nil)) (pe_glob (v := .int 6) rfl T.c_MOST_LETTERS ⟨_, rfl⟩)))))) (pss_one (ps_ret pe_bl)) pss_nil)
      (pss_one (ps_ret (pe_callB (cr_all rfl) (by rfl) T.z_all (by decide +kernel) (pa_cons (pe_lc (own := [("letter", 1)]) (g := gName 1) (tt := tYes) (by rfl) sc_is_name.nd (pi_str (pv 0)) (blkOk_by (own := [("letter", 1)]) (N := N_is_name) (sc := defScope s_is_name) (by decide +kernel)) (fun _ _ _ _ _ => (pg_name (i := 1) sc_is_name.nd rfl (Or.inl rfl))) (fun _ _ _ _ _ => pts_nil) (fun _ _ _ _ _ => (pe_cmpR op_in_sign (pv 1) (pe_glob (v := .str "abcdefghijklmnopqrstuvwxyz") rfl T.c_LETTERS ⟨_, rfl⟩) (by rfl)))) pa_nil))))), ?_⟩
    refine ⟨v, rfl, v, _, _, _, isS v, rfl, .ty _, hk.ty, kit_ty (kd_str hk), _, rfl, ?_⟩
    cases v with
    | str z =>
      have h6 : z.length ≤ sizeLine := Nat.le_of_lt (small1000 (hz z rfl))
      refine iteF ?_
      refine ⟨.str z, rfl, z, rfl, h6, 1, _, rfl, rfl, _, rfl, ?_⟩
      refine ite2 (fun e1 => ?_) (fun e1 => ?_)
      · have l1 : 1 ≤ z.length := by have := of_decide_eq_true e1; omega
        refine ⟨_, 6, rfl, rfl, _, rfl, ?_⟩
        show if (!decide ((z.length : Int) ≤ 6)) = true then _ else _
        by_cases h2 : z.length ≤ 6
        · refine iteNS (by omega) ?_
          refine ⟨.str z, rfl, z, rfl, fun D nD => lc_it walk_str (fun i H2 => Same H H2 ∧ H2 D = some (.lst ((((z.cps.toList.take i).map low)).map V.bl))) ⟨same_new nD, upd_same⟩ (fun _ _ _ _ => trivial) ?_ ?_⟩
          · rintro i x H2 H3 hi ⟨sm, eD⟩ ⟨rfl, c, hc, rfl⟩
            refine ⟨rfl, ?_⟩
            refine ⟨.str ⟨#[c]⟩, rfl, c, _, rfl, rfl, ?_⟩
            rw [letters_low]
            have hc' : z.cps.toList[i]? = some c := by rw [Array.getElem?_toList]; exact hc
            refine ⟨_, eD, ?_, fun b o e => by rw [upd_ne (ne_of_none e nD)]; exact sm _ _ e, ?_⟩
            · rw [List.length_map, List.length_map, List.length_take]
              have : z.cps.toList.length = z.length := by simp [Str.length]
              exact small1000 (by omega)
            · rw [upd_same, List.take_add_one, hc', List.map_append, List.map_append]
              rfl
          · rintro H2 ⟨sm, eD⟩
            refine ⟨D, _, rfl, SqL.of eD, ?_⟩
            have e : ((z.cps.toList.take z.cps.size).map low).all id = z.cps.toList.all low := by
              rw [List.take_of_length_le (by simp), List.all_map]
              rfl
            rw [e]
            have := q H2 sm
            rw [isNm_str] at this
            rw [decide_eq_true l1, decide_eq_true h2] at this
            exact this
        · rw [decide_eq_false (by omega)]
          refine iteT ?_
          have := q H (Same.refl H)
          rw [isNm_str] at this
          rw [decide_eq_false h2, Bool.and_false] at this
          exact this
      · refine ⟨_, rfl, iteT ?_⟩
        have := q H (Same.refl H)
        have l1 : ¬ 1 ≤ z.length := fun z => e1 (decide_eq_true (by omega))
        rw [isNm_str] at this
        rw [decide_eq_false l1] at this
        exact this
    | _ => exact iteT (q H (Same.refl H))
def spNumber (K : PySem.W.Frag) : Sp := fun vs H Q _ => ∃ v t lo hi, vs = [v, .int lo, .int hi] ∧ Kd K H v t ∧ Q (.bl (isNum v lo hi)) H
def spInteger (K : PySem.W.Frag) : Sp := fun vs H Q _ => ∃ v t, vs = [v] ∧ Kd K H v t ∧ Q (.bl (isI v && !isB v)) H
theorem ok_is_integer (T : Txt K mg) : FnOk P w K mg base CX0 1 T.d_is_integer.f T.d_is_integer.fd ["value"] (spInteger K) := by
  refine T.d_is_integer.F.ok sc_is_integer (fun vs H Q E h => ?_) (fun cdv A outer s H vs Q E hr h => ?_)
  · obtain ⟨v, t, rfl, _⟩ := h
    rfl
  · obtain ⟨v, t, rfl, hk, q⟩ := h
    refine ⟨_, (pss_one (ps_ret (pe_and (pe_callB call_isi (by rfl) T.z_isinstance (by decide +kernel) (pa_cons (pv 0) (pa_cons (pe_bltn (v := .ty "int") (by rfl) T.z_int (by decide +kernel) rfl) pa_nil))) (pe_one (pe_not (pe_callB call_isi (by rfl) T.z_isinstance (by decide +kernel) (pa_cons (pv 0) (pa_cons (pe_bltn (v := .ty "bool") (by rfl) T.z_bool (by decide +kernel) rfl) pa_nil)))))))), ?_⟩
    refine ⟨v, rfl, v, _, _, _, isI v, rfl, .ty _, hk.ty, kit_ty (kd_int hk), _, rfl, ?_⟩
    by_cases hi' : isI v = true
    · rw [hi'] at q ⊢
      exact iteT ⟨v, rfl, v, _, _, _, isB v, rfl, .ty _, hk.ty, kit_ty (kd_bool hk), _, rfl, q⟩
    · rw [Bool.eq_false_iff.mpr hi'] at q ⊢
      exact iteF q
theorem ok_is_number (T : Txt K mg) : FnOk P w K mg base CX0 2 T.d_is_number.f T.d_is_number.fd ["value", "least", "most"] (spNumber K) := by
  refine T.d_is_number.F.ok sc_is_number (fun vs H Q E h => ?_) (fun cdv A outer s H vs Q E hr h => ?_)
  · obtain ⟨v, t, lo, hi, rfl, _⟩ := h
    rfl
  · obtain ⟨v, t, lo, hi, rfl, hk, q⟩ := h
    refine ⟨_, (pss_one (ps_ret (pe_and (pe_call (ok_is_integer T) (hr.mono (by decide)) (by rfl) T.d_is_integer.g T.d_is_integer.F.kp T.d_is_integer.b .nil pass0 (pa_cons (pv 0) pa_nil)) (pe_one (pe_chain op_le op_le (pv 1) (pv 0) (pv 2)))))), ?_⟩
    refine ⟨v, rfl, v, t, rfl, hk, _, rfl, ?_⟩
    cases v with
    | bl b => exact iteF q
    | int i =>
      refine iteT ⟨.int lo, rfl, .int i, rfl, lo, i, rfl, rfl, _, rfl, ?_⟩
      have q' : Q (.bl (decide (lo ≤ i) && decide (i ≤ hi))) H := q
      refine ite2 (fun e => ?_) (fun e => ?_)
      · rw [e] at q'
        exact ⟨.int hi, rfl, i, hi, rfl, rfl, q'⟩
      · rw [Bool.eq_false_iff.mpr e] at q'
        exact q'
    | _ => exact iteF q
end
end Rd
set_option maxHeartbeats 4000000
namespace Rd
open PySem PySem.Spec PyProof.Rows L2
open C8 (pss_cut tCut)
open RZ (ItzT pi_zipA)
section
variable {P : Program} {w : World} {K : PySem.W.Frag} {mg : Str → Option Value} {base : Heap}
def sidesV : List V := [.str "a", .str "b", .str "c", .str "d", .str "left", .str "right", .str "stem"]
/-- a value that is no tuple, or one of another length than 2, or a tuple of two -/
def Two (K : PySem.W.Frag) (H : Hp) (v : V) (more : V → V → Prop) (no : Prop) (yes : V → V → Prop) : Prop :=
  (∃ t, Kd K H v t ∧ t ≠ "tuple" ∧ no) ∨ (∃ a xs, v = .ref a ∧ SqT K H a xs ∧ xs.length ≠ 2 ∧ no) ∨
    ∃ a x y t, v = .ref a ∧ SqT K H a [x, y] ∧ Kd K H x t ∧ (∀ z, x = .str z → z.length ≤ 1000) ∧ (isNm x = true → more x y) ∧ yes x y
def spEnd (K : PySem.W.Frag) : Sp := fun vs H Q _ => ∃ v, vs = [v] ∧ Two K H v (fun _ y => flatV y = true) (Q (.bl false) H) fun x y => ∀ H', Same H H' → Q (.bl (isNm x && inV y sidesV)) H'
theorem ok_is_end (T : Txt K mg) : FnOk P w K mg base CX0 2 T.d_is_end.f T.d_is_end.fd ["value"] (spEnd K) := by
  refine T.d_is_end.F.ok sc_is_end (fun vs H Q E h => ?_) (fun cdv A outer s H vs Q E hr h => ?_)
  · obtain ⟨v, rfl, _⟩ := h
    rfl
  · obtain ⟨v, rfl, h⟩ := h
    refine ⟨_, (pss_one (ps_ret (pe_and (pe_callB call_isi (by rfl) T.z_isinstance (by decide +kernel) (pa_cons (pv 0) (pa_cons (pe_bltn (v := .ty "tuple") (by rfl) T.z_tuple (by decide +kernel) rfl) pa_nil))) (pe_and (pe_cmpR op_eq (pe_callB call_len_seq (by rfl) T.z_len (by decide +kernel) (pa_cons (pv 0) pa_nil)) pe_int (nomark _)) (pe_and (pe_call (ok_is_name T) (hr.mono (by decide)) (by rfl) T.d_is_name.g T.d_is_name.F.kp T.d_is_name.b .nil pass0 (pa_cons (pe_ix ix_tup (pv 0) pe_int (fun _ _ => rfl)) pa_nil)) (pe_one (pe_cmpR op_in_seq (pe_ix ix_tup (pv 0) pe_int (fun _ _ => rfl)) (pe_glob (v := .ref T.aS) rfl T.c_SIDES rfl) (by rfl)))))))), ?_⟩
    rcases h with ⟨t, hk, hn, q⟩ | ⟨a, xs, rfl, hs, hl, q⟩ | ⟨a, x, y, t, rfl, hs, hk, hz, hm, q⟩
    · refine ⟨v, rfl, v, _, _, _, _, rfl, .ty _, hk.ty, kit_ty (kd_tuple hk), _, rfl, ?_⟩
      rw [decide_eq_false hn]
      exact iteF q
    · have hk : Kd K H (.ref a) "tuple" := .tup hs
      refine ⟨.ref a, rfl, .ref a, _, _, _, _, rfl, .ty _, hk.ty, kit_ty (kd_tuple hk), _, rfl, iteT ?_⟩
      refine ⟨.ref a, rfl, a, xs, rfl, .inr hs, rfl, _, rfl, ?_⟩
      rw [decide_eq_false (fun e => hl (by have := V.int.inj e; omega))]
      exact iteF q
    · have hk' : Kd K H (.ref a) "tuple" := .tup hs
      refine ⟨.ref a, rfl, .ref a, _, _, _, _, rfl, .ty _, hk'.ty, kit_ty (kd_tuple hk'), _, rfl, iteT ?_⟩
      refine ⟨.ref a, rfl, a, _, rfl, .inr hs, rfl, true, rfl, iteT ?_⟩
      refine ⟨.ref a, rfl, a, _, 0, x, rfl, rfl, hs, atI_nat (j := 0) rfl, x, t, rfl, hk, hz, fun H1 s1 => ⟨_, rfl, ?_⟩⟩
      cases e : isNm x with
      | false =>
        refine iteF ?_
        have := q H1 s1
        rw [e] at this
        exact this
      | true =>
        refine iteT ⟨.ref a, rfl, a, _, 1, y, rfl, rfl, same_seqT s1 hs, atI_nat (j := 1) rfl, T.aS, sidesV, rfl, .inr (T.k_SIDES H1), hm e, rfl, ?_⟩
        have := q H1 s1
        rw [e] at this
        exact this
def spEntry (K : PySem.W.Frag) : Sp := fun vs H Q _ => ∃ v, vs = [v] ∧ Two K H v (fun _ y => ∃ t, Kd K H y t) (Q (.bl false) H) fun x y => ∀ H', Same H H' → Q (.bl (isNm x && isNum y 0 5)) H'
theorem ok_is_entry (T : Txt K mg) : FnOk P w K mg base CX0 3 T.d_is_entry.f T.d_is_entry.fd ["value"] (spEntry K) := by
  refine T.d_is_entry.F.ok sc_is_entry (fun vs H Q E h => ?_) (fun cdv A outer s H vs Q E hr h => ?_)
  · obtain ⟨v, rfl, _⟩ := h
    rfl
  · obtain ⟨v, rfl, h⟩ := h
    refine ⟨_, (pss_cons (ps_if (PW.pt (pw_or (pt_not (pt_val (pe_callB call_isi (by rfl) T.z_isinstance (by decide +kernel) (pa_cons (pv 0) (pa_cons (pe_bltn (v := .ty "tuple") (by rfl) T.z_tuple (by decide +kernel) rfl) pa_nil))))) (pw_or1 (pt_cmpR op_ne (pe_callB call_len_seq (by rfl) T.z_len (by decide +kernel) (pa_cons (pv 0) pa_nil)) pe_int (nomark _))))) (pss_one (ps_ret pe_bl)) pss_nil)
      (pss_one (ps_ret (pe_and (pe_call (ok_is_name T) (hr.mono (by decide)) (by rfl) T.d_is_name.g T.d_is_name.F.kp T.d_is_name.b .nil pass0 (pa_cons (pe_ix ix_tup (pv 0) pe_int (fun _ _ => rfl)) pa_nil)) (pe_one (pe_call (ok_is_number T) (hr.mono (by decide)) (by rfl) T.d_is_number.g T.d_is_number.F.kp T.d_is_number.b .nil pass0 (pa_cons (pe_ix ix_tup (pv 0) pe_int (fun _ _ => rfl)) (pa_cons pe_int (pa_cons (pe_op op_sub (pe_glob (v := .int 6) rfl T.c_MOST_STEPS ⟨_, rfl⟩) pe_int) pa_nil))))))))), ?_⟩
    rcases h with ⟨t, hk, hn, q⟩ | ⟨a, xs, rfl, hs, hl, q⟩ | ⟨a, x, y, t, rfl, hs, hk, hz, hm, q⟩
    · refine ⟨v, rfl, v, _, _, _, _, rfl, .ty _, hk.ty, kit_ty (kd_tuple hk), _, rfl, ?_⟩
      rw [decide_eq_false hn]
      exact iteT q
    · have hk : Kd K H (.ref a) "tuple" := .tup hs
      refine ⟨.ref a, rfl, .ref a, _, _, _, _, rfl, .ty _, hk.ty, kit_ty (kd_tuple hk), _, rfl, iteF ?_⟩
      refine ⟨.ref a, rfl, a, xs, rfl, .inr hs, rfl, _, rfl, ?_⟩
      rw [decide_eq_false (fun e => hl (by have := V.int.inj e; omega))]
      exact iteT q
    · have hk' : Kd K H (.ref a) "tuple" := .tup hs
      refine ⟨.ref a, rfl, .ref a, _, _, _, _, rfl, .ty _, hk'.ty, kit_ty (kd_tuple hk'), _, rfl, iteF ?_⟩
      refine ⟨.ref a, rfl, a, _, rfl, .inr hs, rfl, false, rfl, iteF ?_⟩
      refine ⟨.ref a, rfl, a, _, 0, x, rfl, rfl, hs, atI_nat (j := 0) rfl, x, t, rfl, hk, hz, fun H1 s1 => ⟨_, rfl, ?_⟩⟩
      have q1 := q H1 s1
      cases e : isNm x with
      | false =>
        rw [e] at q1
        exact iteF q1
      | true =>
        rw [e] at q1
        obtain ⟨ty, hky⟩ := hm e
        refine iteT ⟨.ref a, rfl, a, _, 1, y, rfl, rfl, same_seqT s1 hs, atI_nat (j := 1) rfl, 6, 1, rfl, rfl, y, ty, 0, 5, rfl, hky.same s1, ?_⟩
        exact q1
end
end Rd
set_option maxHeartbeats 4000000
namespace Rd
open PySem PySem.Spec PyProof.Rows L2
open C8 (pss_cut tCut)
open RZ (ItzT pi_zipA)
/-! ## shapes of values: a constant, a value of some kind, a list, a tuple -/
inductive Sh where
  | c (x : V)
  | is (p : V → Prop)
  | l (xs : List Sh)
  | t (xs : List Sh)
  | o (xs : List Sh)
mutual
def Is (b : Addr) (H : Hp) : Sh → V → Prop
  | .c x, v => v = x
  | .is p, v => p v
  | .l xs, v => ∃ p vs, v = .ref p ∧ p ≠ b ∧ H p = some (.lst vs) ∧ IsAll b H xs vs
  | .t xs, v => ∃ p vs, v = .ref p ∧ p ≠ b ∧ H p = some (.tup vs) ∧ IsAll b H xs vs
  | .o xs, v => IsOne b H xs v
def IsAll (b : Addr) (H : Hp) : List Sh → List V → Prop
  | [], vs => vs = []
  | s :: r, vs => ∃ v ws, vs = v :: ws ∧ Is b H s v ∧ IsAll b H r ws
def IsOne (b : Addr) (H : Hp) : List Sh → V → Prop
  | [], _ => False
  | s :: r, v => Is b H s v ∨ IsOne b H r v
end
mutual
theorem Is.go {b : Addr} {H H' : Hp} (g : Go b H H') : ∀ {s : Sh} {v : V}, Is b H s v → Is b H' s v
  | .c x, v, h => h
  | .is p, v, h => h
  | .l xs, v, h => by
    obtain ⟨p, vs, e, n, o, r⟩ := h
    exact ⟨p, vs, e, n, g.2 _ _ n o, IsAll.go g r⟩
  | .t xs, v, h => by
    obtain ⟨p, vs, e, n, o, r⟩ := h
    exact ⟨p, vs, e, n, g.2 _ _ n o, IsAll.go g r⟩
  | .o xs, v, h => IsOne.go g (show IsOne b H xs v from h)
theorem IsAll.go {b : Addr} {H H' : Hp} (g : Go b H H') : ∀ {ss : List Sh} {vs : List V}, IsAll b H ss vs → IsAll b H' ss vs
  | [], _, h => h
  | _ :: _, _, h => by
    obtain ⟨v, ws, e, r, q⟩ := h
    exact ⟨v, ws, e, Is.go g r, IsAll.go g q⟩
theorem IsOne.go {b : Addr} {H H' : Hp} (g : Go b H H') : ∀ {ss : List Sh} {v : V}, IsOne b H ss v → IsOne b H' ss v
  | [], _, h => h
  | _ :: _, _, h => by
    rcases h with h | h
    · exact .inl (Is.go g h)
    · exact .inr (IsOne.go g h)
end
theorem IsOne.mem {b : Addr} {H : Hp} : ∀ {ss : List Sh} {v : V}, IsOne b H ss v → ∃ s, s ∈ ss ∧ Is b H s v
  | [], _, h => by cases h
  | s :: _, _, h => by
    rcases h with h | h
    · exact ⟨s, List.mem_cons_self, h⟩
    · obtain ⟨s', m, k⟩ := h.mem
      exact ⟨s', List.mem_cons_of_mem _ m, k⟩
theorem IsOne.of {b : Addr} {H : Hp} : ∀ {ss : List Sh} {v : V} {s : Sh}, s ∈ ss → Is b H s v → IsOne b H ss v
  | s' :: _, _, _, m, h => by
    rcases List.mem_cons.mp m with rfl | m
    · exact .inl h
    · exact .inr (IsOne.of m h)
/-- one of some constants, of all of which p holds -/
theorem one_c {b : Addr} {H : Hp} {v : V} (p : V → Bool) : ∀ {ys : List V}, ys.all p = true → IsOne b H (ys.map Sh.c) v → p v = true
  | [], _, h => by cases h
  | y :: ys, a, h => by
    rw [List.all_cons, Bool.and_eq_true] at a
    rcases h with h | h
    · rw [show v = y from h]; exact a.1
    · exact one_c p a.2 h
theorem IsAll.length {b : Addr} {H : Hp} : ∀ {ss : List Sh} {vs : List V}, IsAll b H ss vs → vs.length = ss.length
  | [], _, h => by rw [show _ = [] from h]; rfl
  | _ :: _, _, h => by
    obtain ⟨v, ws, rfl, _, q⟩ := h
    rw [List.length_cons, List.length_cons, q.length]
theorem IsAll.append {b : Addr} {H : Hp} : ∀ {ss rr : List Sh} {vs ws : List V}, IsAll b H ss vs → IsAll b H rr ws → IsAll b H (ss ++ rr) (vs ++ ws)
  | [], _, _, _, h, k => by rw [show _ = [] from h]; exact k
  | _ :: _, _, _, _, h, k => by
    obtain ⟨v, us, rfl, r, q⟩ := h
    exact ⟨v, us ++ _, rfl, r, q.append k⟩
theorem IsAll.mem {b : Addr} {H : Hp} : ∀ {ss : List Sh} {vs : List V} {v : V}, IsAll b H ss vs → v ∈ vs → ∃ s, s ∈ ss ∧ Is b H s v
  | [], _, _, h, m => by rw [show _ = [] from h] at m; cases m
  | s :: _, _, _, h, m => by
    obtain ⟨u, us, rfl, r, q⟩ := h
    rcases List.mem_cons.mp m with rfl | m
    · exact ⟨s, List.mem_cons_self, r⟩
    · obtain ⟨s', h1, h2⟩ := q.mem m
      exact ⟨s', List.mem_cons_of_mem _ h1, h2⟩
theorem IsAll.at {b : Addr} {H : Hp} : ∀ {ss : List Sh} {vs : List V} {i : Nat} {v : V}, IsAll b H ss vs → vs[i]? = some v → ∃ s, ss[i]? = some s ∧ Is b H s v
  | [], _, _, _, h, m => by rw [show _ = [] from h] at m; cases m
  | s :: _, _, 0, _, h, m => by
    obtain ⟨u, us, rfl, r, q⟩ := h
    cases m
    exact ⟨s, rfl, r⟩
  | s :: _, _, i + 1, _, h, m => by
    obtain ⟨u, us, rfl, r, q⟩ := h
    exact q.at (i := i) m
/-- a shape that leaves no choice, at most n deep -/
def det : Nat → Sh → Bool
  | _, .c x => isSc x
  | _, .is _ => false
  | _, .o _ => false
  | 0, _ => false
  | n + 1, .l xs => decide (xs.length ≤ 1000) && xs.all (det n)
  | n + 1, .t xs => decide (xs.length ≤ 1000) && xs.all (det n)
theorem eqv_det {K : PySem.W.Frag} {b : Addr} {H : Hp} : ∀ {n : Nat} {s : Sh} {v w : V}, det n s = true → Is b H s v → Is b H s w → Eqv K H n v w
  | n, .c x, v, w, d, h, k => by
    rw [show v = x from h, show w = x from k]
    exact .sc (by cases n <;> exact d) n
  | n, .is p, v, w, d, h, k => by cases n <;> cases d
  | n, .o p, v, w, d, h, k => by cases n <;> cases d
  | 0, .l xs, v, w, d, h, k => by cases d
  | 0, .t xs, v, w, d, h, k => by cases d
  | n + 1, .l xs, v, w, d, h, k => by
    obtain ⟨p, vs, rfl, _, o1, r1⟩ := h
    obtain ⟨q, ws, rfl, _, o2, r2⟩ := k
    obtain ⟨d1, d2⟩ := Bool.and_eq_true_iff.mp (show (decide (xs.length ≤ 1000) && xs.all (det n)) = true from d)
    have l1 := r1.length
    have l2 := r2.length
    refine .inr ⟨p, q, vs, ws, rfl, rfl, .inl ⟨SqL.of o1, SqL.of o2⟩, by omega, by have := of_decide_eq_true d1; omega, fun i x y h1 h2 => ?_⟩
    obtain ⟨s, e1, i1⟩ := r1.at h1
    obtain ⟨s', e2, i2⟩ := r2.at h2
    cases e1.symm.trans e2
    exact eqv_det (List.all_eq_true.mp d2 s (List.mem_of_getElem? e1)) i1 i2
  | n + 1, .t xs, v, w, d, h, k => by
    obtain ⟨p, vs, rfl, _, o1, r1⟩ := h
    obtain ⟨q, ws, rfl, _, o2, r2⟩ := k
    obtain ⟨d1, d2⟩ := Bool.and_eq_true_iff.mp (show (decide (xs.length ≤ 1000) && xs.all (det n)) = true from d)
    have l1 := r1.length
    have l2 := r2.length
    refine .inr ⟨p, q, vs, ws, rfl, rfl, .inr ⟨SqT.of o1, SqT.of o2⟩, by omega, by have := of_decide_eq_true d1; omega, fun i x y h1 h2 => ?_⟩
    obtain ⟨s, e1, i1⟩ := r1.at h1
    obtain ⟨s', e2, i2⟩ := r2.at h2
    cases e1.symm.trans e2
    exact eqv_det (List.all_eq_true.mp d2 s (List.mem_of_getElem? e1)) i1 i2
/-! ### what an expression comes to, while the bag moves on -/
def Ev1 (b : Addr) (te : TE) (σ : L2.St) (H0 : Hp) (s : Sh) : Prop := ∀ H, Go b H0 H → ∀ Q : VK, (∀ v H', Go b H H' → Is b H' s v → Q v H') → te σ H Q
def EvN (b : Addr) (ta : TA) (σ : L2.St) (H0 : Hp) (ss : List Sh) : Prop := ∀ H, Go b H0 H → ∀ Q : List V → Hp → Prop, (∀ vs H', Go b H H' → IsAll b H' ss vs → Q vs H') → ta σ H Q
section
variable {b : Addr} {σ : L2.St} {H0 : Hp} {te ta tb : TE} {tr : TA} {s s1 s2 : Sh} {ss : List Sh} {K : PySem.W.Frag}
theorem e_var {i : Nat} {v : V} (h : σ[i]? = some (some v)) (k : Is b H0 s v) : Ev1 b (tVar i) σ H0 s := fun H g Q q => ⟨v, h, q v H (.refl g.1) (k.go g)⟩
theorem e_c {v : V} : Ev1 b (tC v) σ H0 (.c v) := fun H g Q q => q v H (.refl g.1) rfl
theorem n_nil : EvN b tNil σ H0 [] := fun H g Q q => q [] H (.refl g.1) rfl
theorem n_cons (h : Ev1 b te σ H0 s) (k : EvN b tr σ H0 ss) : EvN b (tCons te tr) σ H0 (s :: ss) := fun H g Q q =>
  h H g _ fun v H1 g1 i1 => k H1 (g.trans g1) _ fun vs H2 g2 i2 => q (v :: vs) H2 (g1.trans g2) ⟨v, vs, rfl, i1.go g2, i2⟩
theorem e_lst (h : EvN b tr σ H0 ss) (l : ss.length ≤ 1000) : Ev1 b (tLst tr) σ H0 (.l ss) := fun H g Q q =>
  h H g _ fun vs H1 g1 i1 => ⟨by rw [i1.length]; exact Nat.le_of_lt (small1000 l), fun p np => q _ _ (g1.new np) ⟨p, vs, rfl, g1.1.ne np, upd_same, i1.go ((Go.refl g1.1).new np)⟩⟩
theorem e_tup (h : EvN b tr σ H0 ss) (l : ss.length ≤ 1000) : Ev1 b (tTup tr) σ H0 (.t ss) := fun H g Q q =>
  h H g _ fun vs H1 g1 i1 => ⟨by rw [i1.length]; exact Nat.le_of_lt (small1000 l), fun p np => q _ _ (g1.new np) ⟨p, vs, rfl, g1.1.ne np, upd_same, i1.go ((Go.refl g1.1).new np)⟩⟩
/-- xs + ys -/
theorem e_cat {xs ys : List Sh} (h : Ev1 b ta σ H0 (.l xs)) (k : Ev1 b tb σ H0 (.l ys)) (l : xs.length + ys.length ≤ 1000) : Ev1 b (tOp rCat ta tb) σ H0 (.l (xs ++ ys)) := fun H g Q q =>
  h H g _ fun v H1 g1 i1 => k H1 (g.trans g1) _ fun w H2 g2 i2 => by
    obtain ⟨p1, vs, rfl, n1, o1, r1⟩ := i1.go g2
    obtain ⟨p2, ws, rfl, n2, o2, r2⟩ := i2
    refine ⟨p1, p2, vs, ws, rfl, rfl, o1, o2, by rw [r1.length, r2.length]; exact Nat.le_of_lt (small1000 l), fun p np => ?_⟩
    exact q _ _ ((g1.trans g2).new np) ⟨p, vs ++ ws, rfl, (g1.trans g2).1.ne np, upd_same, (r1.append r2).go ((Go.refl g2.1).new np)⟩
theorem e_add {i j : Int} (h : Ev1 b ta σ H0 (.c (.int i))) (k : Ev1 b tb σ H0 (.c (.int j))) : Ev1 b (tOp (rI0 fun i j => .int (i + j)) ta tb) σ H0 (.c (.int (i + j))) := fun H g Q q =>
  h H g _ fun v H1 g1 i1 => k H1 (g.trans g1) _ fun w H2 g2 i2 => ⟨i, j, i1, i2, q _ H2 (g1.trans g2) rfl⟩
theorem e_sub {i j : Int} (h : Ev1 b ta σ H0 (.c (.int i))) (k : Ev1 b tb σ H0 (.c (.int j))) : Ev1 b (tOp (rI0 fun i j => .int (i - j)) ta tb) σ H0 (.c (.int (i - j))) := fun H g Q q =>
  h H g _ fun v H1 g1 i1 => k H1 (g.trans g1) _ fun w H2 g2 i2 => ⟨i, j, i1, i2, q _ H2 (g1.trans g2) rfl⟩
theorem e_le {i j : Int} (h : Ev1 b ta σ H0 (.c (.int i))) (k : Ev1 b tb σ H0 (.c (.int j))) : Ev1 b (tOp (rI0 fun i j => .bl (decide (i ≤ j))) ta tb) σ H0 (.c (.bl (decide (i ≤ j)))) := fun H g Q q =>
  h H g _ fun v H1 g1 i1 => k H1 (g.trans g1) _ fun w H2 g2 i2 => ⟨i, j, i1, i2, q _ H2 (g1.trans g2) rfl⟩
theorem e_pow {i j : Int} (h : Ev1 b ta σ H0 (.c (.int i))) (k : Ev1 b tb σ H0 (.c (.int j))) (hc : CPow i j) : Ev1 b (tOp (rI CPow fun i j => .int (i ^ j.toNat)) ta tb) σ H0 (.c (.int (i ^ j.toNat))) := fun H g Q q =>
  h H g _ fun v H1 g1 i1 => k H1 (g.trans g1) _ fun w H2 g2 i2 => ⟨i, j, i1, i2, hc, q _ H2 (g1.trans g2) rfl⟩
theorem e_neg {i : Int} (h : Ev1 b ta σ H0 (.c (.int i))) : Ev1 b (tUn (rU fun i => .int (-i)) ta) σ H0 (.c (.int (-i))) := fun H g Q q =>
  h H g _ fun v H1 g1 i1 => ⟨i, i1, q _ H1 g1 rfl⟩
/-- a and b of bools -/
theorem e_and {x y : Bool} (h : Ev1 b ta σ H0 (.c (.bl x))) (k : x = true → Ev1 b tb σ H0 (.c (.bl y))) : Ev1 b (tAndV ta tb) σ H0 (.c (.bl (x && y))) := fun H g Q q =>
  h H g _ fun v H1 g1 i1 => ⟨x, i1, by
    cases x with
    | true => exact k rfl H1 (g.trans g1) _ fun w H2 g2 i2 => q w H2 (g1.trans g2) i2
    | false => exact q _ H1 g1 rfl⟩
/-- text + text -/
theorem e_cats {x y : Str} (h : Ev1 b ta σ H0 (.c (.str x))) (k : Ev1 b tb σ H0 (.c (.str y))) (l : x.length + y.length ≤ 1000) : Ev1 b (tOp (fun x y H Q => ∃ i j, x = .str i ∧ y = .str j ∧ i.length + j.length ≤ sizeLine ∧ Q (.str (i ++ j)) H) ta tb) σ H0 (.c (.str (x ++ y))) := fun H g Q q =>
  h H g _ fun v H1 g1 i1 => k H1 (g.trans g1) _ fun w H2 g2 i2 => ⟨x, y, i1, i2, Nat.le_of_lt (small1000 l), q _ H2 (g1.trans g2) rfl⟩
theorem e_lens {x : Str} (h : Ev1 b te σ H0 (.c (.str x))) (l : x.length ≤ 1000) : Ev1 b (tCB (fun xs H Q => ∃ z, xs = [.str z] ∧ z.length ≤ sizeLine ∧ Q (.int z.length) H) (tCons te tNil)) σ H0 (.c (.int x.length)) := fun H g Q q =>
  h H g _ fun v H1 g1 i1 => ⟨x, by rw [show v = _ from i1], Nat.le_of_lt (small1000 l), q _ H1 g1 rfl⟩
/-- 1 <= n <= 6 -/
theorem e_chain {i j k : Int} {tc : TE} (h1 : Ev1 b ta σ H0 (.c (.int i))) (h2 : Ev1 b tb σ H0 (.c (.int j))) (h3 : Ev1 b tc σ H0 (.c (.int k))) :
    Ev1 b (tChain (rI0 fun i j => .bl (decide (i ≤ j))) (rI0 fun i j => .bl (decide (i ≤ j))) ta tb tc) σ H0 (.c (.bl (decide (i ≤ j) && decide (j ≤ k)))) := fun H g Q q =>
  h1 H g _ fun v H1 g1 i1 => h2 H1 (g.trans g1) _ fun w H2 g2 i2 => by
    refine ⟨i, j, i1, i2, _, rfl, ?_⟩
    by_cases e : i ≤ j
    · rw [decide_eq_true e]
      refine iteT (h3 H2 (g.trans (g1.trans g2)) _ fun u H3 g3 i3 => ⟨j, k, i2, i3, ?_⟩)
      exact q _ H3 ((g1.trans g2).trans g3) (by rw [decide_eq_true e]; rfl)
    · rw [decide_eq_false e]
      exact iteF (q _ H2 (g1.trans g2) (by rw [decide_eq_false e]; rfl))
/-- a call by a promise -/
theorem e_call {sp : Sp} {E : XK} (h : EvN b tr σ H0 ss) (k : ∀ vs H, Go b H0 H → IsAll b H ss vs → ∀ Q : VK, (∀ v H', Go b H H' → Is b H' s v → Q v H') → sp (vs ++ []) H Q E) : Ev1 b (tCall sp [] E tr) σ H0 s := fun H g Q q =>
  h H g _ fun vs H1 g1 i1 => k vs H1 (g.trans g1) i1 Q fun v H2 g2 i2 => q v H2 (g1.trans g2) i2
theorem Go.of_same {H H' : Hp} (h : Bag H b) (s : Same H H') : Go b H H' := (Go.refl h).same s
end
theorem is1 {b : Addr} {H : Hp} {s : Sh} {vs : List V} (h : IsAll b H [s] vs) : ∃ v, vs = [v] ∧ Is b H s v := by
  obtain ⟨v, ws, rfl, r, rfl⟩ := h
  exact ⟨v, rfl, r⟩
theorem is2 {b : Addr} {H : Hp} {s t : Sh} {vs : List V} (h : IsAll b H [s, t] vs) : ∃ v w, vs = [v, w] ∧ Is b H s v ∧ Is b H t w := by
  obtain ⟨v, ws, rfl, r, h⟩ := h
  obtain ⟨w, rfl, r2⟩ := is1 h
  exact ⟨v, w, rfl, r, r2⟩
theorem is3 {b : Addr} {H : Hp} {s t u : Sh} {vs : List V} (h : IsAll b H [s, t, u] vs) : ∃ v w x, vs = [v, w, x] ∧ Is b H s v ∧ Is b H t w ∧ Is b H u x := by
  obtain ⟨v, ws, rfl, r, h⟩ := h
  obtain ⟨w, x, rfl, r2, r3⟩ := is2 h
  exact ⟨v, w, x, rfl, r, r2, r3⟩
end Rd
set_option maxHeartbeats 4000000
namespace Rd
open PySem PySem.Spec PyProof.Rows L2
open C8 (pss_cut tCut)
open RZ (ItzT pi_zipA)
/-! ## calls by keywords alone -/
section
variable {X : Cx} {CX : CXT} {k : Nat} {f : Addr} {fd : FuncData} {ps ks : List Str} {sp : Sp} {E : XK} {x : Str} {p pos : Pos} {kws : List Keyword} {tk : TA} {g : List Value → List Value → List Value} {gV : List V → List V → List V}
theorem pe_callK0 (F : FnOk X.prog X.w X.K X.mg X.base CX k f fd ps sp) (hr : Room k X.A) (hg : Gl X x) (hm : X.mg x = some (.ref f)) (hk : PySem.W.keepIn X.K (.ref f) = true) (hb : KBn X.K fd ps 0 ks g gV) (hx : Passes CX X E) (hkw : PK X kws tk)
    (hall : (backToKw pos (keywordEach kws X.env)).all (·.1.isSome) = true := by rfl) (hks : (backToKw pos (keywordEach kws X.env)).filterMap (·.1) = ks := by rfl) (hdb : (x == ("__debug__" : Str)) = false := by decide)
    (hpl : ((backTo pos (starEach [] X.env)).any (·.1) || (backToKw pos (keywordEach kws X.env)).any (·.1.isNone)) = false := by rfl) :
    PE X (.Call (.Name x p) [] kws pos) (tCallN 0 ks.length sp gV E tNil tk) where
  run := fun pins s σ H Q I h => wpAny_Call_Name_kw (ld_glob I hg hm (PySem.W.callWith_KW0 (h₀ := X.base) I.ok.mod.kin hk hall
    (thn (hkw.run pos pins s σ H _ I h) fun ws s2 ⟨zs, H2, I2, rz, l1, l2, q2⟩ => ⟨I2.kIn, by rw [hks]; exact run_fnN (us := []) (vs := []) F hr hb hx I2 .nil rz rfl l2 q2⟩) hpl) hdb)
end
theorem Def.kw {K : PySem.W.Frag} {mg : Str → Option Value} {x : Str} {st : Stmt} {ps : List Str} (D : Def K mg x st ps) (ks : List Str) (r : {α : Type} → List α → List α)
    (hr : ∀ {zs : List V} {ws : List Value}, Vals zs ws → Vals (r zs) (r ws))
    (h : ∀ (kV doc pm : Value) (an : Option Addr) (cdv ct : Value) (ws : List Value), ws.length = ks.length → bindArgs (PySem.W.fnOf x x (defArgs st) (defBody st) (defScope st) .none kV doc pm an cdv ct) ⟨[], ks.zip ws⟩ = pure (ps.zip (r ws))) :
    KBn K D.fd ps 0 ks (fun _ ws => r ws) (fun _ zs => r zs) where
  to := fun s us ws _ l1 l2 => by
    obtain ⟨oc, od, kV, doc, pm, an, cdv, ct, osl, e, lk, hcd⟩ := D.F.ex
    cases us with
    | cons _ _ => cases l1
    | nil =>
      rw [e]
      exact .of_eq (h kV doc pm an cdv ct ws l2)
  rel := fun _ rz => hr rz
section
variable {P : Program} {w : World} {K : PySem.W.Frag} {mg : Str → Option Value} {base : Heap}
theorem kw_is_end_value (T : Txt K mg) : KBn K T.d_is_end.fd ["value"] 0 ["value"] (fun _ ws => ws) (fun _ zs => zs) :=
  T.d_is_end.kw ["value"] (fun ws => ws) (fun h => h) fun _ _ _ _ _ _ us hl => match us, hl with | [_], _ => rfl
theorem kw_is_entry_value (T : Txt K mg) : KBn K T.d_is_entry.fd ["value"] 0 ["value"] (fun _ ws => ws) (fun _ zs => zs) :=
  T.d_is_entry.kw ["value"] (fun ws => ws) (fun h => h) fun _ _ _ _ _ _ us hl => match us, hl with | [_], _ => rfl
theorem kw_is_name_value (T : Txt K mg) : KBn K T.d_is_name.fd ["value"] 0 ["value"] (fun _ ws => ws) (fun _ zs => zs) :=
  T.d_is_name.kw ["value"] (fun ws => ws) (fun h => h) fun _ _ _ _ _ _ us hl => match us, hl with | [_], _ => rfl
def rev3 {α : Type} : List α → List α
  | [a, b, c] => [c, b, a]
  | _ => []
theorem rev3_vals {zs : List V} {ws : List Value} (h : Vals zs ws) : Vals (rev3 zs) (rev3 ws) := by
  rcases h with _ | ⟨h1, _ | ⟨h2, _ | ⟨h3, _ | _⟩⟩⟩
  · exact .nil
  · exact .nil
  · exact .nil
  · exact .cons h3 (.cons h2 (.cons h1 .nil))
  · exact .nil
theorem kw_is_number_most_least_value (T : Txt K mg) : KBn K T.d_is_number.fd ["value", "least", "most"] 0 ["most", "least", "value"] (fun _ ws => rev3 ws) (fun _ zs => rev3 zs) :=
  T.d_is_number.kw ["most", "least", "value"] rev3 rev3_vals fun _ _ _ _ _ _ us hl => match us, hl with | [_, _, _], _ => rfl
/-! ## the law's own helpers by shapes -/
section
variable {b : Addr} {σ : L2.St} {H0 : Hp} {te ta tb : TE} {tr : TA} {s s1 s2 : Sh} {ss xs : List Sh}
theorem e_ofL (h : EvN b tr σ H0 [.c (.ref b), .l xs]) (h0 : 0 < xs.length) (h1 : xs.length < 1000) : Ev1 b (tCall spOfL [] E0 tr) σ H0 (.o xs) :=
  e_call h fun vs H g i Q q => by
    obtain ⟨v, u, rfl, rfl, p, ys, rfl, n, o, r⟩ := is2 i
    have l := r.length
    exact ⟨b, p, ys, rfl, g.1, n, o, by omega, by omega, fun v H' g' m => by
      obtain ⟨s, ms, k⟩ := r.mem m
      exact q v H' g' (IsOne.of ms (k.go g'))⟩
theorem e_ofS {z : Str} (h : EvN b tr σ H0 [.c (.ref b), .c (.str z)]) (h0 : 0 < z.length) (h1 : z.length < 1000) : Ev1 b (tCall spOfS [] E0 tr) σ H0 (.is fun v => ∃ c, c ∈ z.cps.toList ∧ v = .str ⟨#[c]⟩) :=
  e_call h fun vs H g i Q q => by
    obtain ⟨v, u, rfl, rfl, rfl⟩ := is2 i
    exact ⟨b, z, rfl, g.1, h0, h1, fun c H' g' m => q _ H' g' ⟨c, m, rfl⟩⟩
theorem e_draw {k : Int} (h : EvN b tr σ H0 [.c (.ref b), .c (.int k)]) (h0 : 0 < k) (h1 : k < 1000000) : Ev1 b (tCall spDraw [] E0 tr) σ H0 (.is fun v => ∃ d, 0 ≤ d ∧ d < k ∧ v = .int d) :=
  e_call h fun vs H g i Q q => by
    obtain ⟨v, u, rfl, rfl, rfl⟩ := is2 i
    exact ⟨b, k, rfl, g.1, h0, h1, fun c H' g' m0 m1 => q _ H' g' ⟨c, m0, m1, rfl⟩⟩
theorem e_same {n : Nat} (h : EvN b tr σ H0 [s, s]) (d : det n s = true) : Ev1 b (tCall (spSame K n) [] E0 tr) σ H0 (.c (.bl true)) :=
  e_call h fun vs H g i Q q => by
    obtain ⟨v, u, rfl, i1, i2⟩ := is2 i
    exact ⟨v, u, rfl, eqv_det d i1 i2, fun H' s => q _ H' (Go.of_same g.1 s) rfl⟩
/-- what is_end and is_entry say of a shape -/
def EndOk (K : PySem.W.Frag) (s : Sh) (r : Bool) : Prop := ∀ (b : Addr) (H : Hp) (v : V), Is b H s v → ∀ Q : VK, (∀ H', Same H H' → Q (.bl r) H') → spEnd K [v] H Q E0
def EntryOk (K : PySem.W.Frag) (s : Sh) (r : Bool) : Prop := ∀ (b : Addr) (H : Hp) (v : V), Is b H s v → ∀ Q : VK, (∀ H', Same H H' → Q (.bl r) H') → spEntry K [v] H Q E0
theorem tyn_sc {x : V} (h : isSc x = true) : tyn x ≠ "tuple" := by
  cases x with
  | non => exact fun e => absurd (show "NoneType" = "tuple" from e) (by decide)
  | bl _ => exact fun e => absurd (show "bool" = "tuple" from e) (by decide)
  | int _ => exact fun e => absurd (show "int" = "tuple" from e) (by decide)
  | str _ => exact fun e => absurd (show "str" = "tuple" from e) (by decide)
  | _ => cases h
theorem flat_sc {x : V} (h : isSc x = true) : flatV x = true := by
  cases x <;> first | rfl | cases h
def shortV (x : V) : Prop := ∀ z, x = .str z → z.length ≤ 1000
/-- the kind of a value of a shape -/
def kindly : Sh → Bool
  | .c x => isSc x
  | .l _ => true
  | .t _ => true
  | _ => false
theorem kd_of {K : PySem.W.Frag} {b : Addr} {H : Hp} {s : Sh} {v : V} (k : kindly s = true) (h : Is b H s v) : ∃ t, Kd K H v t := by
  cases s with
  | c x => rw [show v = x from h]; exact ⟨_, .sc k⟩
  | l xs => obtain ⟨p, vs, rfl, _, o, _⟩ := h; exact ⟨_, .lst (SqL.of o)⟩
  | t xs => obtain ⟨p, vs, rfl, _, o, _⟩ := h; exact ⟨_, .tup (SqT.of o)⟩
  | is p => cases k
  | o xs => cases k
theorem two_c {K : PySem.W.Frag} {H : Hp} {x : V} (h : isSc x = true) {m : V → V → Prop} {no : Prop} {yes : V → V → Prop} (q : no) : Two K H x m no yes := .inl ⟨_, .sc h, tyn_sc h, q⟩
theorem two_l {K : PySem.W.Frag} {b : Addr} {H : Hp} {xs : List Sh} {v : V} (h : Is b H (.l xs) v) {m : V → V → Prop} {no : Prop} {yes : V → V → Prop} (q : no) : Two K H v m no yes := by
  obtain ⟨p, vs, rfl, _, o, _⟩ := h
  exact .inl ⟨"list", .lst (SqL.of o), by decide, q⟩
theorem two_t {K : PySem.W.Frag} {b : Addr} {H : Hp} {xs : List Sh} {v : V} (h : Is b H (.t xs) v) (n : xs.length ≠ 2) {m : V → V → Prop} {no : Prop} {yes : V → V → Prop} (q : no) : Two K H v m no yes := by
  obtain ⟨p, vs, rfl, _, o, r⟩ := h
  exact .inr (.inl ⟨p, vs, rfl, SqT.of o, by rw [r.length]; exact n, q⟩)
theorem two_2 {K : PySem.W.Frag} {b : Addr} {H : Hp} {s1 s2 : Sh} {v : V} (h : Is b H (.t [s1, s2]) v) (k : kindly s1 = true) (hz : ∀ x, Is b H s1 x → shortV x) {m : V → V → Prop} {no : Prop} {yes : V → V → Prop}
    (hm : ∀ x y, Is b H s1 x → Is b H s2 y → isNm x = true → m x y) (q : ∀ x y, Is b H s1 x → Is b H s2 y → yes x y) : Two K H v m no yes := by
  obtain ⟨p, vs, rfl, _, o, r⟩ := h
  obtain ⟨x, y, rfl, i1, i2⟩ := is2 r
  obtain ⟨t, kt⟩ := kd_of (K := K) k i1
  exact .inr (.inr ⟨p, x, y, t, rfl, SqT.of o, kt, hz x i1, hm x y i1 i2, q x y i1 i2⟩)
theorem short_ref {b : Addr} {H : Hp} {s : Sh} (h : (∃ xs, s = .l xs) ∨ ∃ xs, s = .t xs) : ∀ x, Is b H s x → shortV x ∧ isNm x = false := by
  rintro x i
  rcases h with ⟨xs, rfl⟩ | ⟨xs, rfl⟩
  · obtain ⟨p, vs, rfl, _⟩ := i; exact ⟨fun z e => (nomatch e), rfl⟩
  · obtain ⟨p, vs, rfl, _⟩ := i; exact ⟨fun z e => (nomatch e), rfl⟩
theorem endOk_c {K : PySem.W.Frag} {x : V} (h : isSc x = true) : EndOk K (.c x) false := fun b H v i Q q => ⟨v, rfl, by rw [show v = x from i]; exact two_c h (q H (Same.refl H))⟩
theorem endOk_l {K : PySem.W.Frag} {xs : List Sh} : EndOk K (.l xs) false := fun b H v i Q q => ⟨v, rfl, two_l i (q H (Same.refl H))⟩
theorem endOk_t {K : PySem.W.Frag} {xs : List Sh} (n : xs.length ≠ 2) : EndOk K (.t xs) false := fun b H v i Q q => ⟨v, rfl, two_t i n (q H (Same.refl H))⟩
theorem endOk_2 {K : PySem.W.Frag} {x y : V} {r : Bool} (h : isSc x = true) (hs : shortV x) (h2 : isSc y = true) (e : (isNm x && inV y sidesV) = r) : EndOk K (.t [.c x, .c y]) r := fun b H v i Q q => ⟨v, rfl, two_2 i h
  (fun u iu => by rw [show u = x from iu]; exact hs) (fun u y' iu iy _ => by rw [show y' = y from iy]; exact flat_sc h2) fun u y' iu iy H' s => by rw [show u = x from iu, show y' = y from iy, e]; exact q H' s⟩
theorem endOk_2n {K : PySem.W.Frag} {s1 s2 : Sh} (h : (∃ xs, s1 = .l xs) ∨ ∃ xs, s1 = .t xs) : EndOk K (.t [s1, s2]) false := fun b H v i Q q => ⟨v, rfl, two_2 i (by rcases h with ⟨xs, rfl⟩ | ⟨xs, rfl⟩ <;> rfl)
  (fun u iu => (short_ref h u iu).1) (fun u y iu iy e => by rw [(short_ref h u iu).2] at e; cases e) fun u y iu iy H' s => by rw [(short_ref h u iu).2]; exact q H' s⟩
theorem endOk_o {K : PySem.W.Frag} {xs : List Sh} (h : ∀ s ∈ xs, EndOk K s false) : EndOk K (.o xs) false := fun b H v i Q q => by
  obtain ⟨s, m, k⟩ := IsOne.mem i
  exact h s m b H v k Q q
theorem entryOk_c {K : PySem.W.Frag} {x : V} (h : isSc x = true) : EntryOk K (.c x) false := fun b H v i Q q => ⟨v, rfl, by rw [show v = x from i]; exact two_c h (q H (Same.refl H))⟩
theorem entryOk_l {K : PySem.W.Frag} {xs : List Sh} : EntryOk K (.l xs) false := fun b H v i Q q => ⟨v, rfl, two_l i (q H (Same.refl H))⟩
theorem entryOk_t {K : PySem.W.Frag} {xs : List Sh} (n : xs.length ≠ 2) : EntryOk K (.t xs) false := fun b H v i Q q => ⟨v, rfl, two_t i n (q H (Same.refl H))⟩
theorem entryOk_2 {K : PySem.W.Frag} {x y : V} {r : Bool} (h : isSc x = true) (hs : shortV x) (h2 : isSc y = true) (e : (isNm x && isNum y 0 5) = r) : EntryOk K (.t [.c x, .c y]) r := fun b H v i Q q => ⟨v, rfl, two_2 i h
  (fun u iu => by rw [show u = x from iu]; exact hs) (fun u y' iu iy _ => kd_of (s := .c y) h2 iy) fun u y' iu iy H' s => by rw [show u = x from iu, show y' = y from iy, e]; exact q H' s⟩
theorem entryOk_2n {K : PySem.W.Frag} {s1 s2 : Sh} (h : (∃ xs, s1 = .l xs) ∨ ∃ xs, s1 = .t xs) : EntryOk K (.t [s1, s2]) false := fun b H v i Q q => ⟨v, rfl, two_2 i (by rcases h with ⟨xs, rfl⟩ | ⟨xs, rfl⟩ <;> rfl)
  (fun u iu => (short_ref h u iu).1) (fun u y iu iy e => by rw [(short_ref h u iu).2] at e; cases e) fun u y iu iy H' s => by rw [(short_ref h u iu).2]; exact q H' s⟩
theorem entryOk_2r {K : PySem.W.Frag} {x : V} {ys : List Sh} (h : isSc x = true) (hs : shortV x) : EntryOk K (.t [.c x, .t ys]) false := fun b H v i Q q => ⟨v, rfl, two_2 i h
  (fun u iu => by rw [show u = x from iu]; exact hs) (fun u y' iu iy _ => kd_of (s := .t ys) rfl iy) fun u y' iu iy H' s => by
    obtain ⟨p, vs, rfl, _⟩ := iy
    rw [show isNum (.ref p) 0 5 = false from rfl, Bool.and_false]; exact q H' s⟩
theorem entryOk_o {K : PySem.W.Frag} {xs : List Sh} (h : ∀ s ∈ xs, EntryOk K s false) : EntryOk K (.o xs) false := fun b H v i Q q => by
  obtain ⟨s, m, k⟩ := IsOne.mem i
  exact h s m b H v k Q q
theorem e_end {r : Bool} (h : EvN b tr σ H0 [s]) (k : EndOk K s r) : Ev1 b (tCall (spEnd K) [] E0 tr) σ H0 (.c (.bl r)) :=
  e_call h fun vs H g i Q q => by
    obtain ⟨v, rfl, i1⟩ := is1 i
    exact k b H v i1 Q fun H' s => q _ H' (Go.of_same g.1 s) rfl
theorem e_entry {r : Bool} (h : EvN b tr σ H0 [s]) (k : EntryOk K s r) : Ev1 b (tCall (spEntry K) [] E0 tr) σ H0 (.c (.bl r)) :=
  e_call h fun vs H g i Q q => by
    obtain ⟨v, rfl, i1⟩ := is1 i
    exact k b H v i1 Q fun H' s => q _ H' (Go.of_same g.1 s) rfl
theorem e_callK {sp : Sp} {E : XK} {n : Nat} {gV : List V → List V → List V} (h : EvN b tr σ H0 ss) (l : ss.length = n) (k : ∀ vs H, Go b H0 H → IsAll b H ss vs → ∀ Q : VK, (∀ v H', Go b H H' → Is b H' s v → Q v H') → sp (gV [] vs) H Q E) : Ev1 b (tCallN 0 n sp gV E tNil tr) σ H0 s := fun H g Q q =>
  h H g _ fun vs H1 g1 i1 => ⟨rfl, i1.length.trans l, k vs H1 (g.trans g1) i1 Q fun v H2 g2 i2 => q v H2 (g1.trans g2) i2⟩
theorem e_endK {r : Bool} (h : EvN b tr σ H0 [s]) (k : EndOk K s r) : Ev1 b (tCallN 0 1 (spEnd K) (fun _ zs => zs) E0 tNil tr) σ H0 (.c (.bl r)) :=
  e_callK h rfl fun vs H g i Q q => by
    obtain ⟨v, rfl, i1⟩ := is1 i
    exact k b H v i1 Q fun H' s => q _ H' (Go.of_same g.1 s) rfl
theorem e_entryK {r : Bool} (h : EvN b tr σ H0 [s]) (k : EntryOk K s r) : Ev1 b (tCallN 0 1 (spEntry K) (fun _ zs => zs) E0 tNil tr) σ H0 (.c (.bl r)) :=
  e_callK h rfl fun vs H g i Q q => by
    obtain ⟨v, rfl, i1⟩ := is1 i
    exact k b H v i1 Q fun H' s => q _ H' (Go.of_same g.1 s) rfl
end
/-! ### strange values -/
def strangeSh : List Sh := [.c .non, .c (.bl true), .c (.bl false), .c (.str "3"), .c (.str ""), .l [.c (.int 3)], .c (.str "a"), .l [.c (.str "a"), .c (.str "b")], .l [.t [.c (.str "a"), .c (.int 0)]]]
def spStrange : Sp := fun vs H Q _ => ∃ b, vs = [.ref b] ∧ Bag H b ∧ ∀ v H', Go b H H' → Is b H' (.o strangeSh) v → Q v H'
theorem ok_law_strange (T : Txt K mg) : FnOk P w K mg base CX0 3 T.d__law_strange.f T.d__law_strange.fd ["_law_bag_here"] spStrange := by
  refine T.d__law_strange.F.ok sc_law_strange (fun vs H Q E h => ?_) (fun cdv A outer s H vs Q E hr h => ?_)
  · obtain ⟨b, rfl, _⟩ := h
    rfl
  · obtain ⟨b, rfl, hB, q⟩ := h
    refine ⟨_, (pss_one (ps_ret (pe_call (ok_law_ofL T) (hr.mono (by decide)) (by rfl) T.d__law_of.g T.d__law_of.F.kp T.d__law_of.b .nil pass0 (pa_cons (pv 0) (pa_cons (pe_lst (pa_cons pe_non (pa_cons pe_bl (pa_cons pe_bl (pa_cons pe_str (pa_cons pe_str (pa_cons (pe_lst (pa_cons pe_int pa_nil)) (pa_cons pe_str (pa_cons (pe_lst (pa_cons pe_str (pa_cons pe_str pa_nil))) (pa_cons (pe_lst (pa_cons (pe_tup (pa_cons pe_str (pa_cons pe_int pa_nil))) pa_nil)) pa_nil)))))))))) pa_nil))))), ?_⟩
    have h : Ev1 b _ _ H (.o strangeSh) := e_ofL (n_cons (e_var (i := 0) (σ := L2.start N_law_strange [.ref b]) rfl rfl) (n_cons (e_lst (n_cons e_c (n_cons e_c (n_cons e_c (n_cons e_c (n_cons e_c (n_cons (e_lst (n_cons e_c n_nil) (by decide)) (n_cons e_c (n_cons (e_lst (n_cons e_c (n_cons e_c n_nil)) (by decide)) (n_cons (e_lst (n_cons (e_tup (n_cons e_c (n_cons e_c n_nil)) (by decide)) n_nil) (by decide)) n_nil))))))))) (by decide)) n_nil)) (by decide) (by decide)
    exact h H (Go.refl hB) _ fun v H' g i => q v H' g i
end
end Rd
set_option maxHeartbeats 4000000
namespace Rd
open PySem PySem.Spec PyProof.Rows L2
open C8 (pss_cut tCut)
open RZ (ItzT pi_zipA)
theorem e_strange {b : Addr} {σ : L2.St} {H0 : Hp} {tr : TA} (h : EvN b tr σ H0 [.c (.ref b)]) : Ev1 b (tCall spStrange [] E0 tr) σ H0 (.o strangeSh) :=
  e_call h fun vs H g i Q q => by
    obtain ⟨v, rfl, rfl⟩ := is1 i
    exact ⟨b, rfl, g.1, fun v H' g' i' => q v H' g' i'⟩
theorem e_strI {b : Addr} {σ : L2.St} {H0 : Hp} {te : TE} {i : Int} (h : Ev1 b te σ H0 (.c (.int i))) (l : i.natAbs < 2 ^ 60) : Ev1 b (tCB (fun xs H Q => ∃ i, xs = [.int i] ∧ i.natAbs.log2 < 1920 ∧ Q (.str (toString i)) H) (tCons te tNil)) σ H0 (.c (.str (toString i))) := fun H g Q q =>
  h H g _ fun v H1 g1 i1 => ⟨i, by rw [show v = _ from i1], Nat.lt_of_lt_of_le (PySem.Flt.log2_lt_of (by decide) l) (by decide), q _ H1 g1 rfl⟩
theorem all_nil {p : Sh → Prop} : ∀ s ∈ ([] : List Sh), p s := fun _ h => nomatch h
theorem all_cons {p : Sh → Prop} {x : Sh} {xs : List Sh} (h : p x) (t : ∀ s ∈ xs, p s) : ∀ s ∈ x :: xs, p s := fun s m => by
  rcases List.mem_cons.mp m with rfl | m
  · exact h
  · exact t s m
theorem is_c {b : Addr} {H : Hp} {v : V} : Is b H (.c v) v := rfl
theorem app_len (x y : Str) : (x ++ y).length = x.length + y.length := by
  show (x.cps ++ y.cps).size = x.cps.size + y.cps.size
  simp
section
variable {b : Addr} {σ : L2.St} {H : Hp} {te : TE} {s : Sh} {D : Ends} {t2 : TS} {i : Nat}
theorem q_set (hB : Bag H b) (h : Ev1 b te σ H s) (q : ∀ v H', Go b H H' → Is b H' s v → t2 D (σ.set i (some v)) H') : tSeq (tAsg te (gName i)) t2 D σ H := h H (.refl hB) _ q
theorem q_ret (hB : Bag H b) (h : Ev1 b te σ H s) (q : ∀ v H', Go b H H' → Is b H' s v → D.rt v H') : tRet te D σ H := h H (.refl hB) _ q
theorem q_par {j : Nat} {ta : TE} {s' : Sh} (hB : Bag H b) (h : Ev1 b te σ H s) (k : Ev1 b ta σ H s') (q : ∀ v w H', Go b H H' → Is b H' s v → Is b H' s' w → t2 D ((σ.set i (some v)).set j (some w)) H') : tSeq (tPar i j (tCons te (tCons ta tNil))) t2 D σ H :=
  h H (.refl hB) _ fun v H1 g1 i1 => k H1 g1 _ fun w H2 g2 i2 => ⟨v, w, rfl, q v w H2 (g1.trans g2) (i1.go g2) i2⟩
theorem e_mono {H' : Hp} (g : Go b H H') (h : Ev1 b te σ H s) : Ev1 b te σ H' s := fun H1 g1 Q q => h H1 (g.trans g1) Q q
end
local macro_rules | `(tactic| walk_at "ev") => `(tactic| repeat' (first
  | ((with_reducible show EvN _ tNil _ _ _); exact n_nil)
  | ((with_reducible show EvN _ (tCons _ _) _ _ _); apply n_cons)
  | ((with_reducible show Ev1 _ (tVar _) _ _ _); (apply e_var rfl; first | assumption | exact is_c | exact rfl))
  | ((with_reducible show Ev1 _ (tC _) _ _ _); (exact e_c))
  | ((with_reducible show Ev1 _ (tLst _) _ _ _); (apply e_lst))
  | ((with_reducible show Ev1 _ (tTup _) _ _ _); (apply e_tup))
  | ((with_reducible show Ev1 _ (tOp _ _ _) _ _ _); (first | with_reducible apply e_cat | with_reducible apply e_cats | with_reducible apply e_add | with_reducible apply e_sub | with_reducible apply e_le | with_reducible apply e_pow))
  | ((with_reducible show Ev1 _ (tCB _ _) _ _ _); (first | with_reducible apply e_lens | with_reducible apply e_strI))
  | ((with_reducible show Ev1 _ (tChain _ _ _ _ _) _ _ _); (apply e_chain))
  | ((with_reducible show Ev1 _ (tUn _ _) _ _ _); (apply e_neg))
  | ((with_reducible show Ev1 _ (tCall _ _ _ _) _ _ _); (first | with_reducible apply e_ofL | with_reducible apply e_draw | with_reducible apply e_same | with_reducible apply e_end | with_reducible apply e_entry | with_reducible apply e_strange))
  | ((with_reducible show Ev1 _ (tCallN _ _ _ _ _ _ _) _ _ _); (first | apply e_endK | apply e_entryK))
  | with_reducible assumption
  | ((with_reducible show CPow _ _); exact ⟨by decide, by decide, by decide⟩)
  | ((with_reducible show det _ _ = true); rfl)
  | omega
  | (simp only [app_len]; omega)
  | exact Nat.le_of_ble_eq_true rfl
  | assumption))
section
variable {P : Program} {w : World} {K : PySem.W.Frag} {mg : Str → Option Value} {base : Heap}
def gateP : V → Bool
  | .str g => ((inV (.str g) sidesV && !inV (.str (g ++ g)) sidesV) && decide (g.length ≤ 5))
  | _ => false
theorem gateP_str {v : V} (h : gateP v = true) : ∃ g, v = .str g ∧ inV (.str g) sidesV = true ∧ inV (.str (g ++ g)) sidesV = false ∧ g.length ≤ 5 := by
  cases v with
  | str g =>
    have h' : ((inV (.str g) sidesV && !inV (.str (g ++ g)) sidesV) && decide (g.length ≤ 5)) = true := h
    rw [Bool.and_eq_true, Bool.and_eq_true, Bool.not_eq_true'] at h'
    exact ⟨g, rfl, h'.1.1, h'.1.2, of_decide_eq_true h'.2⟩
  | _ => cases h
def wordy (z : Str) : Prop := z.length ≤ 8 ∧ z.cps.toList.all low = true
theorem isNm_wordy {z : Str} (h : wordy z) : isNm (.str z) = (decide ((1 : Int) ≤ z.length) && decide ((z.length : Int) ≤ 6)) := by
  rw [isNm_str, h.2, Bool.and_true]
  congr 1
  · exact decide_eq_decide.mpr (by omega)
  · exact decide_eq_decide.mpr (by omega)
def spSo : Sp := fun vs H Q _ => ∃ b z y, vs = [.ref b, .str z, .str y] ∧ Bag H b ∧ wordy z ∧ y.length ≤ 100 ∧ isNm (.str y) = false ∧ ∀ H', Go b H H' → Q (.bl true) H'
theorem short_str {z : Str} (h : z.length ≤ 1000) : shortV (.str z) := fun y e => by cases e; exact h
theorem ok_law_end_so (T : Txt K mg) : FnOk P w K mg base CX0 4 T.d__law_end_so.f T.d__law_end_so.fd ["_law_bag_here", "_law_word", "_law_bent"] spSo := by
  refine T.d__law_end_so.F.ok sc_law_end_so (fun vs H Q E h => ?_) (fun cdv A outer s H vs Q E hr h => ?_)
  · obtain ⟨b, z, y, rfl, _⟩ := h
    rfl
  · obtain ⟨b, z, y, rfl, hB, hz, hy, ny, q⟩ := h
    refine ⟨_, (pss_cons (ps_set (i := 3) sc_law_end_so.nd rfl (Or.inl rfl) (pe_call (ok_law_ofL T) (hr.mono (by decide)) (by rfl) T.d__law_of.g T.d__law_of.F.kp T.d__law_of.b .nil pass0 (pa_cons (pv 0) (pa_cons (pe_lst (pa_cons pe_str (pa_cons pe_str (pa_cons pe_str (pa_cons pe_str (pa_cons pe_str (pa_cons pe_str (pa_cons pe_str pa_nil)))))))) pa_nil))))
      (pss_cons (ps_set (i := 4) sc_law_end_so.nd rfl (Or.inl rfl) (pe_chain op_le op_le pe_int (pe_callB call_len_str (by rfl) T.z_len (by decide +kernel) (pa_cons (pv 1) pa_nil)) pe_int))
      (pss_cons (ps_set (i := 5) sc_law_end_so.nd rfl (Or.inl rfl) (pe_lst (pa_cons (pe_tup (pa_cons (pv 1) pa_nil)) (pa_cons (pe_tup (pa_cons (pv 1) (pa_cons (pv 3) (pa_cons (pv 3) pa_nil)))) (pa_cons (pe_lst (pa_cons (pv 1) (pa_cons (pv 3) pa_nil))) (pa_cons (pe_tup (pa_cons (pv 2) (pa_cons (pv 3) pa_nil))) (pa_cons (pe_tup (pa_cons (pv 1) (pa_cons pe_str pa_nil))) (pa_cons (pe_tup (pa_cons (pv 1) (pa_cons pe_non pa_nil))) (pa_cons (pe_tup (pa_cons pe_non (pa_cons (pv 3) pa_nil))) (pa_cons (pv 3) pa_nil))))))))))
      (pss_cons (ps_set (i := 5) sc_law_end_so.nd rfl (Or.inl rfl) (pe_op op_cat (pv 5) (pe_lst (pa_cons (pe_op op_add_str (pe_op op_add_str (pv 1) pe_str) (pv 3)) (pa_cons (pe_tup (pa_cons (pe_tup (pa_cons (pv 1) (pa_cons (pv 3) pa_nil))) (pa_cons (pv 3) pa_nil))) (pa_cons (pe_tup (pa_cons (pv 1) (pa_cons (pe_op op_add_str (pv 3) (pv 3)) pa_nil))) (pa_cons (pe_tup (pa_cons (pv 1) (pa_cons pe_str pa_nil))) (pa_cons (pe_tup (pa_cons (pv 1) (pa_cons pe_int pa_nil))) (pa_cons (pe_tup (pa_cons pe_str (pa_cons (pv 3) pa_nil))) (pa_cons (pe_tup pa_nil) pa_nil))))))))))
      (pss_cons (ps_set (i := 6) sc_law_end_so.nd rfl (Or.inl rfl) (pe_lst (pa_cons (pe_call (ok_is_end T) (hr.mono (by decide)) (by rfl) T.d_is_end.g T.d_is_end.F.kp T.d_is_end.b .nil pass0 (pa_cons (pe_tup (pa_cons (pv 1) (pa_cons (pv 3) pa_nil))) pa_nil)) (pa_cons (pe_callK0 (ok_is_end T) (hr.mono (by decide)) (by rfl) T.d_is_end.g T.d_is_end.F.kp (kw_is_end_value T) pass0 (pk_cons (pe_tup (pa_cons (pv 1) (pa_cons (pv 3) pa_nil))) pk_nil)) (pa_cons (pe_call (ok_is_end T) (hr.mono (by decide)) (by rfl) T.d_is_end.g T.d_is_end.F.kp T.d_is_end.b .nil pass0 (pa_cons (pe_call (ok_law_ofL T) (hr.mono (by decide)) (by rfl) T.d__law_of.g T.d__law_of.F.kp T.d__law_of.b .nil pass0 (pa_cons (pv 0) (pa_cons (pv 5) pa_nil))) pa_nil)) (pa_cons (pe_call (ok_is_end T) (hr.mono (by decide)) (by rfl) T.d_is_end.g T.d_is_end.F.kp T.d_is_end.b .nil pass0 (pa_cons (pe_call (ok_law_strange T) (hr.mono (by decide)) (by rfl) T.d__law_strange.g T.d__law_strange.F.kp T.d__law_strange.b .nil pass0 (pa_cons (pv 0) pa_nil)) pa_nil)) pa_nil))))))
      (pss_one (ps_ret (pe_call (ok_law_same T 1) (hr.mono (by decide)) (by rfl) T.d__law_same.g T.d__law_same.F.kp T.d__law_same.b .nil pass0 (pa_cons (pv 6) (pa_cons (pe_lst (pa_cons (pv 4) (pa_cons (pv 4) (pa_cons pe_bl (pa_cons pe_bl pa_nil))))) pa_nil)))))))))), ?_⟩
    refine q_set (b := b) (s := .o (sidesV.map Sh.c)) hB (by walk_at "ev") fun v H1 g1 i1 => ?_
    obtain ⟨g, rfl, e1, e2, lg⟩ := gateP_str (one_c gateP (by decide +kernel) i1)
    clear i1
    have lz := hz.1
    have sz := short_str (z := z) (by omega)
    have sy := short_str (z := y) (by omega)
    have ld : ("." : Str).length = 1 := by decide +kernel
    have n2 : ∀ {xs : List Sh}, (xs.length == 2) = false → EndOk K (.t xs) false := fun h => endOk_t (fun e => by rw [e] at h; cases h)
    have u1 : inV (.str "up") sidesV = false := by decide +kernel
    have u2 : inV .non sidesV = false := by decide +kernel
    have u3 : inV (.str "") sidesV = false := by decide +kernel
    have u4 : inV (.int 1) sidesV = false := by decide +kernel
    have u5 : isNm (.str "") = false := by decide +kernel
    have so : ∀ {y : V}, isSc y = true → inV y sidesV = false → EndOk K (.t [.c (.str z), .c y]) false := fun h e => endOk_2 rfl sz h (by rw [e, Bool.and_false])
    have k1 : EndOk K (.t [.c (.str z), .c (.str g)]) (isNm (.str z)) := endOk_2 rfl sz rfl (by rw [e1, Bool.and_true])
    have k2 : EndOk K (.o [.t [.c (.str z)], .t [.c (.str z), .c (.str g), .c (.str g)], .l [.c (.str z), .c (.str g)], .t [.c (.str y), .c (.str g)], .t [.c (.str z), .c (.str "up")], .t [.c (.str z), .c .non], .t [.c .non, .c (.str g)], .c (.str g),
        .c (.str (z ++ "." ++ g)), .t [.t [.c (.str z), .c (.str g)], .c (.str g)], .t [.c (.str z), .c (.str (g ++ g))], .t [.c (.str z), .c (.str "")], .t [.c (.str z), .c (.int 1)], .t [.c (.str ""), .c (.str g)], .t []]) false :=
      endOk_o (all_cons (n2 rfl) (all_cons (n2 rfl) (all_cons endOk_l (all_cons (endOk_2 rfl sy rfl (by rw [ny]; rfl)) (all_cons (so rfl u1) (all_cons (so rfl u2) (all_cons (endOk_2 rfl (fun _ e => nomatch e) rfl rfl) (all_cons (endOk_c rfl)
        (all_cons (endOk_c rfl) (all_cons (endOk_2n (.inr ⟨_, rfl⟩)) (all_cons (so rfl e2) (all_cons (so rfl u3) (all_cons (so rfl u4) (all_cons (endOk_2 rfl (short_str (by decide)) rfl (by rw [u5]; rfl)) (all_cons (n2 rfl) all_nil)))))))))))))))
    have k3 : EndOk K (.o strangeSh) false := endOk_o (all_cons (endOk_c rfl) (all_cons (endOk_c rfl) (all_cons (endOk_c rfl) (all_cons (endOk_c rfl) (all_cons (endOk_c rfl) (all_cons endOk_l (all_cons (endOk_c rfl) (all_cons endOk_l (all_cons endOk_l all_nil)))))))))
    refine q_set (b := b) g1.1 (by walk_at "ev") fun v H2 g2 i2 => ?_
    rw [show v = _ from i2]
    rw [← isNm_wordy hz]
    refine q_set (b := b) g2.1 (by walk_at "ev") fun v H3 g3 i3 => ?_
    refine q_set (b := b) g3.1 (by walk_at "ev") fun v H4 g4 i4 => ?_
    refine q_set (b := b) g4.1 (by walk_at "ev") fun v H5 g5 i5 => ?_
    refine q_ret (b := b) g5.1 (s := .c (.bl true)) (by walk_at "ev") fun v H6 g6 i6 => ?_
    rw [show v = _ from i6]
    exact q H6 (((((g1.trans g2).trans g3).trans g4).trans g5).trans g6)
def strE (i : Int) : Str := toString i
theorem ok_law_entry_so (T : Txt K mg) : FnOk P w K mg base CX0 4 T.d__law_entry_so.f T.d__law_entry_so.fd ["_law_bag_here", "_law_word", "_law_bent"] spSo := by
  refine T.d__law_entry_so.F.ok sc_law_entry_so (fun vs H Q E h => ?_) (fun cdv A outer s H vs Q E hr h => ?_)
  · obtain ⟨b, z, y, rfl, _⟩ := h
    rfl
  · obtain ⟨b, z, y, rfl, hB, hz, hy, ny, q⟩ := h
    refine ⟨_, (pss_cons (ps_par (i := 3) (j := 4) (by rfl) sc_law_entry_so.nd rfl rfl (by decide) rfl rfl (pa_cons (pe_call (ok_law_draw T) (hr.mono (by decide)) (by rfl) T.d__law_draw.g T.d__law_draw.F.kp T.d__law_draw.b .nil pass0 (pa_cons (pv 0) (pa_cons pe_int pa_nil))) (pa_cons (pe_chain op_le op_le pe_int (pe_callB call_len_str (by rfl) T.z_len (by decide +kernel) (pa_cons (pv 1) pa_nil)) pe_int) pa_nil)) (by rfl))
      (pss_cons (ps_set (i := 5) sc_law_entry_so.nd rfl (Or.inl rfl) (pe_lst (pa_cons (pe_tup (pa_cons (pv 1) (pa_cons (pe_un un_neg pe_int) pa_nil))) (pa_cons (pe_tup (pa_cons (pv 1) (pa_cons pe_int pa_nil))) (pa_cons (pe_tup (pa_cons (pv 1) (pa_cons pe_bl pa_nil))) (pa_cons (pe_tup (pa_cons (pv 1) (pa_cons pe_bl pa_nil))) (pa_cons (pe_tup (pa_cons (pv 1) (pa_cons (pe_callTy call_str_int (by rfl) T.z_str (by decide +kernel) (pa_cons (pv 3) pa_nil)) pa_nil))) (pa_cons (pe_lst (pa_cons (pv 1) (pa_cons (pv 3) pa_nil))) (pa_cons (pe_tup (pa_cons (pv 2) (pa_cons (pv 3) pa_nil))) pa_nil)))))))))
      (pss_cons (ps_set (i := 5) sc_law_entry_so.nd rfl (Or.inl rfl) (pe_op op_cat (pv 5) (pe_lst (pa_cons (pe_tup (pa_cons (pv 1) pa_nil)) (pa_cons (pe_tup (pa_cons (pv 1) (pa_cons (pv 3) (pa_cons (pv 3) pa_nil)))) (pa_cons (pv 3) (pa_cons (pv 1) (pa_cons (pe_tup (pa_cons (pv 3) (pa_cons (pv 1) pa_nil))) (pa_cons (pe_tup (pa_cons (pv 1) (pa_cons pe_non pa_nil))) (pa_cons (pe_tup (pa_cons (pe_tup (pa_cons (pv 1) pa_nil)) (pa_cons (pv 3) pa_nil))) (pa_cons (pe_tup (pa_cons pe_str (pa_cons pe_int pa_nil))) pa_nil)))))))))))
      (pss_cons (ps_set (i := 5) sc_law_entry_so.nd rfl (Or.inl rfl) (pe_op op_cat (pv 5) (pe_lst (pa_cons (pe_tup (pa_cons (pv 1) (pa_cons (pe_op op_pow pe_int pe_int) pa_nil))) (pa_cons (pe_tup (pa_cons (pv 1) (pa_cons (pe_tup (pa_cons (pv 3) pa_nil)) pa_nil))) pa_nil)))))
      (pss_cons (ps_set (i := 6) sc_law_entry_so.nd rfl (Or.inl rfl) (pe_lst (pa_cons (pe_call (ok_is_entry T) (hr.mono (by decide)) (by rfl) T.d_is_entry.g T.d_is_entry.F.kp T.d_is_entry.b .nil pass0 (pa_cons (pe_tup (pa_cons (pv 1) (pa_cons (pv 3) pa_nil))) pa_nil)) (pa_cons (pe_callK0 (ok_is_entry T) (hr.mono (by decide)) (by rfl) T.d_is_entry.g T.d_is_entry.F.kp (kw_is_entry_value T) pass0 (pk_cons (pe_tup (pa_cons (pv 1) (pa_cons (pv 3) pa_nil))) pk_nil)) (pa_cons (pe_call (ok_is_entry T) (hr.mono (by decide)) (by rfl) T.d_is_entry.g T.d_is_entry.F.kp T.d_is_entry.b .nil pass0 (pa_cons (pe_call (ok_law_ofL T) (hr.mono (by decide)) (by rfl) T.d__law_of.g T.d__law_of.F.kp T.d__law_of.b .nil pass0 (pa_cons (pv 0) (pa_cons (pv 5) pa_nil))) pa_nil)) pa_nil)))))
      (pss_one (ps_ret (pe_call (ok_law_same T 1) (hr.mono (by decide)) (by rfl) T.d__law_same.g T.d__law_same.F.kp T.d__law_same.b .nil pass0 (pa_cons (pe_op op_cat (pv 6) (pe_lst (pa_cons (pe_call (ok_is_entry T) (hr.mono (by decide)) (by rfl) T.d_is_entry.g T.d_is_entry.F.kp T.d_is_entry.b .nil pass0 (pa_cons (pe_call (ok_law_strange T) (hr.mono (by decide)) (by rfl) T.d__law_strange.g T.d__law_strange.F.kp T.d__law_strange.b .nil pass0 (pa_cons (pv 0) pa_nil)) pa_nil)) pa_nil))) (pa_cons (pe_lst (pa_cons (pv 4) (pa_cons (pv 4) (pa_cons pe_bl (pa_cons pe_bl pa_nil))))) pa_nil)))))))))), ?_⟩
    have lz := hz.1
    have sz := short_str (z := z) (by omega)
    have sy := short_str (z := y) (by omega)
    refine q_par (b := b) hB (by walk_at "ev") (by walk_at "ev") fun v v' H1 g1 i1 i1' => ?_
    obtain ⟨d, d0, d1, rfl⟩ := i1
    rw [show v' = _ from i1']
    rw [← isNm_wordy hz]
    have n2 : ∀ {xs : List Sh}, (xs.length == 2) = false → EntryOk K (.t xs) false := fun h => entryOk_t (fun e => by rw [e] at h; cases h)
    have so : ∀ {y : V}, isSc y = true → isNum y 0 5 = false → EntryOk K (.t [.c (.str z), .c y]) false := fun h e => entryOk_2 rfl sz h (by rw [e, Bool.and_false])
    have dn : isNum (.int d) 0 5 = true := by
      show (decide ((0 : Int) ≤ d) && decide (d ≤ 5)) = true
      rw [decide_eq_true d0, decide_eq_true (by omega)]
      rfl
    have u5 : isNm (.str "") = false := by decide +kernel
    have k1 : EntryOk K (.t [.c (.str z), .c (.int d)]) (isNm (.str z)) := entryOk_2 rfl sz rfl (by rw [dn, Bool.and_true])
    have k3 : EntryOk K (.o strangeSh) false := entryOk_o (all_cons (entryOk_c rfl) (all_cons (entryOk_c rfl) (all_cons (entryOk_c rfl) (all_cons (entryOk_c rfl) (all_cons (entryOk_c rfl) (all_cons entryOk_l (all_cons (entryOk_c rfl) (all_cons entryOk_l (all_cons entryOk_l all_nil)))))))))
    refine q_set (b := b) g1.1 (by walk_at "ev") fun v H2 g2 i2 => ?_
    refine q_set (b := b) g2.1 (by walk_at "ev") fun v H3 g3 i3 => ?_
    refine q_set (b := b) g3.1 (by walk_at "ev") fun v H4 g4 i4 => ?_
    have k2 : EntryOk K (.o (([.t [.c (.str z), .c (.int (-1))], .t [.c (.str z), .c (.int 6)], .t [.c (.str z), .c (.bl true)], .t [.c (.str z), .c (.bl false)], .t [.c (.str z), .c (.str (toString d))], .l [.c (.str z), .c (.int d)], .t [.c (.str y), .c (.int d)]] ++
        [.t [.c (.str z)], .t [.c (.str z), .c (.int d), .c (.int d)], .c (.int d), .c (.str z), .t [.c (.int d), .c (.str z)], .t [.c (.str z), .c .non], .t [.t [.c (.str z)], .c (.int d)], .t [.c (.str ""), .c (.int 0)]]) ++ [.t [.c (.str z), .c (.int (10 ^ Int.toNat 9))], .t [.c (.str z), .t [.c (.int d)]]])) false :=
      entryOk_o (all_cons (so rfl rfl) (all_cons (so rfl rfl) (all_cons (so rfl rfl) (all_cons (so rfl rfl) (all_cons (so rfl rfl) (all_cons entryOk_l (all_cons (entryOk_2 rfl sy rfl (by rw [ny]; rfl))
        (all_cons (n2 rfl) (all_cons (n2 rfl) (all_cons (entryOk_c rfl) (all_cons (entryOk_c rfl) (all_cons (entryOk_2 rfl (fun _ e => nomatch e) rfl rfl) (all_cons (so rfl rfl) (all_cons (entryOk_2n (.inr ⟨_, rfl⟩)) (all_cons (entryOk_2 rfl (short_str (by decide)) rfl (by rw [u5]; rfl)) (all_cons (so rfl (by decide +kernel)) (all_cons (entryOk_2r rfl sz) all_nil)))))))))))))))))
    refine q_set (b := b) g4.1 (by walk_at "ev") fun v H5 g5 i5 => ?_
    refine q_ret (b := b) g5.1 (s := .c (.bl true)) (by walk_at "ev") fun v H6 g6 i6 => ?_
    rw [show v = _ from i6]
    exact q H6 (((((g1.trans g2).trans g3).trans g4).trans g5).trans g6)
end
end Rd
set_option maxHeartbeats 4000000
namespace Rd
open PySem PySem.Spec PyProof.Rows L2
open C8 (pss_cut tCut)
open RZ (ItzT pi_zipA)
section
variable {b : Addr} {σ : L2.St} {H0 H : Hp} {te ta tb tf : TE} {tr : TA} {s : Sh} {D : Ends} {t1 t2 : TS} {K : PySem.W.Frag}
theorem e_subD {k j : Int} (h : Ev1 b ta σ H0 (.is fun v => ∃ d, 0 ≤ d ∧ d < k ∧ v = .int d)) (h2 : Ev1 b tb σ H0 (.c (.int j))) : Ev1 b (tOp (rI0 fun i j => .int (i - j)) ta tb) σ H0 (.is fun v => ∃ d, 0 ≤ d ∧ d < k ∧ v = .int (d - j)) := fun H g Q q =>
  h H g _ fun v H1 g1 i1 => h2 H1 (g.trans g1) _ fun w H2 g2 i2 => by
    obtain ⟨d, d0, d1, rfl⟩ := i1
    exact ⟨d, j, rfl, i2, q _ H2 (g1.trans g2) ⟨d, d0, d1, rfl⟩⟩
def intSh (s : Sh) : Prop := ∀ (b : Addr) (H : Hp) (v : V), Is b H s v → ∃ k, v = .int k
theorem e_addO {i : Int} {xs : List Sh} (h : Ev1 b ta σ H0 (.c (.int i))) (h2 : Ev1 b tb σ H0 (.o xs)) (hx : ∀ s ∈ xs, intSh s) : Ev1 b (tOp (rI0 fun i j => .int (i + j)) ta tb) σ H0 (.is fun v => ∃ k, v = .int k) := fun H g Q q =>
  h H g _ fun v H1 g1 i1 => h2 H1 (g.trans g1) _ fun w H2 g2 i2 => by
    obtain ⟨s, m, i'⟩ := IsOne.mem i2
    obtain ⟨k, rfl⟩ := hx s m b H2 w i'
    exact ⟨i, k, i1, rfl, q _ H2 (g1.trans g2) ⟨_, rfl⟩⟩
theorem intSh_c {k : Int} : intSh (.c (.int k)) := fun _ _ _ h => ⟨k, h⟩
theorem intSh_d {k : Int} : intSh (.is fun v => ∃ d, 0 ≤ d ∧ d < k ∧ v = .int d) := fun _ _ _ ⟨d, _, _, e⟩ => ⟨d, e⟩
theorem e_and' {x y : Bool} (h : Ev1 b ta σ H0 (.c (.bl x))) (k : Ev1 b tb σ H0 (.c (.bl y))) : Ev1 b (tAndV ta tb) σ H0 (.c (.bl (x && y))) := e_and h fun _ => k
/-- what is_number and is_name say of a shape -/
def NumOk (K : PySem.W.Frag) (s : Sh) (lo hi : Int) (r : Bool) : Prop := ∀ (b : Addr) (H : Hp) (v : V), Is b H s v → ∀ Q : VK, Q (.bl r) H → spNumber K [v, .int lo, .int hi] H Q E0
def NameOk (K : PySem.W.Frag) (s : Sh) (r : Bool) : Prop := ∀ (b : Addr) (H : Hp) (v : V), Is b H s v → ∀ Q : VK, (∀ H', Same H H' → Q (.bl r) H') → spName K [v] H Q E0
theorem numOk_c {x : V} {lo hi : Int} {r : Bool} (hx : isSc x = true) (e : isNum x lo hi = r) : NumOk K (.c x) lo hi r := fun b H v i Q q => by
  rw [show v = x from i]
  exact ⟨x, _, lo, hi, rfl, .sc hx, by rw [e]; exact q⟩
theorem numOk_l {xs : List Sh} {lo hi : Int} : NumOk K (.l xs) lo hi false := fun b H v i Q q => by
  obtain ⟨p, vs, rfl, _, o, _⟩ := i
  exact ⟨.ref p, _, lo, hi, rfl, .lst (SqL.of o), q⟩
theorem numOk_o {xs : List Sh} {lo hi : Int} (h : ∀ s ∈ xs, NumOk K s lo hi false) : NumOk K (.o xs) lo hi false := fun b H v i Q q => by
  obtain ⟨s, m, k⟩ := IsOne.mem i
  exact h s m b H v k Q q
theorem nameOk_c {x : V} {r : Bool} (hx : isSc x = true) (hs : shortV x) (e : isNm x = r) : NameOk K (.c x) r := fun b H v i Q q => by
  rw [show v = x from i]
  exact ⟨x, _, rfl, .sc hx, hs, by rw [e]; exact q⟩
theorem nameOk_l {xs : List Sh} : NameOk K (.l xs) false := fun b H v i Q q => by
  obtain ⟨p, vs, rfl, _, o, _⟩ := i
  exact ⟨.ref p, _, rfl, .lst (SqL.of o), (fun _ e => nomatch e), q⟩
theorem nameOk_t {xs : List Sh} : NameOk K (.t xs) false := fun b H v i Q q => by
  obtain ⟨p, vs, rfl, _, o, _⟩ := i
  exact ⟨.ref p, _, rfl, .tup (SqT.of o), (fun _ e => nomatch e), q⟩
theorem nameOk_o {xs : List Sh} (h : ∀ s ∈ xs, NameOk K s false) : NameOk K (.o xs) false := fun b H v i Q q => by
  obtain ⟨s, m, k⟩ := IsOne.mem i
  exact h s m b H v k Q q
theorem e_num {lo hi : Int} {r : Bool} (h : EvN b tr σ H0 [s, .c (.int lo), .c (.int hi)]) (k : NumOk K s lo hi r) : Ev1 b (tCall (spNumber K) [] E0 tr) σ H0 (.c (.bl r)) :=
  e_call h fun vs H g i Q q => by
    obtain ⟨u, v, w, rfl, i1, i2, i3⟩ := is3 i
    rw [show v = _ from i2, show w = _ from i3]
    exact k b H u i1 Q (q _ H (.refl g.1) rfl)
theorem e_numK {lo hi : Int} {r : Bool} (h : EvN b tr σ H0 [.c (.int hi), .c (.int lo), s]) (k : NumOk K s lo hi r) : Ev1 b (tCallN 0 3 (spNumber K) (fun _ zs => rev3 zs) E0 tNil tr) σ H0 (.c (.bl r)) :=
  e_callK h rfl fun vs H g i Q q => by
    obtain ⟨u, v, w, rfl, i1, i2, i3⟩ := is3 i
    rw [show u = _ from i1, show v = _ from i2]
    exact k b H w i3 Q (q _ H (.refl g.1) rfl)
theorem e_name {r : Bool} (h : EvN b tr σ H0 [s]) (k : NameOk K s r) : Ev1 b (tCall (spName K) [] E0 tr) σ H0 (.c (.bl r)) :=
  e_call h fun vs H g i Q q => by
    obtain ⟨u, rfl, i1⟩ := is1 i
    exact k b H u i1 Q fun H' s => q _ H' (Go.of_same g.1 s) rfl
theorem e_nameK {r : Bool} (h : EvN b tr σ H0 [s]) (k : NameOk K s r) : Ev1 b (tCallN 0 1 (spName K) (fun _ zs => zs) E0 tNil tr) σ H0 (.c (.bl r)) :=
  e_callK h rfl fun vs H g i Q q => by
    obtain ⟨u, rfl, i1⟩ := is1 i
    exact k b H u i1 Q fun H' s => q _ H' (Go.of_same g.1 s) rfl
theorem e_so {z y : Str} (h : EvN b tr σ H0 [.c (.ref b), .c (.str z), .c (.str y)]) (hz : wordy z) (hy : y.length ≤ 100) (ny : isNm (.str y) = false) : Ev1 b (tCall spSo [] E0 tr) σ H0 (.c (.bl true)) :=
  e_call h fun vs H g i Q q => by
    obtain ⟨u, v, w, rfl, rfl, rfl, rfl⟩ := is3 i
    exact ⟨_, _, _, rfl, g.1, hz, hy, ny, fun H' s => q _ H' s rfl⟩
theorem e_cutL {z : Str} {i : Int} (h : Ev1 b te σ H0 (.c (.str z))) (k : Ev1 b ta σ H0 (.c (.int i))) (l : z.length ≤ 1000) : Ev1 b (tSl rSlS te tNoPart (tPart ta)) σ H0 (.c (.str (cutS z none (some i)))) := fun H g Q q =>
  h H g _ fun v H1 g1 i1 => k H1 (g.trans g1) _ fun w H2 g2 i2 => ⟨i, i2, z, i1, Nat.le_of_lt (small1000 l), q _ H2 (g1.trans g2) rfl⟩
theorem e_cutR {z : Str} {i : Int} (h : Ev1 b te σ H0 (.c (.str z))) (k : Ev1 b ta σ H0 (.c (.int i))) (l : z.length ≤ 1000) : Ev1 b (tSl rSlS te (tPart ta) tNoPart) σ H0 (.c (.str (cutS z (some i) none))) := fun H g Q q =>
  h H g _ fun v H1 g1 i1 => k H1 (g.trans g1) _ fun w H2 g2 i2 => ⟨i, i2, z, i1, Nat.le_of_lt (small1000 l), q _ H2 (g1.trans g2) rfl⟩
/-- if not e: return .. -/
theorem q_ifn (hB : Bag H b) (h : Ev1 b te σ H (.c (.bl true))) (q : ∀ H', Go b H H' → t2 D σ H') : tSeq (tIfS (tNot (tB te)) t1 tNext) t2 D σ H :=
  h H (.refl hB) _ fun v H1 g1 i1 => ⟨true, i1, iteF (q H1 g1)⟩
theorem q_ifn2 (hB : Bag H b) (h : Ev1 b te σ H (.c (.bl true))) (k : Ev1 b tf σ H (.c (.bl true))) (q : ∀ H', Go b H H' → D.nx σ H') : tIfS (tOr (tNot (tB te)) (tNot (tB tf))) t1 tNext D σ H :=
  h H (.refl hB) _ fun v H1 g1 i1 => ⟨true, i1, iteF (k H1 g1 _ fun w H2 g2 i2 => ⟨true, i2, iteF (q H2 (g1.trans g2))⟩)⟩
end
theorem cut_len (z : Str) (lo hi : Option Int) : (cutS z lo hi).length ≤ z.length := by
  unfold cutS
  show (List.toArray _).size ≤ z.cps.size
  rw [List.size_toArray, List.length_take, List.length_drop, Array.length_toList]
  omega
theorem toList_app (x y : Str) : (x ++ y).cps.toList = x.cps.toList ++ y.cps.toList := by
  show (x.cps ++ y.cps).toList = _
  simp
theorem isNm_bad {x s y : Str} (h : s.cps.toList.all low = false) : isNm (.str (x ++ s ++ y)) = false := by
  rw [isNm_str, toList_app, toList_app, List.all_append, List.all_append, h, Bool.and_false, Bool.false_and, Bool.and_false]
def oneBad : V → Bool
  | .str s => decide (s.length ≤ 1) && !s.cps.toList.all low
  | _ => false
theorem e_bent {tc : TE} {x y : Str} {ys : List V} {b : Addr} {σ : L2.St} {H0 : Hp} {ta tb : TE} (h1 : Ev1 b ta σ H0 (.c (.str x))) (h2 : Ev1 b tb σ H0 (.o (ys.map Sh.c))) (hp : ys.all oneBad = true) (h3 : Ev1 b tc σ H0 (.c (.str y))) (lx : x.length ≤ 40) (ly : y.length ≤ 40) :
    Ev1 b (tOp (fun x y H Q => ∃ i j, x = .str i ∧ y = .str j ∧ i.length + j.length ≤ sizeLine ∧ Q (.str (i ++ j)) H) (tOp (fun x y H Q => ∃ i j, x = .str i ∧ y = .str j ∧ i.length + j.length ≤ sizeLine ∧ Q (.str (i ++ j)) H) ta tb) tc) σ H0
      (.is fun v => ∃ s : Str, s.length ≤ 1 ∧ s.cps.toList.all low = false ∧ v = .str (x ++ s ++ y)) := fun H g Q q =>
  h1 H g _ fun v H1 g1 i1 => h2 H1 (g.trans g1) _ fun w H2 g2 i2 => by
    obtain ⟨s, rfl, l, n⟩ : ∃ s, w = .str s ∧ s.length ≤ 1 ∧ s.cps.toList.all low = false := by
      have := one_c oneBad hp i2
      cases w with
      | str s =>
        obtain ⟨p1, p2⟩ := Bool.and_eq_true_iff.mp (show (decide (s.length ≤ 1) && !s.cps.toList.all low) = true from this)
        exact ⟨s, rfl, of_decide_eq_true p1, by cases e : s.cps.toList.all low with | false => rfl | true => rw [e] at p2; cases p2⟩
      | _ => cases this
    refine ⟨x, s, i1, rfl, Nat.le_of_lt (small1000 (by omega)), h3 H2 (g.trans (g1.trans g2)) _ fun u H3 g3 i3 => ⟨x ++ s, y, rfl, i3, Nat.le_of_lt (small1000 (by rw [app_len]; omega)), ?_⟩⟩
    exact q _ H3 ((g1.trans g2).trans g3) ⟨s, l, n, rfl⟩
theorem sum_signs (cs : List Nat) : ((cs.map fun c => (⟨#[c]⟩ : Str)).map (·.length)).sum = cs.length := by
  induction cs with
  | nil => rfl
  | cons c r ih => rw [List.map_cons, List.map_cons, List.sum_cons, ih, List.length_cons, Nat.add_comm]; rfl
theorem joinL_nil : ∀ ps : List (List Nat), TL.joinL [] ps = ps.flatten
  | [] => rfl
  | [p] => by show p = p ++ []; rw [List.append_nil]
  | p :: q :: r => by
    show p ++ ([] ++ TL.joinL [] (q :: r)) = p ++ (q :: r).flatten
    rw [List.nil_append, joinL_nil (q :: r)]
theorem join_signs (cs : List Nat) : (Txt.join "" (cs.map fun c => (⟨#[c]⟩ : Str))).cps.toList = cs := by
  rw [TL.join_eq]
  show TL.tl _ = cs
  rw [TL.tl_join, show TL.tl ("" : Str) = [] from rfl, joinL_nil]
  induction cs with
  | nil => rfl
  | cons c r ih => rw [List.map_cons, List.map_cons, List.flatten_cons, ih]; rfl
local macro_rules | `(tactic| walk_at "ev") => `(tactic| repeat' (first
  | ((with_reducible show EvN _ tNil _ _ _); exact n_nil)
  | ((with_reducible show EvN _ (tCons _ _) _ _ _); apply n_cons)
  | ((with_reducible show Ev1 _ (tVar _) _ _ _); (apply e_var rfl; first | assumption | exact is_c | exact rfl))
  | ((with_reducible show Ev1 _ (tC _) _ _ _); (exact e_c))
  | ((with_reducible show Ev1 _ (tLst _) _ _ _); (apply e_lst))
  | ((with_reducible show Ev1 _ (tTup _) _ _ _); (apply e_tup))
  | ((with_reducible show Ev1 _ (tOp _ _ _) _ _ _); (first | with_reducible apply e_cat | with_reducible apply e_cats | with_reducible apply e_add | with_reducible apply e_sub | with_reducible apply e_le | with_reducible apply e_pow))
  | ((with_reducible show Ev1 _ (tCB _ _) _ _ _); (first | with_reducible apply e_lens | with_reducible apply e_strI))
  | ((with_reducible show Ev1 _ (tChain _ _ _ _ _) _ _ _); (apply e_chain))
  | ((with_reducible show Ev1 _ (tUn _ _) _ _ _); (apply e_neg))
  | ((with_reducible show Ev1 _ (tCall _ _ _ _) _ _ _); (first | with_reducible apply e_ofL | with_reducible apply e_draw | with_reducible apply e_same | with_reducible apply e_end | with_reducible apply e_entry | with_reducible apply e_strange | with_reducible apply e_name | with_reducible apply e_num | with_reducible apply e_so))
  | ((with_reducible show Ev1 _ (tCallN _ _ _ _ _ _ _) _ _ _); (first | apply e_endK | apply e_entryK | apply e_nameK | apply e_numK))
  | ((with_reducible show Ev1 _ (tAndV _ _) _ _ _); (apply e_and'))
  | ((with_reducible show Ev1 _ (tSl _ _ _ _) _ _ _); (first | with_reducible apply e_cutL | with_reducible apply e_cutR))
  | with_reducible assumption
  | ((with_reducible show CPow _ _); exact ⟨by decide, by decide, by decide⟩)
  | ((with_reducible show det _ _ = true); rfl)
  | omega
  | (simp only [app_len]; omega)
  | exact Nat.le_of_ble_eq_true rfl
  | assumption))
section
variable {P : Program} {w : World} {K : PySem.W.Frag} {mg : Str → Option Value} {base : Heap}
def spLaw (K : PySem.W.Frag) : Sp := fun vs H Q _ => ∃ (a : Addr) (ns : List Int), vs = [.ref a] ∧ SqL K H a (ns.map V.int) ∧ ns.length ≤ 63 ∧ ∀ H', Q (.bl true) H'
theorem ok_law (T : Txt K mg) : FnOk P w K mg base CX0 5 T.d_law.f T.d_law.fd ["_law_script"] (spLaw K) := by
  refine T.d_law.F.ok (N := N_law) ⟨rfl, rfl, rfl, by decide +kernel, rfl, by decide +kernel, by decide +kernel⟩ (fun vs H Q E h => ?_) (fun cdv A outer s H vs Q E hr h => ?_)
  · obtain ⟨a, ns, rfl, _⟩ := h
    rfl
  · obtain ⟨a, ns, rfl, hS, hl, q⟩ := h
    refine ⟨_, (pss_cons (ps_asg (pe_tup (pa_cons (pe_call (ok_law_bag T) (hr.mono (by decide)) (by rfl) T.d__law_bag.g T.d__law_bag.F.kp T.d__law_bag.b .nil pass0 (pa_cons (pv 0) pa_nil)) (pa_cons pe_str pa_nil))) (pg_tup rfl (pgs_cons (pg_name (i := 1) sc_law.nd rfl (Or.inr rfl)) (pgs_cons (pg_name (i := 2) sc_law.nd rfl (Or.inr rfl)) pgs_nil))))
      (pss_cons (ps_for PassesOwn.never rfl (pi_range1 (by rfl) T.z_range (pa_cons pe_int pa_nil)) (pg_name (i := 3) sc_law.nd rfl (Or.inl rfl)) (pss_cons (ps_set (i := 4) sc_law.nd rfl (Or.inl rfl) (pe_join pe_str (pe_lc (own := [("_law_k", 13)]) (g := gName 13) (tt := tYes) (by rfl) sc_law.nd (pi_range1 (by rfl) T.z_range (pa_cons (pe_call (ok_law_draw T) (hr.mono (by decide)) (by rfl) T.d__law_draw.g T.d__law_draw.F.kp T.d__law_draw.b .nil pass0 (pa_cons (pv 1) (pa_cons pe_int pa_nil))) pa_nil)) (blkOk_by (own := [("_law_k", 13)]) (N := N_law) (sc := defScope s_law) (by decide +kernel)) (fun _ _ _ _ _ => (pg_name (i := 13) sc_law.nd rfl (Or.inl rfl))) (fun _ _ _ _ _ => pts_nil) (fun _ _ _ _ _ => (pe_call (ok_law_ofS T) (hr.mono (by decide)) (by rfl) T.d__law_of.g T.d__law_of.F.kp T.d__law_of.b .nil pass0 (pa_cons (pv 1) (pa_cons (pv 2) pa_nil)))))))
      (pss_cons (ps_set (i := 5) sc_law.nd rfl (Or.inl rfl) (pe_call (ok_law_draw T) (hr.mono (by decide)) (by rfl) T.d__law_draw.g T.d__law_draw.F.kp T.d__law_draw.b .nil pass0 (pa_cons (pv 1) (pa_cons (pe_op op_add (pe_callB call_len_str (by rfl) T.z_len (by decide +kernel) (pa_cons (pv 4) pa_nil)) pe_int) pa_nil))))
      (pss_cons (ps_set (i := 6) sc_law.nd rfl (Or.inl rfl) (pe_op op_add_str (pe_op op_add_str (pe_slice sl_str (pv 4) po_none (po_some (pv 5))) (pe_call (ok_law_ofL T) (hr.mono (by decide)) (by rfl) T.d__law_of.g T.d__law_of.F.kp T.d__law_of.b .nil pass0 (pa_cons (pv 1) (pa_cons (pe_lst (pa_cons pe_str (pa_cons pe_str (pa_cons pe_str (pa_cons pe_str (pa_cons pe_str (pa_cons pe_str (pa_cons pe_str (pa_cons pe_str (pa_cons pe_str pa_nil)))))))))) pa_nil)))) (pe_slice sl_str (pv 4) (po_some (pv 5)) po_none)))
      (pss_cons (ps_set (i := 7) sc_law.nd rfl (Or.inl rfl) (pe_chain op_le op_le pe_int (pe_callB call_len_str (by rfl) T.z_len (by decide +kernel) (pa_cons (pv 4) pa_nil)) pe_int))
      (pss_cons (ps_if (pt_not (pt_val (pe_call (ok_law_same T 1) (hr.mono (by decide)) (by rfl) T.d__law_same.g T.d__law_same.F.kp T.d__law_same.b .nil pass0 (pa_cons (pe_lst (pa_cons (pe_call (ok_is_name T) (hr.mono (by decide)) (by rfl) T.d_is_name.g T.d_is_name.F.kp T.d_is_name.b .nil pass0 (pa_cons (pv 4) pa_nil)) (pa_cons (pe_call (ok_is_name T) (hr.mono (by decide)) (by rfl) T.d_is_name.g T.d_is_name.F.kp T.d_is_name.b .nil pass0 (pa_cons (pv 6) pa_nil)) (pa_cons (pe_callK0 (ok_is_name T) (hr.mono (by decide)) (by rfl) T.d_is_name.g T.d_is_name.F.kp (kw_is_name_value T) pass0 (pk_cons (pv 4) pk_nil)) (pa_cons (pe_call (ok_is_name T) (hr.mono (by decide)) (by rfl) T.d_is_name.g T.d_is_name.F.kp T.d_is_name.b .nil pass0 (pa_cons (pe_op op_add_str (pv 4) pe_str) pa_nil)) pa_nil))))) (pa_cons (pe_lst (pa_cons (pv 7) (pa_cons pe_bl (pa_cons (pv 7) (pa_cons pe_bl pa_nil))))) pa_nil))))) (pss_one (ps_ret pe_bl)) pss_nil)
      (pss_cons (ps_if (pt_not (pt_val (pe_call (ok_law_same T 1) (hr.mono (by decide)) (by rfl) T.d__law_same.g T.d__law_same.F.kp T.d__law_same.b .nil pass0 (pa_cons (pe_call (ok_is_name T) (hr.mono (by decide)) (by rfl) T.d_is_name.g T.d_is_name.F.kp T.d_is_name.b .nil pass0 (pa_cons (pe_call (ok_law_ofL T) (hr.mono (by decide)) (by rfl) T.d__law_of.g T.d__law_of.F.kp T.d__law_of.b .nil pass0 (pa_cons (pv 1) (pa_cons (pe_lst (pa_cons pe_non (pa_cons pe_bl (pa_cons pe_int (pa_cons (pe_lst (pa_cons pe_str pa_nil)) (pa_cons (pe_tup (pa_cons pe_str pa_nil)) (pa_cons (pe_tup pa_nil) (pa_cons pe_str (pa_cons pe_str (pa_cons (pe_lst (pa_cons pe_str (pa_cons pe_str pa_nil))) pa_nil)))))))))) pa_nil))) pa_nil)) (pa_cons pe_bl pa_nil))))) (pss_one (ps_ret pe_bl)) pss_nil)
      (pss_cons (ps_par (i := 8) (j := 9) (by rfl) sc_law.nd rfl rfl (by decide) rfl rfl (pa_cons (pe_op op_sub (pe_call (ok_law_draw T) (hr.mono (by decide)) (by rfl) T.d__law_draw.g T.d__law_draw.F.kp T.d__law_draw.b .nil pass0 (pa_cons (pv 1) (pa_cons pe_int pa_nil))) pe_int) (pa_cons (pe_op op_sub (pe_call (ok_law_draw T) (hr.mono (by decide)) (by rfl) T.d__law_draw.g T.d__law_draw.F.kp T.d__law_draw.b .nil pass0 (pa_cons (pv 1) (pa_cons pe_int pa_nil))) pe_int) pa_nil)) (by rfl))
      (pss_cons (ps_set (i := 10) sc_law.nd rfl (Or.inl rfl) (pe_op op_add (pv 9) (pe_call (ok_law_ofL T) (hr.mono (by decide)) (by rfl) T.d__law_of.g T.d__law_of.F.kp T.d__law_of.b .nil pass0 (pa_cons (pv 1) (pa_cons (pe_lst (pa_cons pe_int (pa_cons pe_int (pa_cons (pe_call (ok_law_draw T) (hr.mono (by decide)) (by rfl) T.d__law_draw.g T.d__law_draw.F.kp T.d__law_draw.b .nil pass0 (pa_cons (pv 1) (pa_cons pe_int pa_nil))) (pa_cons (pe_un un_neg pe_int) (pa_cons (pe_op op_sub (pe_op op_pow pe_int pe_int) pe_int) pa_nil)))))) pa_nil)))))
      (pss_cons (ps_set (i := 11) sc_law.nd rfl (Or.inl rfl) (pe_and (pe_cmpR op_le (pv 9) (pv 8) (nomark _)) (pe_one (pe_cmpR op_le (pv 8) (pv 10) (nomark _)))))
      (pss_cons (ps_set (i := 12) sc_law.nd rfl (Or.inl rfl) (pe_lst (pa_cons (pe_call (ok_is_number T) (hr.mono (by decide)) (by rfl) T.d_is_number.g T.d_is_number.F.kp T.d_is_number.b .nil pass0 (pa_cons (pv 8) (pa_cons (pv 9) (pa_cons (pv 10) pa_nil)))) (pa_cons (pe_callK0 (ok_is_number T) (hr.mono (by decide)) (by rfl) T.d_is_number.g T.d_is_number.F.kp (kw_is_number_most_least_value T) pass0 (pk_cons (pv 10) (pk_cons (pv 9) (pk_cons (pv 8) pk_nil)))) (pa_cons (pe_call (ok_is_number T) (hr.mono (by decide)) (by rfl) T.d_is_number.g T.d_is_number.F.kp T.d_is_number.b .nil pass0 (pa_cons (pe_op op_sub (pv 9) pe_int) (pa_cons (pv 9) (pa_cons (pv 10) pa_nil)))) pa_nil)))))
      (pss_cons (ps_set (i := 12) sc_law.nd rfl (Or.inl rfl) (pe_op op_cat (pv 12) (pe_lst (pa_cons (pe_call (ok_is_number T) (hr.mono (by decide)) (by rfl) T.d_is_number.g T.d_is_number.F.kp T.d_is_number.b .nil pass0 (pa_cons (pe_op op_add (pv 10) pe_int) (pa_cons (pv 9) (pa_cons (pv 10) pa_nil)))) (pa_cons (pe_call (ok_is_number T) (hr.mono (by decide)) (by rfl) T.d_is_number.g T.d_is_number.F.kp T.d_is_number.b .nil pass0 (pa_cons (pv 9) (pa_cons (pv 9) (pa_cons (pv 9) pa_nil)))) (pa_cons (pe_call (ok_is_number T) (hr.mono (by decide)) (by rfl) T.d_is_number.g T.d_is_number.F.kp T.d_is_number.b .nil pass0 (pa_cons (pe_call (ok_law_strange T) (hr.mono (by decide)) (by rfl) T.d__law_strange.g T.d__law_strange.F.kp T.d__law_strange.b .nil pass0 (pa_cons (pv 1) pa_nil)) (pa_cons (pe_un un_neg pe_int) (pa_cons pe_int pa_nil)))) pa_nil))))))
      (pss_cons (ps_if (pt_not (pt_val (pe_call (ok_law_same T 1) (hr.mono (by decide)) (by rfl) T.d__law_same.g T.d__law_same.F.kp T.d__law_same.b .nil pass0 (pa_cons (pv 12) (pa_cons (pe_lst (pa_cons (pv 11) (pa_cons (pv 11) (pa_cons pe_bl (pa_cons pe_bl (pa_cons pe_bl (pa_cons pe_bl pa_nil))))))) pa_nil))))) (pss_one (ps_ret pe_bl)) pss_nil)
      (pss_one (ps_if (PW.pt (pw_or (pt_not (pt_val (pe_call (ok_law_end_so T) (hr.mono (by decide)) (by rfl) T.d__law_end_so.g T.d__law_end_so.F.kp T.d__law_end_so.b .nil pass0 (pa_cons (pv 1) (pa_cons (pv 4) (pa_cons (pv 6) pa_nil)))))) (pw_or1 (pt_not (pt_val (pe_call (ok_law_entry_so T) (hr.mono (by decide)) (by rfl) T.d__law_entry_so.g T.d__law_entry_so.F.kp T.d__law_entry_so.b .nil pass0 (pa_cons (pv 1) (pa_cons (pv 4) (pa_cons (pv 6) pa_nil))))))))) (pss_one (ps_ret pe_bl)) pss_nil)))))))))))))))
      (pss_one (ps_ret (pe_and (pe_call (ok_is_name T) (hr.mono (by decide)) (by rfl) T.d_is_name.g T.d_is_name.F.kp T.d_is_name.b .nil pass0 (pa_cons pe_str pa_nil)) (pe_and (pe_call (ok_is_number T) (hr.mono (by decide)) (by rfl) T.d_is_number.g T.d_is_number.F.kp T.d_is_number.b .nil pass0 (pa_cons (pe_op op_pow pe_int pe_int) (pa_cons (pe_un un_neg (pe_op op_pow pe_int pe_int)) (pa_cons (pe_op op_pow pe_int pe_int) pa_nil)))) (pe_one (pe_call (ok_is_end T) (hr.mono (by decide)) (by rfl) T.d_is_end.g T.d_is_end.F.kp T.d_is_end.b .nil pass0 (pa_cons (pe_tup (pa_cons pe_str (pa_cons pe_str pa_nil))) pa_nil))))))))), ?_⟩
    refine ⟨.ref a, rfl, a, ns, rfl, hS, hl, fun b H1 nb s1 hB => ⟨by show 2 ≤ sizeLine; decide, fun p np => ?_⟩⟩
    refine ⟨p, _, rfl, SqT.of upd_same, rfl, .ref b, _, rfl, .str "abcdefghijklmnopqrstuvwxyz", _, rfl, rfl, ?_⟩
    have hB1 : Bag (upd H1 p (.tup [.ref b, .str "abcdefghijklmnopqrstuvwxyz"])) b := hB.new np
    generalize upd H1 p (.tup [.ref b, .str "abcdefghijklmnopqrstuvwxyz"]) = H2 at hB1
    refine ⟨9, rfl, by decide, by decide, for_range (n := 9) (fun i σ H3 => Bag H3 b ∧ ∃ v3 v4 v5 v6 v7 v8 v9 v10 v11 v12 v13, σ = [some (.ref a), some (.ref b), some (.str "abcdefghijklmnopqrstuvwxyz"), v3, v4, v5, v6, v7, v8, v9, v10, v11, v12, v13])
      ⟨hB1, none, none, none, none, none, none, none, none, none, none, none, rfl⟩ ?_ ?_⟩
    · rintro i σ H3 hi ⟨hB3, v3, v4, v5, v6, v7, v8, v9, v10, v11, v12, v13, rfl⟩
      -- the word
      refine ⟨⟨_, rfl⟩, .ref b, rfl, b, 9, rfl, hB3, by decide, by decide, fun k H4 g4 k0 k1 => ⟨k, rfl, by omega, by omega, fun D nD => ?_⟩⟩
      have nDb : D ≠ b := g4.1.ne nD
      obtain ⟨c0, hc0, o0, eo0⟩ := g4.1.cell
      have nDc : D ≠ c0 := fun e => by rw [← e, nD] at eo0; cases eo0
      refine lc_range (lo := 0) (n := k.toNat) (fun i H5 => Bag H5 b ∧ Cell H5 b c0 ∧ ∃ cs : List Nat, cs.length = i ∧ cs.all low = true ∧ H5 D = some (.lst ((cs.map fun c => (⟨#[c]⟩ : Str)).map V.str))) ⟨g4.1.new nD, hc0.put nDb, [], rfl, rfl, upd_same⟩ ?_ ?_
      · rintro i H5 hi ⟨hB5, hC5, cs, lc, ac, eD⟩
        refine ⟨rfl, ?_⟩
        refine ⟨.ref b, rfl, .str "abcdefghijklmnopqrstuvwxyz", rfl, b, _, rfl, hB5, by decide, by decide, fun c H6 g6 mc => ?_⟩
        have e6 := g6.2 _ _ nDb eD
        refine ⟨_, e6, ?_, g6.1.put (g6.3 _ hC5) nDb nDc, (g6.3 _ hC5).put nDb, cs ++ [c], ?_, ?_, ?_⟩
        · rw [List.length_map, List.length_map]
          exact small1000 (by omega)
        · rw [List.length_append, lc]; rfl
        · rw [List.all_append, ac, List.all_cons, ← letters_low, decide_eq_true mc]; rfl
        · rw [upd_same, List.map_append, List.map_append]; rfl
      · rintro H5 ⟨hB5, hC5, cs, lc, ac, eD⟩
        refine ⟨"", D, _, rfl, rfl, .inl (SqL.of eD), ?_, ?_⟩
        · rw [sum_signs, show ("" : Str).length = 0 from rfl, Nat.mul_zero]; omega
        have hw : wordy (Txt.join "" (cs.map fun c => (⟨#[c]⟩ : Str))) := ⟨by show Array.size _ ≤ 8; rw [← Array.length_toList, join_signs]; omega, by rw [join_signs]; exact ac⟩
        generalize Txt.join "" (cs.map fun c => (⟨#[c]⟩ : Str)) = z at hw
        have lz := hw.1
        have sz := short_str (z := z) (by omega)
        dsimp only [gName]
        refine q_set (b := b) hB5 (by walk_at "ev") fun v H6 g6 i6 => ?_
        obtain ⟨d, d0, d1, rfl⟩ := i6
        have l1 := cut_len z none (some d)
        have l2 := cut_len z (some d) none
        refine q_set (b := b) g6.1 (e_bent (ys := [.str "A", .str "Z", .str "0", .str " ", .str "_", .str "\n", .str ".", .str "-", .str "~"]) (by walk_at "ev") (by walk_at "ev") (by decide +kernel) (by walk_at "ev") (by omega) (by omega)) fun v H7 g7 i7 => ?_
        obtain ⟨s, ls, ns, rfl⟩ := i7
        have ny := isNm_bad (x := cutS z none (some d)) (y := cutS z (some d) none) ns
        have ly : (cutS z none (some d) ++ s ++ cutS z (some d) none).length ≤ 100 := by rw [app_len, app_len]; omega
        generalize cutS z none (some d) ++ s ++ cutS z (some d) none = y at ny ly
        refine q_set (b := b) g7.1 (by walk_at "ev") fun v H8 g8 i8 => ?_
        rw [show v = _ from i8]
        rw [← isNm_wordy hw]
        have n3 : isNm (.str (z ++ "\n")) = false := by rw [isNm_str, toList_app, List.all_append, show ("\n" : Str).cps.toList.all low = false from by decide +kernel, Bool.and_false, Bool.and_false]
        have ld : ("\n" : Str).length = 1 := by decide +kernel
        have kz : NameOk K (.c (.str z)) (isNm (.str z)) := nameOk_c rfl sz rfl
        have ky : NameOk K (.c (.str y)) false := nameOk_c rfl (short_str (by omega)) ny
        have kn : NameOk K (.c (.str (z ++ "\n"))) false := nameOk_c rfl (short_str (by rw [app_len]; omega)) n3
        have kO : NameOk K (.o [.c .non, .c (.bl true), .c (.int 3), .l [.c (.str "a")], .t [.c (.str "a")], .t [], .c (.str "abcdefg"), .c (.str ""), .l [.c (.str "a"), .c (.str "b")]]) false :=
          nameOk_o (all_cons (nameOk_c rfl (fun _ e => nomatch e) rfl) (all_cons (nameOk_c rfl (fun _ e => nomatch e) rfl) (all_cons (nameOk_c rfl (fun _ e => nomatch e) rfl) (all_cons nameOk_l (all_cons nameOk_t (all_cons nameOk_t (all_cons (nameOk_c rfl (short_str (by decide)) (by decide +kernel)) (all_cons (nameOk_c rfl (short_str (by decide)) (by decide +kernel)) (all_cons nameOk_l all_nil)))))))))
        refine q_ifn (b := b) g8.1 (by walk_at "ev") fun H9 g9 => ?_
        refine q_ifn (b := b) g9.1 (by walk_at "ev") fun H10 g10 => ?_
        refine q_par (b := b) g10.1 (e_subD (k := 90) (by walk_at "ev") e_c) (e_subD (k := 60) (by walk_at "ev") e_c) fun v v' H11 g11 i11 i11' => ?_
        obtain ⟨n', _, _, rfl⟩ := i11
        obtain ⟨lo', _, _, rfl⟩ := i11'
        generalize n' - 45 = n
        generalize lo' - 30 = lo
        refine q_set (b := b) g11.1 (e_addO (xs := [.c (.int 0), .c (.int 1), .is (fun v => ∃ d, 0 ≤ d ∧ d < 40 ∧ v = .int d), .c (.int (-1)), .c (.int (10 ^ Int.toNat 9 - 100))]) (by walk_at "ev") (by walk_at "ev") (all_cons intSh_c (all_cons intSh_c (all_cons intSh_d (all_cons intSh_c (all_cons intSh_c all_nil)))))) fun v H12 g12 i12 => ?_
        obtain ⟨hi', rfl⟩ := i12
        refine q_set (b := b) g12.1 (by walk_at "ev") fun v H13 g13 i13 => ?_
        rw [show v = .bl (isNum (.int n) lo hi') from i13]
        have m1 : NumOk K (.c (.int n)) lo hi' (isNum (.int n) lo hi') := numOk_c rfl rfl
        have m2 : NumOk K (.c (.int (lo - 1))) lo hi' false := numOk_c rfl (by show (decide _ && decide _) = false; rw [decide_eq_false (by omega)]; rfl)
        have m3 : NumOk K (.c (.int (hi' + 1))) lo hi' false := numOk_c rfl (by show (decide _ && decide _) = false; rw [decide_eq_false (p := hi' + 1 ≤ hi') (by omega), Bool.and_false])
        have m4 : NumOk K (.c (.int lo)) lo lo true := numOk_c rfl (by show (decide _ && decide _) = true; rw [decide_eq_true (Int.le_refl lo)]; rfl)
        have m5 : NumOk K (.o strangeSh) (-9) 9 false := numOk_o (all_cons (numOk_c rfl rfl) (all_cons (numOk_c rfl rfl) (all_cons (numOk_c rfl rfl) (all_cons (numOk_c rfl rfl) (all_cons (numOk_c rfl rfl) (all_cons numOk_l (all_cons (numOk_c rfl rfl) (all_cons numOk_l (all_cons numOk_l all_nil)))))))))
        refine q_set (b := b) g13.1 (by walk_at "ev") fun v H14 g14 i14 => ?_
        refine q_set (b := b) g14.1 (by walk_at "ev") fun v H15 g15 i15 => ?_
        refine q_ifn (b := b) g15.1 (by walk_at "ev") fun H16 g16 => ?_
        refine q_ifn2 (b := b) g16.1 (by walk_at "ev") (by walk_at "ev") fun H17 g17 => ?_
        exact ⟨g17.1, _, _, _, _, _, _, _, _, _, _, _, rfl⟩
    · rintro σ H3 ⟨hB3, v3, v4, v5, v6, v7, v8, v9, v10, v11, v12, v13, rfl⟩
      have k1 : NameOk K (.c (.str "abcdef")) true := nameOk_c rfl (short_str (by decide)) (by decide +kernel)
      have k2 : NumOk K (.c (.int (10 ^ Int.toNat 9))) (-(10 ^ Int.toNat 9)) (10 ^ Int.toNat 9) true := numOk_c rfl (by decide +kernel)
      have k3 : EndOk K (.t [.c (.str "stem"), .c (.str "stem")]) true := endOk_2 rfl (short_str (by decide)) rfl (by decide +kernel)
      dsimp only
      refine q_ret (b := b) (s := .c (.bl (true && (true && true)))) hB3 (by walk_at "ev") fun v H6 g6 i6 => ?_
      rw [show v = .bl true from i6]
      exact q H6
end
end Rd
set_option maxHeartbeats 4000000
namespace Rd
open PySem PySem.Spec PyProof.Rows L2
def mkDef {K : PySem.W.Frag} {h : Heap} {mg : Str → Option Value} {x : Str} {st : Stmt} {ps : List Str} (X : K.In h) (G : h.Ns mainGlobals mg) {f : Addr} {od an : Option Addr} {sl : Array (Option Value)} {oc kV dc pm cd ct : Value}
    (a : PySem.W.nsIn K mainGlobals x = some (some (.ref f))) (l : K.lookup f = some ⟨oc, od, .func (PySem.W.fnOf x x (defArgs st) (defBody st) (defScope st) .none kV dc pm an cd ct), sl⟩) (c : PySem.W.codeIn K cd x = true) (k : PySem.W.keepIn K (.ref f) = true)
    (hb : ∀ (kV doc pm : Value) (an : Option Addr) (cdv ct : Value) (us : List Value), us.length = ps.length → bindArgs (PySem.W.fnOf x x (defArgs st) (defBody st) (defScope st) .none kV doc pm an cdv ct) ⟨us, []⟩ = pure (ps.zip us)) : Def K mg x st ps :=
  ⟨f, _, fun_mk l c k, PySem.W.mg_of X G a, (fun_mk l c k).binds hb⟩
theorem all_mk {l : PySem.W.OpenLaw} {w : World} {K : PySem.W.Frag} {h : Heap} {mg : Str → Option Value} {fa : Addr} (X : K.In h) (G : h.Ns mainGlobals mg) (hfa : mg "law" = some (.ref fa))
    {f0 : Addr} {od0 an0 : Option Addr} {sl0 : Array (Option Value)} {oc0 kV0 dc0 pm0 cd0 ct0 : Value}
    (a0 : PySem.W.nsIn K mainGlobals "is_name" = some (some (.ref f0))) (l0 : K.lookup f0 = some ⟨oc0, od0, .func (PySem.W.fnOf "is_name" "is_name" (defArgs s_is_name) (defBody s_is_name) (defScope s_is_name) .none kV0 dc0 pm0 an0 cd0 ct0), sl0⟩) (c0 : PySem.W.codeIn K cd0 "is_name" = true) (k0 : PySem.W.keepIn K (.ref f0) = true)
    {f1 : Addr} {od1 an1 : Option Addr} {sl1 : Array (Option Value)} {oc1 kV1 dc1 pm1 cd1 ct1 : Value}
    (a1 : PySem.W.nsIn K mainGlobals "is_integer" = some (some (.ref f1))) (l1 : K.lookup f1 = some ⟨oc1, od1, .func (PySem.W.fnOf "is_integer" "is_integer" (defArgs s_is_integer) (defBody s_is_integer) (defScope s_is_integer) .none kV1 dc1 pm1 an1 cd1 ct1), sl1⟩) (c1 : PySem.W.codeIn K cd1 "is_integer" = true) (k1 : PySem.W.keepIn K (.ref f1) = true)
    {f2 : Addr} {od2 an2 : Option Addr} {sl2 : Array (Option Value)} {oc2 kV2 dc2 pm2 cd2 ct2 : Value}
    (a2 : PySem.W.nsIn K mainGlobals "is_number" = some (some (.ref f2))) (l2 : K.lookup f2 = some ⟨oc2, od2, .func (PySem.W.fnOf "is_number" "is_number" (defArgs s_is_number) (defBody s_is_number) (defScope s_is_number) .none kV2 dc2 pm2 an2 cd2 ct2), sl2⟩) (c2 : PySem.W.codeIn K cd2 "is_number" = true) (k2 : PySem.W.keepIn K (.ref f2) = true)
    {f3 : Addr} {od3 an3 : Option Addr} {sl3 : Array (Option Value)} {oc3 kV3 dc3 pm3 cd3 ct3 : Value}
    (a3 : PySem.W.nsIn K mainGlobals "is_end" = some (some (.ref f3))) (l3 : K.lookup f3 = some ⟨oc3, od3, .func (PySem.W.fnOf "is_end" "is_end" (defArgs s_is_end) (defBody s_is_end) (defScope s_is_end) .none kV3 dc3 pm3 an3 cd3 ct3), sl3⟩) (c3 : PySem.W.codeIn K cd3 "is_end" = true) (k3 : PySem.W.keepIn K (.ref f3) = true)
    {f4 : Addr} {od4 an4 : Option Addr} {sl4 : Array (Option Value)} {oc4 kV4 dc4 pm4 cd4 ct4 : Value}
    (a4 : PySem.W.nsIn K mainGlobals "is_entry" = some (some (.ref f4))) (l4 : K.lookup f4 = some ⟨oc4, od4, .func (PySem.W.fnOf "is_entry" "is_entry" (defArgs s_is_entry) (defBody s_is_entry) (defScope s_is_entry) .none kV4 dc4 pm4 an4 cd4 ct4), sl4⟩) (c4 : PySem.W.codeIn K cd4 "is_entry" = true) (k4 : PySem.W.keepIn K (.ref f4) = true)
    {f5 : Addr} {od5 an5 : Option Addr} {sl5 : Array (Option Value)} {oc5 kV5 dc5 pm5 cd5 ct5 : Value}
    (a5 : PySem.W.nsIn K mainGlobals "_law_bag" = some (some (.ref f5))) (l5 : K.lookup f5 = some ⟨oc5, od5, .func (PySem.W.fnOf "_law_bag" "_law_bag" (defArgs s_law_bag) (defBody s_law_bag) (defScope s_law_bag) .none kV5 dc5 pm5 an5 cd5 ct5), sl5⟩) (c5 : PySem.W.codeIn K cd5 "_law_bag" = true) (k5 : PySem.W.keepIn K (.ref f5) = true)
    {f6 : Addr} {od6 an6 : Option Addr} {sl6 : Array (Option Value)} {oc6 kV6 dc6 pm6 cd6 ct6 : Value}
    (a6 : PySem.W.nsIn K mainGlobals "_law_draw" = some (some (.ref f6))) (l6 : K.lookup f6 = some ⟨oc6, od6, .func (PySem.W.fnOf "_law_draw" "_law_draw" (defArgs s_law_draw) (defBody s_law_draw) (defScope s_law_draw) .none kV6 dc6 pm6 an6 cd6 ct6), sl6⟩) (c6 : PySem.W.codeIn K cd6 "_law_draw" = true) (k6 : PySem.W.keepIn K (.ref f6) = true)
    {f7 : Addr} {od7 an7 : Option Addr} {sl7 : Array (Option Value)} {oc7 kV7 dc7 pm7 cd7 ct7 : Value}
    (a7 : PySem.W.nsIn K mainGlobals "_law_of" = some (some (.ref f7))) (l7 : K.lookup f7 = some ⟨oc7, od7, .func (PySem.W.fnOf "_law_of" "_law_of" (defArgs s_law_of) (defBody s_law_of) (defScope s_law_of) .none kV7 dc7 pm7 an7 cd7 ct7), sl7⟩) (c7 : PySem.W.codeIn K cd7 "_law_of" = true) (k7 : PySem.W.keepIn K (.ref f7) = true)
    {f8 : Addr} {od8 an8 : Option Addr} {sl8 : Array (Option Value)} {oc8 kV8 dc8 pm8 cd8 ct8 : Value}
    (a8 : PySem.W.nsIn K mainGlobals "_law_same" = some (some (.ref f8))) (l8 : K.lookup f8 = some ⟨oc8, od8, .func (PySem.W.fnOf "_law_same" "_law_same" (defArgs s_law_same) (defBody s_law_same) (defScope s_law_same) .none kV8 dc8 pm8 an8 cd8 ct8), sl8⟩) (c8 : PySem.W.codeIn K cd8 "_law_same" = true) (k8 : PySem.W.keepIn K (.ref f8) = true)
    {f9 : Addr} {od9 an9 : Option Addr} {sl9 : Array (Option Value)} {oc9 kV9 dc9 pm9 cd9 ct9 : Value}
    (a9 : PySem.W.nsIn K mainGlobals "_law_strange" = some (some (.ref f9))) (l9 : K.lookup f9 = some ⟨oc9, od9, .func (PySem.W.fnOf "_law_strange" "_law_strange" (defArgs s_law_strange) (defBody s_law_strange) (defScope s_law_strange) .none kV9 dc9 pm9 an9 cd9 ct9), sl9⟩) (c9 : PySem.W.codeIn K cd9 "_law_strange" = true) (k9 : PySem.W.keepIn K (.ref f9) = true)
    {f10 : Addr} {od10 an10 : Option Addr} {sl10 : Array (Option Value)} {oc10 kV10 dc10 pm10 cd10 ct10 : Value}
    (a10 : PySem.W.nsIn K mainGlobals "_law_end_so" = some (some (.ref f10))) (l10 : K.lookup f10 = some ⟨oc10, od10, .func (PySem.W.fnOf "_law_end_so" "_law_end_so" (defArgs s_law_end_so) (defBody s_law_end_so) (defScope s_law_end_so) .none kV10 dc10 pm10 an10 cd10 ct10), sl10⟩) (c10 : PySem.W.codeIn K cd10 "_law_end_so" = true) (k10 : PySem.W.keepIn K (.ref f10) = true)
    {f11 : Addr} {od11 an11 : Option Addr} {sl11 : Array (Option Value)} {oc11 kV11 dc11 pm11 cd11 ct11 : Value}
    (a11 : PySem.W.nsIn K mainGlobals "_law_entry_so" = some (some (.ref f11))) (l11 : K.lookup f11 = some ⟨oc11, od11, .func (PySem.W.fnOf "_law_entry_so" "_law_entry_so" (defArgs s_law_entry_so) (defBody s_law_entry_so) (defScope s_law_entry_so) .none kV11 dc11 pm11 an11 cd11 ct11), sl11⟩) (c11 : PySem.W.codeIn K cd11 "_law_entry_so" = true) (k11 : PySem.W.keepIn K (.ref f11) = true)
    {f12 : Addr} {od12 an12 : Option Addr} {sl12 : Array (Option Value)} {oc12 kV12 dc12 pm12 cd12 ct12 : Value}
    (a12 : PySem.W.nsIn K mainGlobals "law" = some (some (.ref f12))) (l12 : K.lookup f12 = some ⟨oc12, od12, .func (PySem.W.fnOf "law" "law" (defArgs s_law) (defBody s_law) (defScope s_law) .none kV12 dc12 pm12 an12 cd12 ct12), sl12⟩) (c12 : PySem.W.codeIn K cd12 "law" = true) (k12 : PySem.W.keepIn K (.ref f12) = true)
    (z_abs : PySem.W.nsIn K mainGlobals "abs" = some none)
    (z_all : PySem.W.nsIn K mainGlobals "all" = some none)
    (z_bool : PySem.W.nsIn K mainGlobals "bool" = some none)
    (z_int : PySem.W.nsIn K mainGlobals "int" = some none)
    (z_isinstance : PySem.W.nsIn K mainGlobals "isinstance" = some none)
    (z_len : PySem.W.nsIn K mainGlobals "len" = some none)
    (z_list : PySem.W.nsIn K mainGlobals "list" = some none)
    (z_range : PySem.W.nsIn K mainGlobals "range" = some none)
    (z_str : PySem.W.nsIn K mainGlobals "str" = some none)
    (z_tuple : PySem.W.nsIn K mainGlobals "tuple" = some none)
    (z_zip : PySem.W.nsIn K mainGlobals "zip" = some none)
    {tL tM tS t1 t2 t3 t4 t5 t6 t7 : Tok} {aS : Addr} {ddS : Option Addr} {nS : Nat} {slS : Array (Option Value)}
    (cL : PySem.W.nsIn K mainGlobals "LETTERS" = some (some (.str "abcdefghijklmnopqrstuvwxyz" tL))) (cM : PySem.W.nsIn K mainGlobals "MOST_LETTERS" = some (some (.int 6 tM))) (cS : PySem.W.nsIn K mainGlobals "MOST_STEPS" = some (some (.int 6 tS)))
    (cD : PySem.W.nsIn K mainGlobals "SIDES" = some (some (.ref aS))) (lD : K.lookup aS = some ⟨.type "tuple", ddS, .seq #[.str "a" t1, .str "b" t2, .str "c" t3, .str "d" t4, .str "left" t5, .str "right" t6, .str "stem" t7] nS, slS⟩) :
    ∃ fd : FuncData, (∀ (s : Shared) (v : Value), BindsTo s fd ⟨[v], []⟩ [("_law_script", v)]) ∧ ∀ base : Heap, K.In base → base.Ns mainGlobals mg → FnOk l.prog w K mg base CX0 5 fa fd ["_law_script"] (spLaw K) := by
  have e := hfa.symm.trans (PySem.W.mg_of X G a12)
  cases e
  let T : Txt K mg := {
    d_is_name := mkDef X G a0 l0 c0 k0 fun _ _ _ _ _ _ us hl => match us, hl with | [_], _ => rfl,
    d_is_integer := mkDef X G a1 l1 c1 k1 fun _ _ _ _ _ _ us hl => match us, hl with | [_], _ => rfl,
    d_is_number := mkDef X G a2 l2 c2 k2 fun _ _ _ _ _ _ us hl => match us, hl with | [_, _, _], _ => rfl,
    d_is_end := mkDef X G a3 l3 c3 k3 fun _ _ _ _ _ _ us hl => match us, hl with | [_], _ => rfl,
    d_is_entry := mkDef X G a4 l4 c4 k4 fun _ _ _ _ _ _ us hl => match us, hl with | [_], _ => rfl,
    d__law_bag := mkDef X G a5 l5 c5 k5 fun _ _ _ _ _ _ us hl => match us, hl with | [_], _ => rfl,
    d__law_draw := mkDef X G a6 l6 c6 k6 fun _ _ _ _ _ _ us hl => match us, hl with | [_, _], _ => rfl,
    d__law_of := mkDef X G a7 l7 c7 k7 fun _ _ _ _ _ _ us hl => match us, hl with | [_, _], _ => rfl,
    d__law_same := mkDef X G a8 l8 c8 k8 fun _ _ _ _ _ _ us hl => match us, hl with | [_, _], _ => rfl,
    d__law_strange := mkDef X G a9 l9 c9 k9 fun _ _ _ _ _ _ us hl => match us, hl with | [_], _ => rfl,
    d__law_end_so := mkDef X G a10 l10 c10 k10 fun _ _ _ _ _ _ us hl => match us, hl with | [_, _, _], _ => rfl,
    d__law_entry_so := mkDef X G a11 l11 c11 k11 fun _ _ _ _ _ _ us hl => match us, hl with | [_, _, _], _ => rfl,
    d_law := mkDef X G a12 l12 c12 k12 fun _ _ _ _ _ _ us hl => match us, hl with | [_], _ => rfl,
    z_abs := PySem.W.mg_none_of X G z_abs,
    z_all := PySem.W.mg_none_of X G z_all,
    z_bool := PySem.W.mg_none_of X G z_bool,
    z_int := PySem.W.mg_none_of X G z_int,
    z_isinstance := PySem.W.mg_none_of X G z_isinstance,
    z_len := PySem.W.mg_none_of X G z_len,
    z_list := PySem.W.mg_none_of X G z_list,
    z_range := PySem.W.mg_none_of X G z_range,
    z_str := PySem.W.mg_none_of X G z_str,
    z_tuple := PySem.W.mg_none_of X G z_tuple,
    z_zip := PySem.W.mg_none_of X G z_zip,
    tL := tL,
    c_LETTERS := PySem.W.mg_of X G cL,
    tM := tM,
    c_MOST_LETTERS := PySem.W.mg_of X G cM,
    tS := tS,
    c_MOST_STEPS := PySem.W.mg_of X G cS,
    aS := aS,
    c_SIDES := PySem.W.mg_of X G cD,
    k_SIDES := fun H => .inr ⟨_, _, _, lD, rfl, rfl, (by show 7 ≤ sizeLine; decide), .cons ⟨_, rfl⟩ (.cons ⟨_, rfl⟩ (.cons ⟨_, rfl⟩ (.cons ⟨_, rfl⟩ (.cons ⟨_, rfl⟩ (.cons ⟨_, rfl⟩ (.cons ⟨_, rfl⟩ .nil))))))⟩ }
  exact ⟨PySem.W.fnOf "law" "law" (defArgs s_law) (defBody s_law) (defScope s_law) .none kV12 dc12 pm12 an12 cd12 ct12, fun s v => .of_eq rfl, fun base _ _ => ok_law T⟩
end Rd
open PySem PySem.W PyProof.Rows
set_option maxRecDepth 100000 in
set_option maxHeartbeats 0 in
theorem PySem.Challenge.cw_ringlessday_k01_names_and_ends_judged_holds : PySem.Challenge.rw_ringlessday_k01_names_and_ends_judged.Holds := by
  w_on; o_law; k_head; (case hw => w_witness2)
  k_fill
  refine L2.walk_of (l := PySem.Challenge.rw_ringlessday_k01_names_and_ends_judged) (n := 63) (k := 5) (x := "_law_script") (CX := fun _ => L2.CX0) (sp := fun w => Rd.spLaw _) rfl (by decide) rfl ⟨rfl, by decide, by decide⟩ (fun w h Y => PySem.W.kIn_of Y) ?F (fun _ _ a ns hl _ hS => ⟨a, ns, rfl, hS, hl, fun _ => rfl⟩) (fun _ _ _ _ _ h => h)
  case F =>
    intro w mg fa h KX G hmg
    refine' Rd.all_mk KX G hmg ?a0 ?l0 ?c0 ?k0 ?a1 ?l1 ?c1 ?k1 ?a2 ?l2 ?c2 ?k2 ?a3 ?l3 ?c3 ?k3 ?a4 ?l4 ?c4 ?k4 ?a5 ?l5 ?c5 ?k5 ?a6 ?l6 ?c6 ?k6 ?a7 ?l7 ?c7 ?k7 ?a8 ?l8 ?c8 ?k8 ?a9 ?l9 ?c9 ?k9 ?a10 ?l10 ?c10 ?k10 ?a11 ?l11 ?c11 ?k11 ?a12 ?l12 ?c12 ?k12 ?z_abs ?z_all ?z_bool ?z_int ?z_isinstance ?z_len ?z_list ?z_range ?z_str ?z_tuple ?z_zip ?cL ?cM ?cS ?cD ?lD
    (case a0 => k_is); (case l0 => k_is); (case c0 => k_is); (case k0 => k_is); (case a1 => k_is); (case l1 => k_is); (case c1 => k_is); (case k1 => k_is); (case a2 => k_is); (case l2 => k_is); (case c2 => k_is); (case k2 => k_is); (case a3 => k_is); (case l3 => k_is); (case c3 => k_is); (case k3 => k_is); (case a4 => k_is); (case l4 => k_is); (case c4 => k_is); (case k4 => k_is); (case a5 => k_is); (case l5 => k_is); (case c5 => k_is); (case k5 => k_is); (case a6 => k_is); (case l6 => k_is); (case c6 => k_is); (case k6 => k_is); (case a7 => k_is); (case l7 => k_is); (case c7 => k_is); (case k7 => k_is); (case a8 => k_is); (case l8 => k_is); (case c8 => k_is); (case k8 => k_is); (case a9 => k_is); (case l9 => k_is); (case c9 => k_is); (case k9 => k_is); (case a10 => k_is); (case l10 => k_is); (case c10 => k_is); (case k10 => k_is); (case a11 => k_is); (case l11 => k_is); (case c11 => k_is); (case k11 => k_is); (case a12 => k_is); (case l12 => k_is); (case c12 => k_is); (case k12 => k_is); (case z_abs => k_is); (case z_all => k_is); (case z_bool => k_is); (case z_int => k_is); (case z_isinstance => k_is); (case z_len => k_is); (case z_list => k_is); (case z_range => k_is); (case z_str => k_is); (case z_tuple => k_is); (case z_zip => k_is); (case cL => k_is); (case cM => k_is); (case cS => k_is); (case cD => k_is); (case lD => k_is)
