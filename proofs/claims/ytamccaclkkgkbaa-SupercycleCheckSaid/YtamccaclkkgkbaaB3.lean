/-
  Is there a pair?
-/
import Derived.Test.YtamccaclkkgkbaaB2
import Derived.Test.YtamccaclkkgkbaaNm2
namespace Go.Ev
open Go.Proofs
set_option linter.unusedVariables false
set_option linter.unusedSimpArgs false
set_option maxRecDepth 100000
abbrev St42 := Empty
abbrev Rt42 := Bool
noncomputable def V42 (aa na ma : Nat) (ta : Nat → Int) (va : Nat → Int) (c0 : Int) (c1 : Int) (r : Rt42) : PV := PV.bool r
noncomputable def N42 (aa na ma : Nat) (ta : Nat → Int) (va : Nat → Int) (c0 : Int) (c1 : Int) (r : Rt42) : List Blk := []
noncomputable def I42 (aa na ma : Nat) (ta : Nat → Int) (va : Nat → Int) (c0 : Int) (c1 : Int) : St42 → Hd := fun s => s.elim
noncomputable def q42 (aa na ma : Nat) (ta : Nat → Int) (va : Nat → Int) (c0 : Int) (c1 : Int) : St42 → Option (St42 ⊕ Rt42) := fun s => s.elim
noncomputable def p42 (aa na ma : Nat) (ta : Nat → Int) (va : Nat → Int) (c0 : Int) (c1 : Int) : Option (St42 ⊕ Rt42) := bif (decide (aa + na ≤ ma ∧ na ≤ 1000000))
 then (bif (decide
 (S.idx (fun (j : Nat) => decide (ta (j + aa) = c0) && decide (va (j + aa) = c1)) (0)
 na ≥
 (0 : Int)))
 then (some (.inr (true)))
 else (some (.inr (false))))
 else (none)
noncomputable def Te42 (test : Bool → Prop → Prop → Prop) (Kst : KS) (Kret : KR) (aa na ma : Nat) (ta : Nat → Int) (va : Nat → Int) (c0 : Int) (c1 : Int) : Prop :=
  test (decide (aa + na ≤ ma ∧ na ≤ 1000000))
 (test (decide
 (S.idx (fun (j : Nat) => decide (ta (j + aa) = c0) && decide (va (j + aa) = c1)) (0)
 na ≥
 (0 : Int)))
 (Kret (PV.tf true) ([[(0, false, Blk.cols ma [Col.int IntKind.i64 ta, Col.int IntKind.i64 va])]]) (3))
 (Kret (PV.tf false) ([[(0, false, Blk.cols ma [Col.int IntKind.i64 ta, Col.int IntKind.i64 va])]]) (3)))
 (False)
set_option maxRecDepth 100000 in
theorem te42 (test : Bool → Prop → Prop → Prop) (Kst : KS) (Kret : KR) (aa na ma : Nat) (ta : Nat → Int) (va : Nat → Int) (c0 : Int) (c1 : Int) : run test Try.env true (xJ test) true 400 ⟨42, [.cd (mkFn Try.f42).body], argT 0 [.loose ⟨0, 2, aa, 0⟩ na, .agg [.int .i64 c0, .int .i64 c1]], [[], [(0, (false, .cols ma [.int .i64 ta, .int .i64 va]))]], 1⟩ (proj 1 [] Kst Kret) =
  Te42 test Kst Kret aa na ma ta va c0 c1 := by kernel_rfl
attribute [local irreducible] Int.subNatNat in
set_option maxRecDepth 100000 in
theorem be42 (aa na ma : Nat) (ta : Nat → Int) (va : Nat → Int) (c0 : Int) (c1 : Int) (Kst : KS) (Kret : KR) (x : St42 ⊕ Rt42) (hS : HS 1 400 ((I42 aa na ma ta va c0 c1)) Kst x) (hR : HR 1 400 ((V42 aa na ma ta va c0 c1)) (fun r => [newL (1 + 1) ((N42 aa na ma ta va c0 c1) r) ++ [(0, (false, .cols ma [.int .i64 ta, .int .i64 va]))]]) Kret x) (h : (bif (decide (aa + na ≤ ma ∧ na ≤ 1000000))
 then (bif (decide
 (S.idx (fun (j : Nat) => decide (ta (j + aa) = c0) && decide (va (j + aa) = c1)) (0)
 na ≥
 (0 : Int)))
 then (some (.inr (true)))
 else (some (.inr (false))))
 else (none) : Option (St42 ⊕ Rt42)) = some x) : Te42 cond Kst Kret aa na ma ta va c0 c1 := by
  unfold Te42
  exact bif_split h
   (fun c0 h => bif_split h
   (fun c1 h => ret_at hR _ h (fun n => n) rfl rfl rfl (rn_bool_tf rfl) rfl (entl_bor (use_lo rfl) rfl rfl entl_nil))
   (fun c1 h => ret_at hR _ h (fun n => n) rfl rfl rfl (rn_bool_tf rfl) rfl (entl_bor (use_lo rfl) rfl rfl entl_nil)))
   (fun c0 h => no_some h)
theorem a42 (aa na ma : Nat) (ta : Nat → Int) (va : Nat → Int) (c0 : Int) (c1 : Int) {r : Rt42} (h : Goes ((q42 aa na ma ta va c0 c1)) ((p42 aa na ma ta va c0 c1)) r) : CallR Try.prog 42 [.loose ⟨0, 2, aa, 0⟩ na, .agg [.int .i64 c0, .int .i64 c1]] [[(0, (false, .cols ma [.int .i64 ta, .int .i64 va]))]] 1 ((V42 aa na ma ta va c0 c1) r) ((fun r => [newL (1 + 1) ((N42 aa na ma ta va c0 c1) r) ++ [(0, (false, .cols ma [.int .i64 ta, .int .i64 va]))]]) r) 400 ∧ ∃ F, Try.prog.funcs[42]? = some F ∧ F.body.isSome = true ∧ (F.name == "runtime.NumGoroutine") = false := by
  refine dec_calls (f := 42) (lo := 1) (hi := 400) (H := [[(0, (false, .cols ma [.int .i64 ta, .int .i64 va]))]]) (args := [.loose ⟨0, 2, aa, 0⟩ na, .agg [.int .i64 c0, .int .i64 c1]]) Try.envOk Try.mixed xJ_ok ((I42 aa na ma ta va c0 c1)) ((V42 aa na ma ta va c0 c1)) (fun r => [newL (1 + 1) ((N42 aa na ma ta va c0 c1) r) ++ [(0, (false, .cols ma [.int .i64 ta, .int .i64 va]))]]) (fn := mkFn Try.f42) (ts := []) (n := 400) rfl (by decide) (by simp) (names_of rfl) ?_ ?_ ?_ h
  · intro s; exact s.elim
  · intro Kst Kret x hS hR h
    exact Holds.eq (te42 cond Kst Kret aa na ma ta va c0 c1) (be42 aa na ma ta va c0 c1 Kst Kret x hS hR h)
  · intro Kst Kret x hS hR s h; exact s.elim
noncomputable def k42 : Con := ⟨42, [.one (.list [.int .i64, .int .i64]), .agg [.plain (.int .i64), .plain (.int .i64)]], fun (x : (Nat × Nat × Nat × (Nat → Int) × (Nat → Int) × Unit) × (Int × Int × Unit) × Unit) => (fun (aa na ma : Nat) (ta : Nat → Int) (va : Nat → Int) (c0 : Int) (c1 : Int) => decide (aa + na ≤ ma ∧ na ≤ 1000000)) x.1.1 x.1.2.1 x.1.2.2.1 x.1.2.2.2.1 x.1.2.2.2.2.1 x.2.1.1 x.2.1.2.1, fun (x : (Nat × Nat × Nat × (Nat → Int) × (Nat → Int) × Unit) × (Int × Int × Unit) × Unit) => (fun (aa na ma : Nat) (ta : Nat → Int) (va : Nat → Int) (c0 : Int) (c1 : Int) => (V42 aa na ma ta va c0 c1) (S.any (fun j => decide (ta (j + aa) = c0) && decide (va (j + aa) = c1)) na)) x.1.1 x.1.2.1 x.1.2.2.1 x.1.2.2.2.1 x.1.2.2.2.2.1 x.2.1.1 x.2.1.2.1, fun (x : (Nat × Nat × Nat × (Nat → Int) × (Nat → Int) × Unit) × (Int × Int × Unit) × Unit) => (fun (aa na ma : Nat) (ta : Nat → Int) (va : Nat → Int) (c0 : Int) (c1 : Int) => (N42 aa na ma ta va c0 c1) (S.any (fun j => decide (ta (j + aa) = c0) && decide (va (j + aa) = c1)) na)) x.1.1 x.1.2.1 x.1.2.2.1 x.1.2.2.2.1 x.1.2.2.2.2.1 x.2.1.1 x.2.1.2.1, fun _ _ => .dead⟩
theorem s42 (aa na ma : Nat) (ta : Nat → Int) (va : Nat → Int) (c0 : Int) (c1 : Int) (hp : aa + na ≤ ma ∧ na ≤ 1000000) : Goes ((q42 aa na ma ta va c0 c1)) ((p42 aa na ma ta va c0 c1)) (S.any (fun j => decide (ta (j + aa) = c0) && decide (va (j + aa) = c1)) na) := by
  have hp' := hp
  obtain ⟨hp1, hp2⟩ := hp
  rw [← idx_any (p := (fun j => decide (ta (j + aa) = c0) && decide (va (j + aa) = c1))) (n := na)]
  show Goes _ _ _
  unfold p42
  repeat' first
    | with_reducible refine goes_if (fun h => ?_) (fun h => ?_) <;> (try simp only [lim64, imp_false, decide_eq_true_eq, decide_eq_false_iff_not, Int.toNat_natCast, toNat_pred, toNat_succ, Option.getD_some, Option.getD_none, Bool.not_eq_true', Bool.not_eq_false', Bool.and_eq_true, Bool.or_eq_true, Bool.and_eq_false_iff, Bool.or_eq_false_iff, bne_iff_ne, beq_iff_eq, bne_eq_false_iff_eq, beq_eq_false_iff_ne, ne_eq, not_and, Int.not_le, Int.not_lt, ge_iff_le, gt_iff_lt, Nat.not_lt, Nat.not_le, Bool.not_eq_true, Bool.not_eq_false, Bool.true_eq_false, Bool.false_eq_true, not_false_eq_true, not_true_eq_false] at h)
    | exact goes_none.mpr (by omega)
  all_goals first | (exfalso; omega) | (exfalso; simp_all; done) | (refine goes_inr.mpr ?_; first | rfl | (symm; simp_all; done) | (symm; simp_all; omega))

theorem k42_ok : k42.ok Try.prog := by
  intro x hx
  obtain ⟨⟨aa, na, ma, ta, va, _⟩, ⟨c0, c1, _⟩, _⟩ := x
  obtain ⟨h1, h2⟩ := a42 aa na ma ta va c0 c1 (s42 aa na ma ta va c0 c1 (of_dec hx rfl))
  exact ⟨⟨400, (by decide : 1 + 1 + 0 ≤ 400), h1⟩, h2⟩
noncomputable def k12 : Con := ⟨12, [.one (.list [.int .i64])], fun (x : (Nat × Nat × Nat × (Nat → Int) × Unit) × Unit) => (fun (aa na ma : Nat) (ta : Nat → Int) => decide (aa + na ≤ ma ∧ na ≤ 1000000)) x.1.1 x.1.2.1 x.1.2.2.1 x.1.2.2.2.1, fun (x : (Nat × Nat × Nat × (Nat → Int) × Unit) × Unit) => (fun (aa na ma : Nat) (ta : Nat → Int) => .own 2 1 na) x.1.1 x.1.2.1 x.1.2.2.1 x.1.2.2.2.1, fun (x : (Nat × Nat × Nat × (Nat → Int) × Unit) × Unit) => (fun (aa na ma : Nat) (ta : Nat → Int) => [.cols na [.int .i64 (fun j => ta (j + aa))]]) x.1.1 x.1.2.1 x.1.2.2.1 x.1.2.2.2.1, fun _ _ => .dead⟩
set_option maxRecDepth 100000 in
theorem e12s (test : Bool → Prop → Prop → Prop) (Kst : List It → List PV → Heap → Nat → Prop) (Kret : PV → Heap → Nat → Prop) (aa na ma : Nat) (ta : Nat → Int) :
  (run test Try.env true noX true 300 ⟨12, [.cd (mkFn Try.f12).body], argT 0 [.sl ⟨0, 1, aa, 0⟩ na], [[], [(0, (false, .cols ma [.int .i64 ta]))]], 1⟩ (proj 1 [] Kst Kret)) =
  (test (decide (0 + na ≤ 1000000))
  (test true
    (test (decide (aa + na ≤ ma))
      (Kret (PV.own (2) (1) (0 + na))
        [[(0, false, Blk.cols ma [Col.int IntKind.i64 ta]),
            (2, true, Blk.cols (0 + na) [Col.int IntKind.i64 fun (j : Nat) => ta (j + aa)])]]
        (3))
      False)
    False)
  False) := by kernel_rfl
theorem c12s (aa na ma : Nat) (ta : Nat → Int) (hp : aa + na ≤ ma ∧ na ≤ 1000000) (h0 : 0 < na) : CallR Try.prog 12 [.sl ⟨0, 1, aa, 0⟩ na] [[(0, (false, .cols ma [.int .i64 ta]))]] 1 (.own 2 1 na) [(2, (true, .cols na [.int .i64 (fun j => ta (j + aa))])) :: [(0, (false, .cols ma [.int .i64 ta]))]] 40 ∧ ∃ F, Try.prog.funcs[12]? = some F ∧ F.body.isSome = true ∧ (F.name == "runtime.NumGoroutine") = false := by
  refine @ret_eq _ _ Try.envOk Try.mixed _ noX_ok 12 (mkFn Try.f12) [.sl ⟨0, 1, aa, 0⟩ na] [[(0, (false, .cols ma [.int .i64 ta]))]] [(2, (true, .cols na [.int .i64 (fun j => ta (j + aa))])) :: [(0, (false, .cols ma [.int .i64 ta]))]] 1 40 (.own 2 1 na) true 300 rfl (by decide) (by simp) (names_of rfl) _ (e12s cond _ _ aa na ma ta) ?_
  repeat' first
    | with_reducible refine cond_yes rfl ?_
    | with_reducible refine cond_no rfl ?_
    | (with_reducible refine cond_intro (fun h => ?_) (fun h => ?_)) <;> (try simp only [lim64, decide_eq_true_eq, decide_eq_false_iff_not, reduceCtorEq, Int.toNat_natCast, Bool.not_eq_true', Bool.not_eq_false', Bool.and_eq_true, Bool.or_eq_true, Bool.and_eq_false_iff, Bool.or_eq_false_iff, bne_iff_ne, beq_iff_eq, bne_eq_false_iff_eq, beq_eq_false_iff_ne, ne_eq] at h)
  all_goals first
    | with_reducible apply ret_k
    | omega
  repeat' first
    | with_reducible exact rns_nil
    | with_reducible refine rns_cons ?_ ?_
    | with_reducible refine rn_tup ?_
    | with_reducible refine rn_agg ?_
    | with_reducible refine rn_int ?_
    | with_reducible refine rn_tf ?_
    | with_reducible refine rn_bool_tf ?_
    | with_reducible refine rn_bool ?_
    | with_reducible refine rn_str ?_
    | with_reducible exact rn_nils
    | with_reducible refine rn_own_nils ?_
    | with_reducible refine rn_own ?_ ?_ ?_
    | with_reducible refine rn_own_sl ?_ ?_ ?_ ?_ ?_
    | with_reducible refine rn_own_loose ?_ ?_ ?_ ?_
    | with_reducible refine rn_loose ?_ ?_ ?_ ?_
    | with_reducible refine rn_loose_sl ?_ ?_ ?_ ?_
    | exact use_lo rfl
    | exact use_own rfl
    | exact nm_k rfl
    | exact nm_lo rfl
    | ((with_reducible refine (id : pos _ = pos _ → _) ?_); exact rfl)
    | ((with_reducible refine (id : pos _ = 0 → _) ?_); exact rfl)
    | ((with_reducible refine (id : Nat.ble _ _ = true → _) ?_); exact rfl)
    | ((with_reducible refine (id : injL _ _ = true → _) ?_); exact rfl)
    | ((with_reducible refine (id : plainC _ = true → _) ?_); exact rfl)
    | ((with_reducible refine (id : hget _ _ = some _ → _) ?_); exact rfl)
    | with_reducible exact (id : (_ : Bool) = true → _ = true)
    | with_reducible exact entl_nil
    | with_reducible refine entl_bor ?_ ?_ ?_ ?_
    | refine entl_new (use_own rfl) (by rfl) ?_ ?_ ?_
    | refine entl_rows (use_own rfl) (by rfl) rfl ?_ (nthc_all ?_) ?_
    | refine entl_zero (use_own rfl) (by rfl) (by simp) (by omega) ?_
    | with_reducible exact rcs_nil
    | with_reducible refine rcs_int (fun j hj => ?_) ?_
    | with_reducible refine rcs_bool (fun j hj => ?_) ?_
    | with_reducible refine rcs_str (fun j hj => ?_) ?_
    | refine entl_fresh (k := 2) (use_own rfl) (fresh_ok (n := 39) rfl) ?_
    | with_reducible rfl
  all_goals try exact (0 : Nat)
  all_goals try ((with_reducible refine (id : injL _ _ = true → _) ?_); exact rfl)
  all_goals first
    | omega
    | skip
set_option maxRecDepth 100000 in
theorem e12z (test : Bool → Prop → Prop → Prop) (Kst : List It → List PV → Heap → Nat → Prop) (Kret : PV → Heap → Nat → Prop) (aa na ma : Nat) (ta : Nat → Int) :
  (run test Try.env true noX true 300 ⟨12, [.cd (mkFn Try.f12).body], argT 0 [.zer true], [[], [(0, (false, .cols ma [.int .i64 ta]))]], 1⟩ (proj 1 [] Kst Kret)) =
  (Kret (PV.own (1) (1) (0))
  [[(0, false, Blk.cols ma [Col.int IntKind.i64 ta]), (1, true, Blk.cells [])]] (2)) := by kernel_rfl
theorem c12z (aa na ma : Nat) (ta : Nat → Int) (hp : aa + na ≤ ma ∧ na ≤ 1000000) (h0 : na = 0) : CallR Try.prog 12 [.zer true] [[(0, (false, .cols ma [.int .i64 ta]))]] 1 (.own 2 1 na) [(2, (true, .cols na [.int .i64 (fun j => ta (j + aa))])) :: [(0, (false, .cols ma [.int .i64 ta]))]] 40 ∧ ∃ F, Try.prog.funcs[12]? = some F ∧ F.body.isSome = true ∧ (F.name == "runtime.NumGoroutine") = false := by
  refine @ret_eq _ _ Try.envOk Try.mixed _ noX_ok 12 (mkFn Try.f12) [.zer true] [[(0, (false, .cols ma [.int .i64 ta]))]] [(2, (true, .cols na [.int .i64 (fun j => ta (j + aa))])) :: [(0, (false, .cols ma [.int .i64 ta]))]] 1 40 (.own 2 1 na) true 300 rfl (by decide) (by simp) (names_of rfl) _ (e12z cond _ _ aa na ma ta) ?_
  repeat' first
    | with_reducible refine cond_yes rfl ?_
    | with_reducible refine cond_no rfl ?_
    | (with_reducible refine cond_intro (fun h => ?_) (fun h => ?_)) <;> (try simp only [lim64, decide_eq_true_eq, decide_eq_false_iff_not, reduceCtorEq, Int.toNat_natCast, Bool.not_eq_true', Bool.not_eq_false', Bool.and_eq_true, Bool.or_eq_true, Bool.and_eq_false_iff, Bool.or_eq_false_iff, bne_iff_ne, beq_iff_eq, bne_eq_false_iff_eq, beq_eq_false_iff_ne, ne_eq] at h)
  all_goals first
    | with_reducible apply ret_k
    | omega
  repeat' first
    | with_reducible exact rns_nil
    | with_reducible refine rns_cons ?_ ?_
    | with_reducible refine rn_tup ?_
    | with_reducible refine rn_agg ?_
    | with_reducible refine rn_int ?_
    | with_reducible refine rn_tf ?_
    | with_reducible refine rn_bool_tf ?_
    | with_reducible refine rn_bool ?_
    | with_reducible refine rn_str ?_
    | with_reducible exact rn_nils
    | with_reducible refine rn_own_nils ?_
    | with_reducible refine rn_own ?_ ?_ ?_
    | with_reducible refine rn_own_sl ?_ ?_ ?_ ?_ ?_
    | with_reducible refine rn_own_loose ?_ ?_ ?_ ?_
    | with_reducible refine rn_loose ?_ ?_ ?_ ?_
    | with_reducible refine rn_loose_sl ?_ ?_ ?_ ?_
    | exact use_lo rfl
    | exact use_own rfl
    | exact nm_k rfl
    | exact nm_lo rfl
    | ((with_reducible refine (id : pos _ = pos _ → _) ?_); exact rfl)
    | ((with_reducible refine (id : pos _ = 0 → _) ?_); exact rfl)
    | ((with_reducible refine (id : Nat.ble _ _ = true → _) ?_); exact rfl)
    | ((with_reducible refine (id : injL _ _ = true → _) ?_); exact rfl)
    | ((with_reducible refine (id : plainC _ = true → _) ?_); exact rfl)
    | ((with_reducible refine (id : hget _ _ = some _ → _) ?_); exact rfl)
    | with_reducible exact (id : (_ : Bool) = true → _ = true)
    | with_reducible exact entl_nil
    | with_reducible refine entl_bor ?_ ?_ ?_ ?_
    | refine entl_new (use_own rfl) (by rfl) ?_ ?_ ?_
    | refine entl_rows (use_own rfl) (by rfl) rfl ?_ (nthc_all ?_) ?_
    | refine entl_zero (use_own rfl) (by rfl) (by simp) (by omega) ?_
    | with_reducible exact rcs_nil
    | with_reducible refine rcs_int (fun j hj => ?_) ?_
    | with_reducible refine rcs_bool (fun j hj => ?_) ?_
    | with_reducible refine rcs_str (fun j hj => ?_) ?_
    | refine entl_fresh (k := 2) (use_own rfl) (fresh_ok (n := 39) rfl) ?_
    | with_reducible rfl
  all_goals try exact (0 : Nat)
  all_goals try ((with_reducible refine (id : injL _ _ = true → _) ?_); exact rfl)
  all_goals first
    | omega
    | skip
set_option maxRecDepth 100000 in
theorem e12y (test : Bool → Prop → Prop → Prop) (Kst : List It → List PV → Heap → Nat → Prop) (Kret : PV → Heap → Nat → Prop) (aa na ma : Nat) (ta : Nat → Int) :
  (run test Try.env true noX true 300 ⟨12, [.cd (mkFn Try.f12).body], argT 0 [.zer false], [[], [(0, (false, .cols ma [.int .i64 ta]))]], 1⟩ (proj 1 [] Kst Kret)) =
  (Kret PV.nils [[(0, false, Blk.cols ma [Col.int IntKind.i64 ta])]] (1)) := by kernel_rfl
theorem c12y (aa na ma : Nat) (ta : Nat → Int) (hp : aa + na ≤ ma ∧ na ≤ 1000000) (h0 : na = 0) : CallR Try.prog 12 [.zer false] [[(0, (false, .cols ma [.int .i64 ta]))]] 1 (.own 2 1 na) [(2, (true, .cols na [.int .i64 (fun j => ta (j + aa))])) :: [(0, (false, .cols ma [.int .i64 ta]))]] 40 ∧ ∃ F, Try.prog.funcs[12]? = some F ∧ F.body.isSome = true ∧ (F.name == "runtime.NumGoroutine") = false := by
  refine @ret_eq _ _ Try.envOk Try.mixed _ noX_ok 12 (mkFn Try.f12) [.zer false] [[(0, (false, .cols ma [.int .i64 ta]))]] [(2, (true, .cols na [.int .i64 (fun j => ta (j + aa))])) :: [(0, (false, .cols ma [.int .i64 ta]))]] 1 40 (.own 2 1 na) true 300 rfl (by decide) (by simp) (names_of rfl) _ (e12y cond _ _ aa na ma ta) ?_
  repeat' first
    | with_reducible refine cond_yes rfl ?_
    | with_reducible refine cond_no rfl ?_
    | (with_reducible refine cond_intro (fun h => ?_) (fun h => ?_)) <;> (try simp only [lim64, decide_eq_true_eq, decide_eq_false_iff_not, reduceCtorEq, Int.toNat_natCast, Bool.not_eq_true', Bool.not_eq_false', Bool.and_eq_true, Bool.or_eq_true, Bool.and_eq_false_iff, Bool.or_eq_false_iff, bne_iff_ne, beq_iff_eq, bne_eq_false_iff_eq, beq_eq_false_iff_ne, ne_eq] at h)
  all_goals first
    | with_reducible apply ret_k
    | omega
  repeat' first
    | with_reducible exact rns_nil
    | with_reducible refine rns_cons ?_ ?_
    | with_reducible refine rn_tup ?_
    | with_reducible refine rn_agg ?_
    | with_reducible refine rn_int ?_
    | with_reducible refine rn_tf ?_
    | with_reducible refine rn_bool_tf ?_
    | with_reducible refine rn_bool ?_
    | with_reducible refine rn_str ?_
    | with_reducible exact rn_nils
    | with_reducible refine rn_own_nils ?_
    | with_reducible refine rn_own ?_ ?_ ?_
    | with_reducible refine rn_own_sl ?_ ?_ ?_ ?_ ?_
    | with_reducible refine rn_own_loose ?_ ?_ ?_ ?_
    | with_reducible refine rn_loose ?_ ?_ ?_ ?_
    | with_reducible refine rn_loose_sl ?_ ?_ ?_ ?_
    | exact use_lo rfl
    | exact use_own rfl
    | exact nm_k rfl
    | exact nm_lo rfl
    | ((with_reducible refine (id : pos _ = pos _ → _) ?_); exact rfl)
    | ((with_reducible refine (id : pos _ = 0 → _) ?_); exact rfl)
    | ((with_reducible refine (id : Nat.ble _ _ = true → _) ?_); exact rfl)
    | ((with_reducible refine (id : injL _ _ = true → _) ?_); exact rfl)
    | ((with_reducible refine (id : plainC _ = true → _) ?_); exact rfl)
    | ((with_reducible refine (id : hget _ _ = some _ → _) ?_); exact rfl)
    | with_reducible exact (id : (_ : Bool) = true → _ = true)
    | with_reducible exact entl_nil
    | with_reducible refine entl_bor ?_ ?_ ?_ ?_
    | refine entl_new (use_own rfl) (by rfl) ?_ ?_ ?_
    | refine entl_rows (use_own rfl) (by rfl) rfl ?_ (nthc_all ?_) ?_
    | refine entl_zero (use_own rfl) (by rfl) (by simp) (by omega) ?_
    | with_reducible exact rcs_nil
    | with_reducible refine rcs_int (fun j hj => ?_) ?_
    | with_reducible refine rcs_bool (fun j hj => ?_) ?_
    | with_reducible refine rcs_str (fun j hj => ?_) ?_
    | refine entl_fresh (k := 2) (use_own rfl) (fresh_ok (n := 39) rfl) ?_
    | with_reducible rfl
  all_goals try exact (0 : Nat)
  all_goals try ((with_reducible refine (id : injL _ _ = true → _) ?_); exact rfl)
  all_goals first
    | omega
    | skip
theorem c12 (aa na ma : Nat) (ta : Nat → Int) (hp : aa + na ≤ ma ∧ na ≤ 1000000) : CallR Try.prog 12 [.loose ⟨0, 1, aa, 0⟩ na] [[(0, (false, .cols ma [.int .i64 ta]))]] 1 (.own 2 1 na) [(2, (true, .cols na [.int .i64 (fun j => ta (j + aa))])) :: [(0, (false, .cols ma [.int .i64 ta]))]] 40 ∧ ∃ F, Try.prog.funcs[12]? = some F ∧ F.body.isSome = true ∧ (F.name == "runtime.NumGoroutine") = false :=
  ⟨loose_cases (fun h => (c12s aa na ma ta hp h).1) (fun h b => by cases b; exact (c12y aa na ma ta hp h).1; exact (c12z aa na ma ta hp h).1), by
    rcases Nat.eq_zero_or_pos na with h | h
    · exact (c12y aa na ma ta hp h).2
    · exact (c12s aa na ma ta hp h).2⟩
theorem k12_ok : k12.ok Try.prog := by
  intro x hx
  obtain ⟨⟨aa, na, ma, ta, _⟩, _⟩ := x
  have hp : aa + na ≤ ma ∧ na ≤ 1000000 := of_decide_eq_true hx
  obtain ⟨h1, h2⟩ := c12 aa na ma ta hp
  exact ⟨⟨40, (by decide : 1 + 1 + 1 ≤ 40), h1⟩, h2⟩
noncomputable def xV (test : Bool → Prop → Prop → Prop) : Ext := consX test [k38, k76, k39, k42]
theorem xV_ok : ExtOk Try.prog (xV cond) := consX_ok ⟨k38_ok, k76_ok, k39_ok, k42_ok, trivial⟩

end Go.Ev
