/-
  Equal, Clone.
-/
import Derived.Test.YtjkdcbkgfjdoeaaL0
namespace Go.Ev
open Go.Proofs
set_option linter.unusedVariables false
set_option linter.unusedSimpArgs false
set_option maxRecDepth 100000
inductive St16 where
  | h0 (x0 : Int)
abbrev Rt16 := Bool
noncomputable def V16 (aa na ma : Nat) (ta : Nat → Int) (ab nb mb : Nat) (tb : Nat → Int) (r : Rt16) : PV := PV.bool r
noncomputable def N16 (aa na ma : Nat) (ta : Nat → Int) (ab nb mb : Nat) (tb : Nat → Int) (r : Rt16) : List Blk := []
noncomputable def I16 (aa na ma : Nat) (ta : Nat → Int) (ab nb mb : Nat) (tb : Nat → Int) : St16 → Hd
  | .h0 x0 => ⟨hd Try.f16 0, [PV.loose (PA.mk (0) (1) aa (0)) na,
 PV.loose (PA.mk (1) (1) ab (0)) nb, PV.int IntKind.i64 (↑na : Int),
 PV.int IntKind.i64 x0], [[], [(0, (false, .cols ma [.int .i64 ta])), (1, (false, .cols mb [.int .i64 tb]))]], 2⟩
noncomputable def q16 (aa na ma : Nat) (ta : Nat → Int) (ab nb mb : Nat) (tb : Nat → Int) : St16 → Option (St16 ⊕ Rt16)
  | .h0 x0 => bif (decide (x0 < (↑na : Int)))
 then (bif (decide ((0 : Int) ≤ x0 ∧ x0 < (↑na : Int)))
 then (bif (decide (Int.toNat x0 + aa < ma))
 then (bif (decide ((0 : Int) ≤ x0 ∧ x0 < (↑nb : Int)))
 then (bif (decide (Int.toNat x0 + ab < mb))
 then (bif (ta (Int.toNat x0 + aa) != tb (Int.toNat x0 + ab))
 then (some (.inr (false)))
 else (bif (lim IntKind.i64 (x0 + (1 : Int)))
 then (some (.inl (.h0 (x0 + (1 : Int)))))
 else (none)))
 else (none))
 else (none))
 else (none))
 else (none))
 else (some (.inr (true)))
noncomputable def p16 (aa na ma : Nat) (ta : Nat → Int) (ab nb mb : Nat) (tb : Nat → Int) : Option (St16 ⊕ Rt16) := bif ((↑na : Int) != (↑nb : Int))
 then (some (.inr (false)))
 else (some (.inl (.h0 ((0 : Int)))))
noncomputable def Te16 (test : Bool → Prop → Prop → Prop) (Kst : KS) (Kret : KR) (aa na ma : Nat) (ta : Nat → Int) (ab nb mb : Nat) (tb : Nat → Int) : Prop :=
  test ((↑na : Int) != (↑nb : Int))
 (Kret (PV.tf false) ([[(1, false, Blk.cols mb [Col.int IntKind.i64 tb]),
 (0, false, Blk.cols ma [Col.int IntKind.i64 ta])]]) (2))
 (Kst (hd Try.f16 0) ([PV.loose (PA.mk (0) (1) aa (0)) na,
 PV.loose (PA.mk (1) (1) ab (0)) nb, PV.int IntKind.i64 (↑na : Int),
 PV.int IntKind.i64 (0 : Int)]) ([[(1, false, Blk.cols mb [Col.int IntKind.i64 tb]),
 (0, false, Blk.cols ma [Col.int IntKind.i64 ta])]]) (2))
set_option maxRecDepth 100000 in
theorem te16 (test : Bool → Prop → Prop → Prop) (Kst : KS) (Kret : KR) (aa na ma : Nat) (ta : Nat → Int) (ab nb mb : Nat) (tb : Nat → Int) : run test Try.env true noX true 400 ⟨16, [.cd (mkFn Try.f16).body], argT 0 [.loose ⟨0, 1, aa, 0⟩ na, .loose ⟨1, 1, ab, 0⟩ nb], [[], [(0, (false, .cols ma [.int .i64 ta])), (1, (false, .cols mb [.int .i64 tb]))]], 2⟩ (proj 2 [0, 1, 12, 13] Kst Kret) =
  Te16 test Kst Kret aa na ma ta ab nb mb tb := by kernel_rfl
noncomputable def T16_0 (test : Bool → Prop → Prop → Prop) (Kst : KS) (Kret : KR) (aa na ma : Nat) (ta : Nat → Int) (ab nb mb : Nat) (tb : Nat → Int) (x0 : Int) : Prop :=
  test (decide (x0 < (↑na : Int)))
 (test (decide ((0 : Int) ≤ x0 ∧ x0 < (↑na : Int)))
 (test (decide (Int.toNat x0 + aa < ma))
 (test (decide ((0 : Int) ≤ x0 ∧ x0 < (↑nb : Int)))
 (test (decide (Int.toNat x0 + ab < mb))
 (test (ta (Int.toNat x0 + aa) != tb (Int.toNat x0 + ab))
 (Kret (PV.tf false) ([[(1, false, Blk.cols mb [Col.int IntKind.i64 tb]),
 (0, false, Blk.cols ma [Col.int IntKind.i64 ta])]]) (2))
 (test (lim IntKind.i64 (x0 + (1 : Int)))
 (Kst (hd Try.f16 0) ([PV.loose (PA.mk (0) (1) aa (0)) na,
 PV.loose (PA.mk (1) (1) ab (0)) nb, PV.int IntKind.i64 (↑na : Int),
 PV.int IntKind.i64 (x0 + (1 : Int))]) ([[(1, false, Blk.cols mb [Col.int IntKind.i64 tb]),
 (0, false, Blk.cols ma [Col.int IntKind.i64 ta])]]) (2))
 (False)))
 (False))
 (False))
 (False))
 (False))
 (Kret (PV.tf true) ([[(1, false, Blk.cols mb [Col.int IntKind.i64 tb]),
 (0, false, Blk.cols ma [Col.int IntKind.i64 ta])]]) (2))
set_option maxRecDepth 100000 in
theorem t16_0 (test : Bool → Prop → Prop → Prop) (Kst : KS) (Kret : KR) (aa na ma : Nat) (ta : Nat → Int) (ab nb mb : Nat) (tb : Nat → Int) (x0 : Int) : run test Try.env true noX true 400 ⟨16, hd Try.f16 0, zipT [0, 1, 12, 13] [PV.loose (PA.mk (0) (1) aa (0)) na,
 PV.loose (PA.mk (1) (1) ab (0)) nb, PV.int IntKind.i64 (↑na : Int),
 PV.int IntKind.i64 x0], [[], [(0, (false, .cols ma [.int .i64 ta])), (1, (false, .cols mb [.int .i64 tb]))]], 2⟩ (proj 2 [0, 1, 12, 13] Kst Kret) =
  T16_0 test Kst Kret aa na ma ta ab nb mb tb x0 := by kernel_rfl
set_option maxRecDepth 100000 in
theorem be16 (aa na ma : Nat) (ta : Nat → Int) (ab nb mb : Nat) (tb : Nat → Int) (Kst : KS) (Kret : KR) (x : St16 ⊕ Rt16) (hS : HS 2 400 ((I16 aa na ma ta ab nb mb tb)) Kst x) (hR : HR 2 400 ((V16 aa na ma ta ab nb mb tb)) (fun r => [newL (2 + 1) ((N16 aa na ma ta ab nb mb tb) r) ++ [(0, (false, .cols ma [.int .i64 ta])), (1, (false, .cols mb [.int .i64 tb]))]]) Kret x) (h : (bif ((↑na : Int) != (↑nb : Int))
 then (some (.inr (false)))
 else (some (.inl (.h0 ((0 : Int))))) : Option (St16 ⊕ Rt16)) = some x) : Te16 cond Kst Kret aa na ma ta ab nb mb tb := by
  unfold Te16
  exact bif_split h
   (fun c0 h => ret_at hR _ h (fun n => n) rfl rfl rfl (rn_bool_tf rfl) rfl (entl_bor (use_lo rfl) rfl rfl (entl_bor (use_lo rfl) rfl rfl entl_nil)))
   (fun c0 h => stop_at hS _ h (fun n => n) rfl rfl rfl ⟨(rn_loose (use_lo rfl) rfl rfl rfl), ⟨(rn_loose (use_lo rfl) rfl rfl rfl), ⟨(rn_int rfl), ⟨(rn_int rfl), trivial⟩⟩⟩⟩ rfl (entl_bor (use_lo rfl) rfl rfl (entl_bor (use_lo rfl) rfl rfl entl_nil)))
set_option maxRecDepth 100000 in
theorem b16_0 (aa na ma : Nat) (ta : Nat → Int) (ab nb mb : Nat) (tb : Nat → Int) (Kst : KS) (Kret : KR) (x : St16 ⊕ Rt16) (hS : HS 2 400 ((I16 aa na ma ta ab nb mb tb)) Kst x) (hR : HR 2 400 ((V16 aa na ma ta ab nb mb tb)) (fun r => [newL (2 + 1) ((N16 aa na ma ta ab nb mb tb) r) ++ [(0, (false, .cols ma [.int .i64 ta])), (1, (false, .cols mb [.int .i64 tb]))]]) Kret x) (x0 : Int) (h : (bif (decide (x0 < (↑na : Int)))
 then (bif (decide ((0 : Int) ≤ x0 ∧ x0 < (↑na : Int)))
 then (bif (decide (Int.toNat x0 + aa < ma))
 then (bif (decide ((0 : Int) ≤ x0 ∧ x0 < (↑nb : Int)))
 then (bif (decide (Int.toNat x0 + ab < mb))
 then (bif (ta (Int.toNat x0 + aa) != tb (Int.toNat x0 + ab))
 then (some (.inr (false)))
 else (bif (lim IntKind.i64 (x0 + (1 : Int)))
 then (some (.inl (.h0 (x0 + (1 : Int)))))
 else (none)))
 else (none))
 else (none))
 else (none))
 else (none))
 else (some (.inr (true))) : Option (St16 ⊕ Rt16)) = some x) : T16_0 cond Kst Kret aa na ma ta ab nb mb tb x0 := by
  unfold T16_0
  exact bif_split h
   (fun c0 h => bif_split h
   (fun c1 h => bif_split h
   (fun c2 h => bif_split h
   (fun c3 h => bif_split h
   (fun c4 h => bif_split h
   (fun c5 h => ret_at hR _ h (fun n => n) rfl rfl rfl (rn_bool_tf rfl) rfl (entl_bor (use_lo rfl) rfl rfl (entl_bor (use_lo rfl) rfl rfl entl_nil)))
   (fun c5 h => bif_split h
   (fun c6 h => stop_at hS _ h (fun n => n) rfl rfl rfl ⟨(rn_loose (use_lo rfl) rfl rfl rfl), ⟨(rn_loose (use_lo rfl) rfl rfl rfl), ⟨(rn_int rfl), ⟨(rn_int rfl), trivial⟩⟩⟩⟩ rfl (entl_bor (use_lo rfl) rfl rfl (entl_bor (use_lo rfl) rfl rfl entl_nil)))
   (fun c6 h => no_some h)))
   (fun c4 h => no_some h))
   (fun c3 h => no_some h))
   (fun c2 h => no_some h))
   (fun c1 h => no_some h))
   (fun c0 h => ret_at hR _ h (fun n => n) rfl rfl rfl (rn_bool_tf rfl) rfl (entl_bor (use_lo rfl) rfl rfl (entl_bor (use_lo rfl) rfl rfl entl_nil)))
theorem a16 (aa na ma : Nat) (ta : Nat → Int) (ab nb mb : Nat) (tb : Nat → Int) {r : Rt16} (h : Goes ((q16 aa na ma ta ab nb mb tb)) ((p16 aa na ma ta ab nb mb tb)) r) : CallR Try.prog 16 [.loose ⟨0, 1, aa, 0⟩ na, .loose ⟨1, 1, ab, 0⟩ nb] [[(0, (false, .cols ma [.int .i64 ta])), (1, (false, .cols mb [.int .i64 tb]))]] 2 ((V16 aa na ma ta ab nb mb tb) r) ((fun r => [newL (2 + 1) ((N16 aa na ma ta ab nb mb tb) r) ++ [(0, (false, .cols ma [.int .i64 ta])), (1, (false, .cols mb [.int .i64 tb]))]]) r) 400 ∧ ∃ F, Try.prog.funcs[16]? = some F ∧ F.body.isSome = true ∧ (F.name == "runtime.NumGoroutine") = false := by
  refine dec_calls (f := 16) (lo := 2) (hi := 400) (H := [[(0, (false, .cols ma [.int .i64 ta])), (1, (false, .cols mb [.int .i64 tb]))]]) (args := [.loose ⟨0, 1, aa, 0⟩ na, .loose ⟨1, 1, ab, 0⟩ nb]) Try.envOk Try.mixed noX_ok ((I16 aa na ma ta ab nb mb tb)) ((V16 aa na ma ta ab nb mb tb)) (fun r => [newL (2 + 1) ((N16 aa na ma ta ab nb mb tb) r) ++ [(0, (false, .cols ma [.int .i64 ta])), (1, (false, .cols mb [.int .i64 tb]))]]) (fn := mkFn Try.f16) (ts := [0, 1, 12, 13]) (n := 400) rfl (by decide) (by simp) (names_of rfl) ?_ ?_ ?_ h
  · intro s; cases s <;> exact ⟨hd_ok _ _, by simp [I16], names_of rfl, Nat.le_of_ble_eq_true rfl⟩
  · intro Kst Kret x hS hR h
    exact Holds.eq (te16 cond Kst Kret aa na ma ta ab nb mb tb) (be16 aa na ma ta ab nb mb tb Kst Kret x hS hR h)
  · intro Kst Kret x hS hR s h
    cases s with
    | h0 x0 => exact Holds.eq (t16_0 cond Kst Kret aa na ma ta ab nb mb tb x0) (b16_0 aa na ma ta ab nb mb tb Kst Kret x hS hR x0 h)
noncomputable def k16 : Con := ⟨16, [.one (.list [.int .i64]), .one (.list [.int .i64])], fun (x : (Nat × Nat × Nat × (Nat → Int) × Unit) × (Nat × Nat × Nat × (Nat → Int) × Unit) × Unit) => (fun (aa na ma : Nat) (ta : Nat → Int) (ab nb mb : Nat) (tb : Nat → Int) => decide (aa + na ≤ ma ∧ na ≤ 1000000 ∧ ab + nb ≤ mb ∧ nb ≤ 1000000)) x.1.1 x.1.2.1 x.1.2.2.1 x.1.2.2.2.1 x.2.1.1 x.2.1.2.1 x.2.1.2.2.1 x.2.1.2.2.2.1, fun (x : (Nat × Nat × Nat × (Nat → Int) × Unit) × (Nat × Nat × Nat × (Nat → Int) × Unit) × Unit) => (fun (aa na ma : Nat) (ta : Nat → Int) (ab nb mb : Nat) (tb : Nat → Int) => (V16 aa na ma ta ab nb mb tb) (decide ((S.mkl na fun j => ta (j + aa)) = (S.mkl nb fun j => tb (j + ab))))) x.1.1 x.1.2.1 x.1.2.2.1 x.1.2.2.2.1 x.2.1.1 x.2.1.2.1 x.2.1.2.2.1 x.2.1.2.2.2.1, fun (x : (Nat × Nat × Nat × (Nat → Int) × Unit) × (Nat × Nat × Nat × (Nat → Int) × Unit) × Unit) => (fun (aa na ma : Nat) (ta : Nat → Int) (ab nb mb : Nat) (tb : Nat → Int) => (N16 aa na ma ta ab nb mb tb) (decide ((S.mkl na fun j => ta (j + aa)) = (S.mkl nb fun j => tb (j + ab))))) x.1.1 x.1.2.1 x.1.2.2.1 x.1.2.2.2.1 x.2.1.1 x.2.1.2.1 x.2.1.2.2.1 x.2.1.2.2.2.1, fun _ _ => .dead⟩
theorem e16 (aa na ma : Nat) (ta : Nat → Int) (ab nb mb : Nat) (tb : Nat → Int) (h : na = nb) : decide ((S.mkl na fun j => ta (j + aa)) = (S.mkl nb fun j => tb (j + ab))) = true ↔ ∀ j, j < na → ta (j + aa) = tb (j + ab) := by
  rw [decide_eq_true_eq, mkl_inj]
  simp only [h, true_and, Prod.mk.injEq]
theorem s16' (aa na ma : Nat) (ta : Nat → Int) (ab nb mb : Nat) (tb : Nat → Int) (hp : aa + na ≤ ma ∧ na ≤ 1000000 ∧ ab + nb ≤ mb ∧ nb ≤ 1000000) (he : na = nb) : ∀ k i : Nat, i + k = na → (∀ j, j < i → ta (j + aa) = tb (j + ab)) → Comes (q16 aa na ma ta ab nb mb tb) (.h0 (i : Int)) (decide ((S.mkl na fun j => ta (j + aa)) = (S.mkl nb fun j => tb (j + ab)))) := by
  obtain ⟨hp1, hp2, hp3, hp4⟩ := hp
  have hq := e16 aa na ma ta ab nb mb tb he
  generalize decide ((S.mkl na fun j => ta (j + aa)) = (S.mkl nb fun j => tb (j + ab))) = R at hq ⊢
  intro k
  induction k with
  | zero =>
    intro i hi hj
    obtain rfl : na = i := by omega
    apply Comes.of
    show Goes _ _ _
    (first | rw [q16] | unfold q16)
    repeat' first
      | with_reducible refine goes_if (fun h => ?_) (fun h => ?_) <;> (try simp only [lim64, decide_eq_true_eq, decide_eq_false_iff_not, Int.toNat_natCast, toNat_pred, toNat_succ, Option.getD_some, Option.getD_none, Bool.not_eq_true', Bool.not_eq_false', Bool.and_eq_true, Bool.or_eq_true, Bool.and_eq_false_iff, Bool.or_eq_false_iff, bne_iff_ne, beq_iff_eq, bne_eq_false_iff_eq, beq_eq_false_iff_ne, ne_eq, not_and, Int.not_le, Int.not_lt, ge_iff_le, gt_iff_lt, Nat.not_lt, Nat.not_le, Bool.not_eq_true, Bool.not_eq_false, Bool.true_eq_false, Bool.false_eq_true, not_false_eq_true, not_true_eq_false] at h)
      | exact goes_none.mpr (by omega)
    all_goals first | (exfalso; omega) | (exact goes_inr.mpr (hq.mpr hj).symm)
  | succ k ih =>
    intro i hi hj
    have hw : ∀ {P : Prop}, (R = true → P) → ¬ P → false = R := fun h1 h2 => by cases R; rfl; exact absurd (h1 rfl) h2
    apply Comes.of
    show Goes _ _ _
    (first | rw [q16] | unfold q16)
    repeat' first
      | with_reducible refine goes_if (fun h => ?_) (fun h => ?_) <;> (try simp only [lim64, decide_eq_true_eq, decide_eq_false_iff_not, Int.toNat_natCast, toNat_pred, toNat_succ, Option.getD_some, Option.getD_none, Bool.not_eq_true', Bool.not_eq_false', Bool.and_eq_true, Bool.or_eq_true, Bool.and_eq_false_iff, Bool.or_eq_false_iff, bne_iff_ne, beq_iff_eq, bne_eq_false_iff_eq, beq_eq_false_iff_ne, ne_eq, not_and, Int.not_le, Int.not_lt, ge_iff_le, gt_iff_lt, Nat.not_lt, Nat.not_le, Bool.not_eq_true, Bool.not_eq_false, Bool.true_eq_false, Bool.false_eq_true, not_false_eq_true, not_true_eq_false] at h)
      | exact goes_none.mpr (by omega)
    all_goals first
      | (exfalso; omega)
      | (refine ih (i + 1) (by omega) fun j hlt => ?_
         rcases Nat.lt_or_eq_of_le (Nat.le_of_lt_succ hlt) with h1 | h1
         · exact hj j h1
         · subst h1; simp_all)
      | (refine goes_inr.mpr (hw (fun e => hq.mp e i (by omega)) fun e => ?_); simp_all)
theorem s16 (aa na ma : Nat) (ta : Nat → Int) (ab nb mb : Nat) (tb : Nat → Int) (hp : aa + na ≤ ma ∧ na ≤ 1000000 ∧ ab + nb ≤ mb ∧ nb ≤ 1000000) : Goes ((q16 aa na ma ta ab nb mb tb)) ((p16 aa na ma ta ab nb mb tb)) (decide ((S.mkl na fun j => ta (j + aa)) = (S.mkl nb fun j => tb (j + ab)))) := by
  by_cases he : na = nb
  · have hm := s16' aa na ma ta ab nb mb tb hp he na 0 (by omega) (fun j hj => absurd hj (Nat.not_lt_zero j))
    show Goes _ _ _
    unfold p16
    repeat' first
      | with_reducible refine goes_if (fun h => ?_) (fun h => ?_) <;> (try simp only [lim64, decide_eq_true_eq, decide_eq_false_iff_not, Int.toNat_natCast, toNat_pred, toNat_succ, Option.getD_some, Option.getD_none, Bool.not_eq_true', Bool.not_eq_false', Bool.and_eq_true, Bool.or_eq_true, Bool.and_eq_false_iff, Bool.or_eq_false_iff, bne_iff_ne, beq_iff_eq, bne_eq_false_iff_eq, beq_eq_false_iff_ne, ne_eq, not_and, Int.not_le, Int.not_lt, ge_iff_le, gt_iff_lt, Nat.not_lt, Nat.not_le, Bool.not_eq_true, Bool.not_eq_false, Bool.true_eq_false, Bool.false_eq_true, not_false_eq_true, not_true_eq_false] at h)
      | exact goes_none.mpr (by omega)
    all_goals first | (exfalso; omega) | exact hm
  · have hd : decide ((S.mkl na fun j => ta (j + aa)) = (S.mkl nb fun j => tb (j + ab))) = false := decide_eq_false (fun e => he (mkl_inj.mp e).1)
    rw [hd]
    show Goes _ _ _
    unfold p16
    repeat' first
      | with_reducible refine goes_if (fun h => ?_) (fun h => ?_) <;> (try simp only [lim64, decide_eq_true_eq, decide_eq_false_iff_not, Int.toNat_natCast, toNat_pred, toNat_succ, Option.getD_some, Option.getD_none, Bool.not_eq_true', Bool.not_eq_false', Bool.and_eq_true, Bool.or_eq_true, Bool.and_eq_false_iff, Bool.or_eq_false_iff, bne_iff_ne, beq_iff_eq, bne_eq_false_iff_eq, beq_eq_false_iff_ne, ne_eq, not_and, Int.not_le, Int.not_lt, ge_iff_le, gt_iff_lt, Nat.not_lt, Nat.not_le, Bool.not_eq_true, Bool.not_eq_false, Bool.true_eq_false, Bool.false_eq_true, not_false_eq_true, not_true_eq_false] at h)
      | exact goes_none.mpr (by omega)
    all_goals first | (exfalso; omega) | rfl

theorem k16_ok : k16.ok Try.prog := by
  intro x hx
  obtain ⟨⟨aa, na, ma, ta, _⟩, ⟨ab, nb, mb, tb, _⟩, _⟩ := x
  obtain ⟨h1, h2⟩ := a16 aa na ma ta ab nb mb tb (s16 aa na ma ta ab nb mb tb (of_dec hx rfl))
  exact ⟨⟨400, (by decide : 2 + 1 + 0 ≤ 400), h1⟩, h2⟩
noncomputable def k29 : Con := ⟨29, [.one (.list [.int .i64])], fun (x : (Nat × Nat × Nat × (Nat → Int) × Unit) × Unit) => (fun (aa na ma : Nat) (ta : Nat → Int) => decide (aa + na ≤ ma ∧ na ≤ 1000000)) x.1.1 x.1.2.1 x.1.2.2.1 x.1.2.2.2.1, fun (x : (Nat × Nat × Nat × (Nat → Int) × Unit) × Unit) => (fun (aa na ma : Nat) (ta : Nat → Int) => .own 2 1 na) x.1.1 x.1.2.1 x.1.2.2.1 x.1.2.2.2.1, fun (x : (Nat × Nat × Nat × (Nat → Int) × Unit) × Unit) => (fun (aa na ma : Nat) (ta : Nat → Int) => [.cols na [.int .i64 (fun j => ta (j + aa))]]) x.1.1 x.1.2.1 x.1.2.2.1 x.1.2.2.2.1, fun _ _ => .dead⟩
set_option maxRecDepth 100000 in
theorem e29s (test : Bool → Prop → Prop → Prop) (Kst : List It → List PV → Heap → Nat → Prop) (Kret : PV → Heap → Nat → Prop) (aa na ma : Nat) (ta : Nat → Int) :
  (run test Try.env true noX true 300 ⟨29, [.cd (mkFn Try.f29).body], argT 0 [.sl ⟨0, 1, aa, 0⟩ na], [[], [(0, (false, .cols ma [.int .i64 ta]))]], 1⟩ (proj 1 [] Kst Kret)) =
  (test (decide (0 + na ≤ 1000000))
  (test true
    (test (decide (aa + na ≤ ma))
      (Kret (PV.own (2) (1) (0 + na))
        [[(0, false, Blk.cols ma [Col.int IntKind.i64 ta]),
            (2, true, Blk.cols (0 + na) [Col.int IntKind.i64 fun (j : Nat) => ta (j + aa)])]]
        (3))
      False)
    False)
  False) := by kernel_rfl
theorem c29s (aa na ma : Nat) (ta : Nat → Int) (hp : aa + na ≤ ma ∧ na ≤ 1000000) (h0 : 0 < na) : CallR Try.prog 29 [.sl ⟨0, 1, aa, 0⟩ na] [[(0, (false, .cols ma [.int .i64 ta]))]] 1 (.own 2 1 na) [(2, (true, .cols na [.int .i64 (fun j => ta (j + aa))])) :: [(0, (false, .cols ma [.int .i64 ta]))]] 40 ∧ ∃ F, Try.prog.funcs[29]? = some F ∧ F.body.isSome = true ∧ (F.name == "runtime.NumGoroutine") = false := by
  refine @ret_eq _ _ Try.envOk Try.mixed _ noX_ok 29 (mkFn Try.f29) [.sl ⟨0, 1, aa, 0⟩ na] [[(0, (false, .cols ma [.int .i64 ta]))]] [(2, (true, .cols na [.int .i64 (fun j => ta (j + aa))])) :: [(0, (false, .cols ma [.int .i64 ta]))]] 1 40 (.own 2 1 na) true 300 rfl (by decide) (by simp) (names_of rfl) _ (e29s cond _ _ aa na ma ta) ?_
  repeat' first
    | with_reducible refine cond_yes rfl ?_
    | with_reducible refine cond_no rfl ?_
    | (with_reducible refine cond_intro (fun h => ?_) (fun h => ?_)) <;> (try simp only [lim64, decide_eq_true_eq, decide_eq_false_iff_not, reduceCtorEq, Int.toNat_natCast, Bool.not_eq_true', Bool.not_eq_false', Bool.and_eq_true, Bool.or_eq_true, Bool.and_eq_false_iff, Bool.or_eq_false_iff, bne_iff_ne, beq_iff_eq, bne_eq_false_iff_eq, beq_eq_false_iff_ne, ne_eq] at h)
  all_goals first
    | with_reducible apply ret_k
    | omega
  repeat' first
    | with_reducible exact rns_nil
    | with_reducible refine rns_cons ?_ ?_
    | with_reducible refine rn_tup ?_
    | with_reducible refine rn_agg ?_
    | with_reducible refine rn_int ?_
    | with_reducible refine rn_tf ?_
    | with_reducible refine rn_bool_tf ?_
    | with_reducible refine rn_bool ?_
    | with_reducible refine rn_str ?_
    | with_reducible exact rn_nils
    | with_reducible refine rn_own_nils ?_
    | with_reducible refine rn_own ?_ ?_ ?_
    | with_reducible refine rn_own_sl ?_ ?_ ?_ ?_ ?_
    | with_reducible refine rn_own_loose ?_ ?_ ?_ ?_
    | with_reducible refine rn_loose ?_ ?_ ?_ ?_
    | with_reducible refine rn_loose_sl ?_ ?_ ?_ ?_
    | exact use_lo rfl
    | exact use_own rfl
    | exact nm_k rfl
    | exact nm_lo rfl
    | ((with_reducible refine (id : pos _ = pos _ → _) ?_); exact rfl)
    | ((with_reducible refine (id : pos _ = 0 → _) ?_); exact rfl)
    | ((with_reducible refine (id : Nat.ble _ _ = true → _) ?_); exact rfl)
    | ((with_reducible refine (id : injL _ _ = true → _) ?_); exact rfl)
    | ((with_reducible refine (id : plainC _ = true → _) ?_); exact rfl)
    | ((with_reducible refine (id : hget _ _ = some _ → _) ?_); exact rfl)
    | with_reducible exact (id : (_ : Bool) = true → _ = true)
    | with_reducible exact entl_nil
    | with_reducible refine entl_bor ?_ ?_ ?_ ?_
    | refine entl_new (use_own rfl) (by rfl) ?_ ?_ ?_
    | refine entl_rows (use_own rfl) (by rfl) rfl ?_ (nthc_all ?_) ?_
    | refine entl_zero (use_own rfl) (by rfl) (by simp) (by omega) ?_
    | with_reducible exact rcs_nil
    | with_reducible refine rcs_int (fun j hj => ?_) ?_
    | with_reducible refine rcs_bool (fun j hj => ?_) ?_
    | with_reducible refine rcs_str (fun j hj => ?_) ?_
    | refine entl_fresh (k := 2) (use_own rfl) (fresh_ok (n := 39) rfl) ?_
    | with_reducible rfl
  all_goals try exact (0 : Nat)
  all_goals try ((with_reducible refine (id : injL _ _ = true → _) ?_); exact rfl)
  all_goals first
    | omega
    | skip
set_option maxRecDepth 100000 in
theorem e29z (test : Bool → Prop → Prop → Prop) (Kst : List It → List PV → Heap → Nat → Prop) (Kret : PV → Heap → Nat → Prop) (aa na ma : Nat) (ta : Nat → Int) :
  (run test Try.env true noX true 300 ⟨29, [.cd (mkFn Try.f29).body], argT 0 [.zer true], [[], [(0, (false, .cols ma [.int .i64 ta]))]], 1⟩ (proj 1 [] Kst Kret)) =
  (Kret (PV.own (1) (1) (0))
  [[(0, false, Blk.cols ma [Col.int IntKind.i64 ta]), (1, true, Blk.cells [])]] (2)) := by kernel_rfl
theorem c29z (aa na ma : Nat) (ta : Nat → Int) (hp : aa + na ≤ ma ∧ na ≤ 1000000) (h0 : na = 0) : CallR Try.prog 29 [.zer true] [[(0, (false, .cols ma [.int .i64 ta]))]] 1 (.own 2 1 na) [(2, (true, .cols na [.int .i64 (fun j => ta (j + aa))])) :: [(0, (false, .cols ma [.int .i64 ta]))]] 40 ∧ ∃ F, Try.prog.funcs[29]? = some F ∧ F.body.isSome = true ∧ (F.name == "runtime.NumGoroutine") = false := by
  refine @ret_eq _ _ Try.envOk Try.mixed _ noX_ok 29 (mkFn Try.f29) [.zer true] [[(0, (false, .cols ma [.int .i64 ta]))]] [(2, (true, .cols na [.int .i64 (fun j => ta (j + aa))])) :: [(0, (false, .cols ma [.int .i64 ta]))]] 1 40 (.own 2 1 na) true 300 rfl (by decide) (by simp) (names_of rfl) _ (e29z cond _ _ aa na ma ta) ?_
  repeat' first
    | with_reducible refine cond_yes rfl ?_
    | with_reducible refine cond_no rfl ?_
    | (with_reducible refine cond_intro (fun h => ?_) (fun h => ?_)) <;> (try simp only [lim64, decide_eq_true_eq, decide_eq_false_iff_not, reduceCtorEq, Int.toNat_natCast, Bool.not_eq_true', Bool.not_eq_false', Bool.and_eq_true, Bool.or_eq_true, Bool.and_eq_false_iff, Bool.or_eq_false_iff, bne_iff_ne, beq_iff_eq, bne_eq_false_iff_eq, beq_eq_false_iff_ne, ne_eq] at h)
  all_goals first
    | with_reducible apply ret_k
    | omega
  repeat' first
    | with_reducible exact rns_nil
    | with_reducible refine rns_cons ?_ ?_
    | with_reducible refine rn_tup ?_
    | with_reducible refine rn_agg ?_
    | with_reducible refine rn_int ?_
    | with_reducible refine rn_tf ?_
    | with_reducible refine rn_bool_tf ?_
    | with_reducible refine rn_bool ?_
    | with_reducible refine rn_str ?_
    | with_reducible exact rn_nils
    | with_reducible refine rn_own_nils ?_
    | with_reducible refine rn_own ?_ ?_ ?_
    | with_reducible refine rn_own_sl ?_ ?_ ?_ ?_ ?_
    | with_reducible refine rn_own_loose ?_ ?_ ?_ ?_
    | with_reducible refine rn_loose ?_ ?_ ?_ ?_
    | with_reducible refine rn_loose_sl ?_ ?_ ?_ ?_
    | exact use_lo rfl
    | exact use_own rfl
    | exact nm_k rfl
    | exact nm_lo rfl
    | ((with_reducible refine (id : pos _ = pos _ → _) ?_); exact rfl)
    | ((with_reducible refine (id : pos _ = 0 → _) ?_); exact rfl)
    | ((with_reducible refine (id : Nat.ble _ _ = true → _) ?_); exact rfl)
    | ((with_reducible refine (id : injL _ _ = true → _) ?_); exact rfl)
    | ((with_reducible refine (id : plainC _ = true → _) ?_); exact rfl)
    | ((with_reducible refine (id : hget _ _ = some _ → _) ?_); exact rfl)
    | with_reducible exact (id : (_ : Bool) = true → _ = true)
    | with_reducible exact entl_nil
    | with_reducible refine entl_bor ?_ ?_ ?_ ?_
    | refine entl_new (use_own rfl) (by rfl) ?_ ?_ ?_
    | refine entl_rows (use_own rfl) (by rfl) rfl ?_ (nthc_all ?_) ?_
    | refine entl_zero (use_own rfl) (by rfl) (by simp) (by omega) ?_
    | with_reducible exact rcs_nil
    | with_reducible refine rcs_int (fun j hj => ?_) ?_
    | with_reducible refine rcs_bool (fun j hj => ?_) ?_
    | with_reducible refine rcs_str (fun j hj => ?_) ?_
    | refine entl_fresh (k := 2) (use_own rfl) (fresh_ok (n := 39) rfl) ?_
    | with_reducible rfl
  all_goals try exact (0 : Nat)
  all_goals try ((with_reducible refine (id : injL _ _ = true → _) ?_); exact rfl)
  all_goals first
    | omega
    | skip
set_option maxRecDepth 100000 in
theorem e29y (test : Bool → Prop → Prop → Prop) (Kst : List It → List PV → Heap → Nat → Prop) (Kret : PV → Heap → Nat → Prop) (aa na ma : Nat) (ta : Nat → Int) :
  (run test Try.env true noX true 300 ⟨29, [.cd (mkFn Try.f29).body], argT 0 [.zer false], [[], [(0, (false, .cols ma [.int .i64 ta]))]], 1⟩ (proj 1 [] Kst Kret)) =
  (Kret PV.nils [[(0, false, Blk.cols ma [Col.int IntKind.i64 ta])]] (1)) := by kernel_rfl
theorem c29y (aa na ma : Nat) (ta : Nat → Int) (hp : aa + na ≤ ma ∧ na ≤ 1000000) (h0 : na = 0) : CallR Try.prog 29 [.zer false] [[(0, (false, .cols ma [.int .i64 ta]))]] 1 (.own 2 1 na) [(2, (true, .cols na [.int .i64 (fun j => ta (j + aa))])) :: [(0, (false, .cols ma [.int .i64 ta]))]] 40 ∧ ∃ F, Try.prog.funcs[29]? = some F ∧ F.body.isSome = true ∧ (F.name == "runtime.NumGoroutine") = false := by
  refine @ret_eq _ _ Try.envOk Try.mixed _ noX_ok 29 (mkFn Try.f29) [.zer false] [[(0, (false, .cols ma [.int .i64 ta]))]] [(2, (true, .cols na [.int .i64 (fun j => ta (j + aa))])) :: [(0, (false, .cols ma [.int .i64 ta]))]] 1 40 (.own 2 1 na) true 300 rfl (by decide) (by simp) (names_of rfl) _ (e29y cond _ _ aa na ma ta) ?_
  repeat' first
    | with_reducible refine cond_yes rfl ?_
    | with_reducible refine cond_no rfl ?_
    | (with_reducible refine cond_intro (fun h => ?_) (fun h => ?_)) <;> (try simp only [lim64, decide_eq_true_eq, decide_eq_false_iff_not, reduceCtorEq, Int.toNat_natCast, Bool.not_eq_true', Bool.not_eq_false', Bool.and_eq_true, Bool.or_eq_true, Bool.and_eq_false_iff, Bool.or_eq_false_iff, bne_iff_ne, beq_iff_eq, bne_eq_false_iff_eq, beq_eq_false_iff_ne, ne_eq] at h)
  all_goals first
    | with_reducible apply ret_k
    | omega
  repeat' first
    | with_reducible exact rns_nil
    | with_reducible refine rns_cons ?_ ?_
    | with_reducible refine rn_tup ?_
    | with_reducible refine rn_agg ?_
    | with_reducible refine rn_int ?_
    | with_reducible refine rn_tf ?_
    | with_reducible refine rn_bool_tf ?_
    | with_reducible refine rn_bool ?_
    | with_reducible refine rn_str ?_
    | with_reducible exact rn_nils
    | with_reducible refine rn_own_nils ?_
    | with_reducible refine rn_own ?_ ?_ ?_
    | with_reducible refine rn_own_sl ?_ ?_ ?_ ?_ ?_
    | with_reducible refine rn_own_loose ?_ ?_ ?_ ?_
    | with_reducible refine rn_loose ?_ ?_ ?_ ?_
    | with_reducible refine rn_loose_sl ?_ ?_ ?_ ?_
    | exact use_lo rfl
    | exact use_own rfl
    | exact nm_k rfl
    | exact nm_lo rfl
    | ((with_reducible refine (id : pos _ = pos _ → _) ?_); exact rfl)
    | ((with_reducible refine (id : pos _ = 0 → _) ?_); exact rfl)
    | ((with_reducible refine (id : Nat.ble _ _ = true → _) ?_); exact rfl)
    | ((with_reducible refine (id : injL _ _ = true → _) ?_); exact rfl)
    | ((with_reducible refine (id : plainC _ = true → _) ?_); exact rfl)
    | ((with_reducible refine (id : hget _ _ = some _ → _) ?_); exact rfl)
    | with_reducible exact (id : (_ : Bool) = true → _ = true)
    | with_reducible exact entl_nil
    | with_reducible refine entl_bor ?_ ?_ ?_ ?_
    | refine entl_new (use_own rfl) (by rfl) ?_ ?_ ?_
    | refine entl_rows (use_own rfl) (by rfl) rfl ?_ (nthc_all ?_) ?_
    | refine entl_zero (use_own rfl) (by rfl) (by simp) (by omega) ?_
    | with_reducible exact rcs_nil
    | with_reducible refine rcs_int (fun j hj => ?_) ?_
    | with_reducible refine rcs_bool (fun j hj => ?_) ?_
    | with_reducible refine rcs_str (fun j hj => ?_) ?_
    | refine entl_fresh (k := 2) (use_own rfl) (fresh_ok (n := 39) rfl) ?_
    | with_reducible rfl
  all_goals try exact (0 : Nat)
  all_goals try ((with_reducible refine (id : injL _ _ = true → _) ?_); exact rfl)
  all_goals first
    | omega
    | skip
theorem c29 (aa na ma : Nat) (ta : Nat → Int) (hp : aa + na ≤ ma ∧ na ≤ 1000000) : CallR Try.prog 29 [.loose ⟨0, 1, aa, 0⟩ na] [[(0, (false, .cols ma [.int .i64 ta]))]] 1 (.own 2 1 na) [(2, (true, .cols na [.int .i64 (fun j => ta (j + aa))])) :: [(0, (false, .cols ma [.int .i64 ta]))]] 40 ∧ ∃ F, Try.prog.funcs[29]? = some F ∧ F.body.isSome = true ∧ (F.name == "runtime.NumGoroutine") = false :=
  ⟨loose_cases (fun h => (c29s aa na ma ta hp h).1) (fun h b => by cases b; exact (c29y aa na ma ta hp h).1; exact (c29z aa na ma ta hp h).1), by
    rcases Nat.eq_zero_or_pos na with h | h
    · exact (c29y aa na ma ta hp h).2
    · exact (c29s aa na ma ta hp h).2⟩
theorem k29_ok : k29.ok Try.prog := by
  intro x hx
  obtain ⟨⟨aa, na, ma, ta, _⟩, _⟩ := x
  have hp : aa + na ≤ ma ∧ na ≤ 1000000 := of_decide_eq_true hx
  obtain ⟨h1, h2⟩ := c29 aa na ma ta hp
  exact ⟨⟨40, (by decide : 1 + 1 + 1 ≤ 40), h1⟩, h2⟩
noncomputable def k45 : Con := ⟨45, [.one (.list [.int .i64, .int .i64, .int .i64])], fun (x : (Nat × Nat × Nat × (Nat → Int) × (Nat → Int) × (Nat → Int) × Unit) × Unit) => (fun (aa na ma : Nat) (ta : Nat → Int) (va : Nat → Int) (ga : Nat → Int) => decide (aa + na ≤ ma ∧ na ≤ 1000000)) x.1.1 x.1.2.1 x.1.2.2.1 x.1.2.2.2.1 x.1.2.2.2.2.1 x.1.2.2.2.2.2.1, fun (x : (Nat × Nat × Nat × (Nat → Int) × (Nat → Int) × (Nat → Int) × Unit) × Unit) => (fun (aa na ma : Nat) (ta : Nat → Int) (va : Nat → Int) (ga : Nat → Int) => .own 2 3 na) x.1.1 x.1.2.1 x.1.2.2.1 x.1.2.2.2.1 x.1.2.2.2.2.1 x.1.2.2.2.2.2.1, fun (x : (Nat × Nat × Nat × (Nat → Int) × (Nat → Int) × (Nat → Int) × Unit) × Unit) => (fun (aa na ma : Nat) (ta : Nat → Int) (va : Nat → Int) (ga : Nat → Int) => [.cols na [.int .i64 (fun j => ta (j + aa)), .int .i64 (fun j => va (j + aa)), .int .i64 (fun j => ga (j + aa))]]) x.1.1 x.1.2.1 x.1.2.2.1 x.1.2.2.2.1 x.1.2.2.2.2.1 x.1.2.2.2.2.2.1, fun _ _ => .dead⟩
set_option maxRecDepth 100000 in
theorem e45s (test : Bool → Prop → Prop → Prop) (Kst : List It → List PV → Heap → Nat → Prop) (Kret : PV → Heap → Nat → Prop) (aa na ma : Nat) (ta : Nat → Int) (va : Nat → Int) (ga : Nat → Int) :
  (run test Try.env true noX true 300 ⟨45, [.cd (mkFn Try.f45).body], argT 0 [.sl ⟨0, 3, aa, 0⟩ na], [[], [(0, (false, .cols ma [.int .i64 ta, .int .i64 va, .int .i64 ga]))]], 1⟩ (proj 1 [] Kst Kret)) =
  (test (decide (0 + na ≤ 1000000))
  (test true
    (test (decide (aa + na ≤ ma))
      (Kret (PV.own (2) (3) (0 + na))
        [[(0, false, Blk.cols ma [Col.int IntKind.i64 ta, Col.int IntKind.i64 va, Col.int IntKind.i64 ga]),
            (2, true,
              Blk.cols (0 + na)
                [Col.int IntKind.i64 fun (j : Nat) => ta (j + aa), Col.int IntKind.i64 fun (j : Nat) => va (j + aa),
                  Col.int IntKind.i64 fun (j : Nat) => ga (j + aa)])]]
        (3))
      False)
    False)
  False) := by kernel_rfl
theorem c45s (aa na ma : Nat) (ta : Nat → Int) (va : Nat → Int) (ga : Nat → Int) (hp : aa + na ≤ ma ∧ na ≤ 1000000) (h0 : 0 < na) : CallR Try.prog 45 [.sl ⟨0, 3, aa, 0⟩ na] [[(0, (false, .cols ma [.int .i64 ta, .int .i64 va, .int .i64 ga]))]] 1 (.own 2 3 na) [(2, (true, .cols na [.int .i64 (fun j => ta (j + aa)), .int .i64 (fun j => va (j + aa)), .int .i64 (fun j => ga (j + aa))])) :: [(0, (false, .cols ma [.int .i64 ta, .int .i64 va, .int .i64 ga]))]] 40 ∧ ∃ F, Try.prog.funcs[45]? = some F ∧ F.body.isSome = true ∧ (F.name == "runtime.NumGoroutine") = false := by
  refine @ret_eq _ _ Try.envOk Try.mixed _ noX_ok 45 (mkFn Try.f45) [.sl ⟨0, 3, aa, 0⟩ na] [[(0, (false, .cols ma [.int .i64 ta, .int .i64 va, .int .i64 ga]))]] [(2, (true, .cols na [.int .i64 (fun j => ta (j + aa)), .int .i64 (fun j => va (j + aa)), .int .i64 (fun j => ga (j + aa))])) :: [(0, (false, .cols ma [.int .i64 ta, .int .i64 va, .int .i64 ga]))]] 1 40 (.own 2 3 na) true 300 rfl (by decide) (by simp) (names_of rfl) _ (e45s cond _ _ aa na ma ta va ga) ?_
  repeat' first
    | with_reducible refine cond_yes rfl ?_
    | with_reducible refine cond_no rfl ?_
    | (with_reducible refine cond_intro (fun h => ?_) (fun h => ?_)) <;> (try simp only [lim64, decide_eq_true_eq, decide_eq_false_iff_not, reduceCtorEq, Int.toNat_natCast, Bool.not_eq_true', Bool.not_eq_false', Bool.and_eq_true, Bool.or_eq_true, Bool.and_eq_false_iff, Bool.or_eq_false_iff, bne_iff_ne, beq_iff_eq, bne_eq_false_iff_eq, beq_eq_false_iff_ne, ne_eq] at h)
  all_goals first
    | with_reducible apply ret_k
    | omega
  repeat' first
    | with_reducible exact rns_nil
    | with_reducible refine rns_cons ?_ ?_
    | with_reducible refine rn_tup ?_
    | with_reducible refine rn_agg ?_
    | with_reducible refine rn_int ?_
    | with_reducible refine rn_tf ?_
    | with_reducible refine rn_bool_tf ?_
    | with_reducible refine rn_bool ?_
    | with_reducible refine rn_str ?_
    | with_reducible exact rn_nils
    | with_reducible refine rn_own_nils ?_
    | with_reducible refine rn_own ?_ ?_ ?_
    | with_reducible refine rn_own_sl ?_ ?_ ?_ ?_ ?_
    | with_reducible refine rn_own_loose ?_ ?_ ?_ ?_
    | with_reducible refine rn_loose ?_ ?_ ?_ ?_
    | with_reducible refine rn_loose_sl ?_ ?_ ?_ ?_
    | exact use_lo rfl
    | exact use_own rfl
    | exact nm_k rfl
    | exact nm_lo rfl
    | ((with_reducible refine (id : pos _ = pos _ → _) ?_); exact rfl)
    | ((with_reducible refine (id : pos _ = 0 → _) ?_); exact rfl)
    | ((with_reducible refine (id : Nat.ble _ _ = true → _) ?_); exact rfl)
    | ((with_reducible refine (id : injL _ _ = true → _) ?_); exact rfl)
    | ((with_reducible refine (id : plainC _ = true → _) ?_); exact rfl)
    | ((with_reducible refine (id : hget _ _ = some _ → _) ?_); exact rfl)
    | with_reducible exact (id : (_ : Bool) = true → _ = true)
    | with_reducible exact entl_nil
    | with_reducible refine entl_bor ?_ ?_ ?_ ?_
    | refine entl_new (use_own rfl) (by rfl) ?_ ?_ ?_
    | refine entl_rows (use_own rfl) (by rfl) rfl ?_ (nthc_all ?_) ?_
    | refine entl_zero (use_own rfl) (by rfl) (by simp) (by omega) ?_
    | with_reducible exact rcs_nil
    | with_reducible refine rcs_int (fun j hj => ?_) ?_
    | with_reducible refine rcs_bool (fun j hj => ?_) ?_
    | with_reducible refine rcs_str (fun j hj => ?_) ?_
    | refine entl_fresh (k := 2) (use_own rfl) (fresh_ok (n := 39) rfl) ?_
    | with_reducible rfl
  all_goals try exact (0 : Nat)
  all_goals try ((with_reducible refine (id : injL _ _ = true → _) ?_); exact rfl)
  all_goals first
    | omega
    | skip
set_option maxRecDepth 100000 in
theorem e45z (test : Bool → Prop → Prop → Prop) (Kst : List It → List PV → Heap → Nat → Prop) (Kret : PV → Heap → Nat → Prop) (aa na ma : Nat) (ta : Nat → Int) (va : Nat → Int) (ga : Nat → Int) :
  (run test Try.env true noX true 300 ⟨45, [.cd (mkFn Try.f45).body], argT 0 [.zer true], [[], [(0, (false, .cols ma [.int .i64 ta, .int .i64 va, .int .i64 ga]))]], 1⟩ (proj 1 [] Kst Kret)) =
  (Kret (PV.own (1) (3) (0))
  [[(0, false, Blk.cols ma [Col.int IntKind.i64 ta, Col.int IntKind.i64 va, Col.int IntKind.i64 ga]),
      (1, true, Blk.cells [])]]
  (2)) := by kernel_rfl
theorem c45z (aa na ma : Nat) (ta : Nat → Int) (va : Nat → Int) (ga : Nat → Int) (hp : aa + na ≤ ma ∧ na ≤ 1000000) (h0 : na = 0) : CallR Try.prog 45 [.zer true] [[(0, (false, .cols ma [.int .i64 ta, .int .i64 va, .int .i64 ga]))]] 1 (.own 2 3 na) [(2, (true, .cols na [.int .i64 (fun j => ta (j + aa)), .int .i64 (fun j => va (j + aa)), .int .i64 (fun j => ga (j + aa))])) :: [(0, (false, .cols ma [.int .i64 ta, .int .i64 va, .int .i64 ga]))]] 40 ∧ ∃ F, Try.prog.funcs[45]? = some F ∧ F.body.isSome = true ∧ (F.name == "runtime.NumGoroutine") = false := by
  refine @ret_eq _ _ Try.envOk Try.mixed _ noX_ok 45 (mkFn Try.f45) [.zer true] [[(0, (false, .cols ma [.int .i64 ta, .int .i64 va, .int .i64 ga]))]] [(2, (true, .cols na [.int .i64 (fun j => ta (j + aa)), .int .i64 (fun j => va (j + aa)), .int .i64 (fun j => ga (j + aa))])) :: [(0, (false, .cols ma [.int .i64 ta, .int .i64 va, .int .i64 ga]))]] 1 40 (.own 2 3 na) true 300 rfl (by decide) (by simp) (names_of rfl) _ (e45z cond _ _ aa na ma ta va ga) ?_
  repeat' first
    | with_reducible refine cond_yes rfl ?_
    | with_reducible refine cond_no rfl ?_
    | (with_reducible refine cond_intro (fun h => ?_) (fun h => ?_)) <;> (try simp only [lim64, decide_eq_true_eq, decide_eq_false_iff_not, reduceCtorEq, Int.toNat_natCast, Bool.not_eq_true', Bool.not_eq_false', Bool.and_eq_true, Bool.or_eq_true, Bool.and_eq_false_iff, Bool.or_eq_false_iff, bne_iff_ne, beq_iff_eq, bne_eq_false_iff_eq, beq_eq_false_iff_ne, ne_eq] at h)
  all_goals first
    | with_reducible apply ret_k
    | omega
  repeat' first
    | with_reducible exact rns_nil
    | with_reducible refine rns_cons ?_ ?_
    | with_reducible refine rn_tup ?_
    | with_reducible refine rn_agg ?_
    | with_reducible refine rn_int ?_
    | with_reducible refine rn_tf ?_
    | with_reducible refine rn_bool_tf ?_
    | with_reducible refine rn_bool ?_
    | with_reducible refine rn_str ?_
    | with_reducible exact rn_nils
    | with_reducible refine rn_own_nils ?_
    | with_reducible refine rn_own ?_ ?_ ?_
    | with_reducible refine rn_own_sl ?_ ?_ ?_ ?_ ?_
    | with_reducible refine rn_own_loose ?_ ?_ ?_ ?_
    | with_reducible refine rn_loose ?_ ?_ ?_ ?_
    | with_reducible refine rn_loose_sl ?_ ?_ ?_ ?_
    | exact use_lo rfl
    | exact use_own rfl
    | exact nm_k rfl
    | exact nm_lo rfl
    | ((with_reducible refine (id : pos _ = pos _ → _) ?_); exact rfl)
    | ((with_reducible refine (id : pos _ = 0 → _) ?_); exact rfl)
    | ((with_reducible refine (id : Nat.ble _ _ = true → _) ?_); exact rfl)
    | ((with_reducible refine (id : injL _ _ = true → _) ?_); exact rfl)
    | ((with_reducible refine (id : plainC _ = true → _) ?_); exact rfl)
    | ((with_reducible refine (id : hget _ _ = some _ → _) ?_); exact rfl)
    | with_reducible exact (id : (_ : Bool) = true → _ = true)
    | with_reducible exact entl_nil
    | with_reducible refine entl_bor ?_ ?_ ?_ ?_
    | refine entl_new (use_own rfl) (by rfl) ?_ ?_ ?_
    | refine entl_rows (use_own rfl) (by rfl) rfl ?_ (nthc_all ?_) ?_
    | refine entl_zero (use_own rfl) (by rfl) (by simp) (by omega) ?_
    | with_reducible exact rcs_nil
    | with_reducible refine rcs_int (fun j hj => ?_) ?_
    | with_reducible refine rcs_bool (fun j hj => ?_) ?_
    | with_reducible refine rcs_str (fun j hj => ?_) ?_
    | refine entl_fresh (k := 2) (use_own rfl) (fresh_ok (n := 39) rfl) ?_
    | with_reducible rfl
  all_goals try exact (0 : Nat)
  all_goals try ((with_reducible refine (id : injL _ _ = true → _) ?_); exact rfl)
  all_goals first
    | omega
    | skip
set_option maxRecDepth 100000 in
theorem e45y (test : Bool → Prop → Prop → Prop) (Kst : List It → List PV → Heap → Nat → Prop) (Kret : PV → Heap → Nat → Prop) (aa na ma : Nat) (ta : Nat → Int) (va : Nat → Int) (ga : Nat → Int) :
  (run test Try.env true noX true 300 ⟨45, [.cd (mkFn Try.f45).body], argT 0 [.zer false], [[], [(0, (false, .cols ma [.int .i64 ta, .int .i64 va, .int .i64 ga]))]], 1⟩ (proj 1 [] Kst Kret)) =
  (Kret PV.nils
  [[(0, false, Blk.cols ma [Col.int IntKind.i64 ta, Col.int IntKind.i64 va, Col.int IntKind.i64 ga])]]
  (1)) := by kernel_rfl
theorem c45y (aa na ma : Nat) (ta : Nat → Int) (va : Nat → Int) (ga : Nat → Int) (hp : aa + na ≤ ma ∧ na ≤ 1000000) (h0 : na = 0) : CallR Try.prog 45 [.zer false] [[(0, (false, .cols ma [.int .i64 ta, .int .i64 va, .int .i64 ga]))]] 1 (.own 2 3 na) [(2, (true, .cols na [.int .i64 (fun j => ta (j + aa)), .int .i64 (fun j => va (j + aa)), .int .i64 (fun j => ga (j + aa))])) :: [(0, (false, .cols ma [.int .i64 ta, .int .i64 va, .int .i64 ga]))]] 40 ∧ ∃ F, Try.prog.funcs[45]? = some F ∧ F.body.isSome = true ∧ (F.name == "runtime.NumGoroutine") = false := by
  refine @ret_eq _ _ Try.envOk Try.mixed _ noX_ok 45 (mkFn Try.f45) [.zer false] [[(0, (false, .cols ma [.int .i64 ta, .int .i64 va, .int .i64 ga]))]] [(2, (true, .cols na [.int .i64 (fun j => ta (j + aa)), .int .i64 (fun j => va (j + aa)), .int .i64 (fun j => ga (j + aa))])) :: [(0, (false, .cols ma [.int .i64 ta, .int .i64 va, .int .i64 ga]))]] 1 40 (.own 2 3 na) true 300 rfl (by decide) (by simp) (names_of rfl) _ (e45y cond _ _ aa na ma ta va ga) ?_
  repeat' first
    | with_reducible refine cond_yes rfl ?_
    | with_reducible refine cond_no rfl ?_
    | (with_reducible refine cond_intro (fun h => ?_) (fun h => ?_)) <;> (try simp only [lim64, decide_eq_true_eq, decide_eq_false_iff_not, reduceCtorEq, Int.toNat_natCast, Bool.not_eq_true', Bool.not_eq_false', Bool.and_eq_true, Bool.or_eq_true, Bool.and_eq_false_iff, Bool.or_eq_false_iff, bne_iff_ne, beq_iff_eq, bne_eq_false_iff_eq, beq_eq_false_iff_ne, ne_eq] at h)
  all_goals first
    | with_reducible apply ret_k
    | omega
  repeat' first
    | with_reducible exact rns_nil
    | with_reducible refine rns_cons ?_ ?_
    | with_reducible refine rn_tup ?_
    | with_reducible refine rn_agg ?_
    | with_reducible refine rn_int ?_
    | with_reducible refine rn_tf ?_
    | with_reducible refine rn_bool_tf ?_
    | with_reducible refine rn_bool ?_
    | with_reducible refine rn_str ?_
    | with_reducible exact rn_nils
    | with_reducible refine rn_own_nils ?_
    | with_reducible refine rn_own ?_ ?_ ?_
    | with_reducible refine rn_own_sl ?_ ?_ ?_ ?_ ?_
    | with_reducible refine rn_own_loose ?_ ?_ ?_ ?_
    | with_reducible refine rn_loose ?_ ?_ ?_ ?_
    | with_reducible refine rn_loose_sl ?_ ?_ ?_ ?_
    | exact use_lo rfl
    | exact use_own rfl
    | exact nm_k rfl
    | exact nm_lo rfl
    | ((with_reducible refine (id : pos _ = pos _ → _) ?_); exact rfl)
    | ((with_reducible refine (id : pos _ = 0 → _) ?_); exact rfl)
    | ((with_reducible refine (id : Nat.ble _ _ = true → _) ?_); exact rfl)
    | ((with_reducible refine (id : injL _ _ = true → _) ?_); exact rfl)
    | ((with_reducible refine (id : plainC _ = true → _) ?_); exact rfl)
    | ((with_reducible refine (id : hget _ _ = some _ → _) ?_); exact rfl)
    | with_reducible exact (id : (_ : Bool) = true → _ = true)
    | with_reducible exact entl_nil
    | with_reducible refine entl_bor ?_ ?_ ?_ ?_
    | refine entl_new (use_own rfl) (by rfl) ?_ ?_ ?_
    | refine entl_rows (use_own rfl) (by rfl) rfl ?_ (nthc_all ?_) ?_
    | refine entl_zero (use_own rfl) (by rfl) (by simp) (by omega) ?_
    | with_reducible exact rcs_nil
    | with_reducible refine rcs_int (fun j hj => ?_) ?_
    | with_reducible refine rcs_bool (fun j hj => ?_) ?_
    | with_reducible refine rcs_str (fun j hj => ?_) ?_
    | refine entl_fresh (k := 2) (use_own rfl) (fresh_ok (n := 39) rfl) ?_
    | with_reducible rfl
  all_goals try exact (0 : Nat)
  all_goals try ((with_reducible refine (id : injL _ _ = true → _) ?_); exact rfl)
  all_goals first
    | omega
    | skip
theorem c45 (aa na ma : Nat) (ta : Nat → Int) (va : Nat → Int) (ga : Nat → Int) (hp : aa + na ≤ ma ∧ na ≤ 1000000) : CallR Try.prog 45 [.loose ⟨0, 3, aa, 0⟩ na] [[(0, (false, .cols ma [.int .i64 ta, .int .i64 va, .int .i64 ga]))]] 1 (.own 2 3 na) [(2, (true, .cols na [.int .i64 (fun j => ta (j + aa)), .int .i64 (fun j => va (j + aa)), .int .i64 (fun j => ga (j + aa))])) :: [(0, (false, .cols ma [.int .i64 ta, .int .i64 va, .int .i64 ga]))]] 40 ∧ ∃ F, Try.prog.funcs[45]? = some F ∧ F.body.isSome = true ∧ (F.name == "runtime.NumGoroutine") = false :=
  ⟨loose_cases (fun h => (c45s aa na ma ta va ga hp h).1) (fun h b => by cases b; exact (c45y aa na ma ta va ga hp h).1; exact (c45z aa na ma ta va ga hp h).1), by
    rcases Nat.eq_zero_or_pos na with h | h
    · exact (c45y aa na ma ta va ga hp h).2
    · exact (c45s aa na ma ta va ga hp h).2⟩
theorem k45_ok : k45.ok Try.prog := by
  intro x hx
  obtain ⟨⟨aa, na, ma, ta, va, ga, _⟩, _⟩ := x
  have hp : aa + na ≤ ma ∧ na ≤ 1000000 := of_decide_eq_true hx
  obtain ⟨h1, h2⟩ := c45 aa na ma ta va ga hp
  exact ⟨⟨40, (by decide : 1 + 1 + 1 ≤ 40), h1⟩, h2⟩

end Go.Ev
