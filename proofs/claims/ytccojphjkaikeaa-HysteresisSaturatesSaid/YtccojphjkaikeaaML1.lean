/-
  Lists: equal, index.
-/
import Derived.Test.YtccojphjkaikeaaML0
namespace Go.Ev
open Go.Proofs
set_option linter.unusedVariables false
set_option linter.unusedSimpArgs false
set_option maxRecDepth 100000
inductive St28 where
  | h0 (x0 : Int)
abbrev Rt28 := Bool
noncomputable def V28 (aa na ma : Nat) (ta : Nat → Int) (ab nb mb : Nat) (tb : Nat → Int) (r : Rt28) : PV := PV.bool r
noncomputable def N28 (aa na ma : Nat) (ta : Nat → Int) (ab nb mb : Nat) (tb : Nat → Int) (r : Rt28) : List Blk := []
noncomputable def I28 (aa na ma : Nat) (ta : Nat → Int) (ab nb mb : Nat) (tb : Nat → Int) : St28 → Hd
  | .h0 x0 => ⟨hd Try.f28 0, [PV.loose (PA.mk (0) (1) aa (0)) na,
 PV.loose (PA.mk (1) (1) ab (0)) nb, PV.int IntKind.i64 (↑na : Int),
 PV.int IntKind.i64 x0], [[], [(0, (false, .cols ma [.int .i64 ta])), (1, (false, .cols mb [.int .i64 tb]))]], 2⟩
noncomputable def q28 (aa na ma : Nat) (ta : Nat → Int) (ab nb mb : Nat) (tb : Nat → Int) : St28 → Option (St28 ⊕ Rt28)
  | .h0 x0 => bif (decide (x0 < (↑na : Int)))
 then (bif (decide ((0 : Int) ≤ x0 ∧ x0 < (↑na : Int)))
 then (bif (decide (Int.toNat x0 + aa < ma))
 then (bif (decide ((0 : Int) ≤ x0 ∧ x0 < (↑nb : Int)))
 then (bif (decide (Int.toNat x0 + ab < mb))
 then (bif (ta (Int.toNat x0 + aa) != tb (Int.toNat x0 + ab))
 then (some (.inr (false)))
 else (bif (lim IntKind.i64 (x0 + (1 : Int)))
 then (some (.inl (.h0 (x0 + (1 : Int)))))
 else (none)))
 else (none))
 else (none))
 else (none))
 else (none))
 else (some (.inr (true)))
noncomputable def p28 (aa na ma : Nat) (ta : Nat → Int) (ab nb mb : Nat) (tb : Nat → Int) : Option (St28 ⊕ Rt28) := bif ((↑na : Int) != (↑nb : Int))
 then (some (.inr (false)))
 else (some (.inl (.h0 ((0 : Int)))))
noncomputable def Te28 (test : Bool → Prop → Prop → Prop) (Kst : KS) (Kret : KR) (aa na ma : Nat) (ta : Nat → Int) (ab nb mb : Nat) (tb : Nat → Int) : Prop :=
  test ((↑na : Int) != (↑nb : Int))
 (Kret (PV.tf false) ([[(1, false, Blk.cols mb [Col.int IntKind.i64 tb]),
 (0, false, Blk.cols ma [Col.int IntKind.i64 ta])]]) (2))
 (Kst (hd Try.f28 0) ([PV.loose (PA.mk (0) (1) aa (0)) na,
 PV.loose (PA.mk (1) (1) ab (0)) nb, PV.int IntKind.i64 (↑na : Int),
 PV.int IntKind.i64 (0 : Int)]) ([[(1, false, Blk.cols mb [Col.int IntKind.i64 tb]),
 (0, false, Blk.cols ma [Col.int IntKind.i64 ta])]]) (2))
set_option maxRecDepth 100000 in
theorem te28 (test : Bool → Prop → Prop → Prop) (Kst : KS) (Kret : KR) (aa na ma : Nat) (ta : Nat → Int) (ab nb mb : Nat) (tb : Nat → Int) : run test Try.env true noX true 400 ⟨28, [.cd (mkFn Try.f28).body], argT 0 [.loose ⟨0, 1, aa, 0⟩ na, .loose ⟨1, 1, ab, 0⟩ nb], [[], [(0, (false, .cols ma [.int .i64 ta])), (1, (false, .cols mb [.int .i64 tb]))]], 2⟩ (proj 2 [0, 1, 12, 13] Kst Kret) =
  Te28 test Kst Kret aa na ma ta ab nb mb tb := by kernel_rfl
noncomputable def T28_0 (test : Bool → Prop → Prop → Prop) (Kst : KS) (Kret : KR) (aa na ma : Nat) (ta : Nat → Int) (ab nb mb : Nat) (tb : Nat → Int) (x0 : Int) : Prop :=
  test (decide (x0 < (↑na : Int)))
 (test (decide ((0 : Int) ≤ x0 ∧ x0 < (↑na : Int)))
 (test (decide (Int.toNat x0 + aa < ma))
 (test (decide ((0 : Int) ≤ x0 ∧ x0 < (↑nb : Int)))
 (test (decide (Int.toNat x0 + ab < mb))
 (test (ta (Int.toNat x0 + aa) != tb (Int.toNat x0 + ab))
 (Kret (PV.tf false) ([[(1, false, Blk.cols mb [Col.int IntKind.i64 tb]),
 (0, false, Blk.cols ma [Col.int IntKind.i64 ta])]]) (2))
 (test (lim IntKind.i64 (x0 + (1 : Int)))
 (Kst (hd Try.f28 0) ([PV.loose (PA.mk (0) (1) aa (0)) na,
 PV.loose (PA.mk (1) (1) ab (0)) nb, PV.int IntKind.i64 (↑na : Int),
 PV.int IntKind.i64 (x0 + (1 : Int))]) ([[(1, false, Blk.cols mb [Col.int IntKind.i64 tb]),
 (0, false, Blk.cols ma [Col.int IntKind.i64 ta])]]) (2))
 (False)))
 (False))
 (False))
 (False))
 (False))
 (Kret (PV.tf true) ([[(1, false, Blk.cols mb [Col.int IntKind.i64 tb]),
 (0, false, Blk.cols ma [Col.int IntKind.i64 ta])]]) (2))
set_option maxRecDepth 100000 in
theorem t28_0 (test : Bool → Prop → Prop → Prop) (Kst : KS) (Kret : KR) (aa na ma : Nat) (ta : Nat → Int) (ab nb mb : Nat) (tb : Nat → Int) (x0 : Int) : run test Try.env true noX true 400 ⟨28, hd Try.f28 0, zipT [0, 1, 12, 13] [PV.loose (PA.mk (0) (1) aa (0)) na,
 PV.loose (PA.mk (1) (1) ab (0)) nb, PV.int IntKind.i64 (↑na : Int),
 PV.int IntKind.i64 x0], [[], [(0, (false, .cols ma [.int .i64 ta])), (1, (false, .cols mb [.int .i64 tb]))]], 2⟩ (proj 2 [0, 1, 12, 13] Kst Kret) =
  T28_0 test Kst Kret aa na ma ta ab nb mb tb x0 := by kernel_rfl
set_option maxRecDepth 100000 in
theorem be28 (aa na ma : Nat) (ta : Nat → Int) (ab nb mb : Nat) (tb : Nat → Int) (Kst : KS) (Kret : KR) (x : St28 ⊕ Rt28) (hS : HS 2 400 ((I28 aa na ma ta ab nb mb tb)) Kst x) (hR : HR 2 400 ((V28 aa na ma ta ab nb mb tb)) (fun r => [newL (2 + 1) ((N28 aa na ma ta ab nb mb tb) r) ++ [(0, (false, .cols ma [.int .i64 ta])), (1, (false, .cols mb [.int .i64 tb]))]]) Kret x) (h : (bif ((↑na : Int) != (↑nb : Int))
 then (some (.inr (false)))
 else (some (.inl (.h0 ((0 : Int))))) : Option (St28 ⊕ Rt28)) = some x) : Te28 cond Kst Kret aa na ma ta ab nb mb tb := by
  unfold Te28
  exact bif_split h
   (fun c0 h => ret_at hR _ h (fun n => n) rfl rfl rfl (rn_bool_tf rfl) rfl (entl_bor (use_lo rfl) rfl rfl (entl_bor (use_lo rfl) rfl rfl entl_nil)))
   (fun c0 h => stop_at hS _ h (fun n => n) rfl rfl rfl ⟨(rn_loose (use_lo rfl) rfl rfl rfl), ⟨(rn_loose (use_lo rfl) rfl rfl rfl), ⟨(rn_int rfl), ⟨(rn_int rfl), trivial⟩⟩⟩⟩ rfl (entl_bor (use_lo rfl) rfl rfl (entl_bor (use_lo rfl) rfl rfl entl_nil)))
set_option maxRecDepth 100000 in
theorem b28_0 (aa na ma : Nat) (ta : Nat → Int) (ab nb mb : Nat) (tb : Nat → Int) (Kst : KS) (Kret : KR) (x : St28 ⊕ Rt28) (hS : HS 2 400 ((I28 aa na ma ta ab nb mb tb)) Kst x) (hR : HR 2 400 ((V28 aa na ma ta ab nb mb tb)) (fun r => [newL (2 + 1) ((N28 aa na ma ta ab nb mb tb) r) ++ [(0, (false, .cols ma [.int .i64 ta])), (1, (false, .cols mb [.int .i64 tb]))]]) Kret x) (x0 : Int) (h : (bif (decide (x0 < (↑na : Int)))
 then (bif (decide ((0 : Int) ≤ x0 ∧ x0 < (↑na : Int)))
 then (bif (decide (Int.toNat x0 + aa < ma))
 then (bif (decide ((0 : Int) ≤ x0 ∧ x0 < (↑nb : Int)))
 then (bif (decide (Int.toNat x0 + ab < mb))
 then (bif (ta (Int.toNat x0 + aa) != tb (Int.toNat x0 + ab))
 then (some (.inr (false)))
 else (bif (lim IntKind.i64 (x0 + (1 : Int)))
 then (some (.inl (.h0 (x0 + (1 : Int)))))
 else (none)))
 else (none))
 else (none))
 else (none))
 else (none))
 else (some (.inr (true))) : Option (St28 ⊕ Rt28)) = some x) : T28_0 cond Kst Kret aa na ma ta ab nb mb tb x0 := by
  unfold T28_0
  exact bif_split h
   (fun c0 h => bif_split h
   (fun c1 h => bif_split h
   (fun c2 h => bif_split h
   (fun c3 h => bif_split h
   (fun c4 h => bif_split h
   (fun c5 h => ret_at hR _ h (fun n => n) rfl rfl rfl (rn_bool_tf rfl) rfl (entl_bor (use_lo rfl) rfl rfl (entl_bor (use_lo rfl) rfl rfl entl_nil)))
   (fun c5 h => bif_split h
   (fun c6 h => stop_at hS _ h (fun n => n) rfl rfl rfl ⟨(rn_loose (use_lo rfl) rfl rfl rfl), ⟨(rn_loose (use_lo rfl) rfl rfl rfl), ⟨(rn_int rfl), ⟨(rn_int rfl), trivial⟩⟩⟩⟩ rfl (entl_bor (use_lo rfl) rfl rfl (entl_bor (use_lo rfl) rfl rfl entl_nil)))
   (fun c6 h => no_some h)))
   (fun c4 h => no_some h))
   (fun c3 h => no_some h))
   (fun c2 h => no_some h))
   (fun c1 h => no_some h))
   (fun c0 h => ret_at hR _ h (fun n => n) rfl rfl rfl (rn_bool_tf rfl) rfl (entl_bor (use_lo rfl) rfl rfl (entl_bor (use_lo rfl) rfl rfl entl_nil)))
theorem a28 (aa na ma : Nat) (ta : Nat → Int) (ab nb mb : Nat) (tb : Nat → Int) {r : Rt28} (h : Goes ((q28 aa na ma ta ab nb mb tb)) ((p28 aa na ma ta ab nb mb tb)) r) : CallR Try.prog 28 [.loose ⟨0, 1, aa, 0⟩ na, .loose ⟨1, 1, ab, 0⟩ nb] [[(0, (false, .cols ma [.int .i64 ta])), (1, (false, .cols mb [.int .i64 tb]))]] 2 ((V28 aa na ma ta ab nb mb tb) r) ((fun r => [newL (2 + 1) ((N28 aa na ma ta ab nb mb tb) r) ++ [(0, (false, .cols ma [.int .i64 ta])), (1, (false, .cols mb [.int .i64 tb]))]]) r) 400 ∧ ∃ F, Try.prog.funcs[28]? = some F ∧ F.body.isSome = true ∧ (F.name == "runtime.NumGoroutine") = false := by
  refine dec_calls (f := 28) (lo := 2) (hi := 400) (H := [[(0, (false, .cols ma [.int .i64 ta])), (1, (false, .cols mb [.int .i64 tb]))]]) (args := [.loose ⟨0, 1, aa, 0⟩ na, .loose ⟨1, 1, ab, 0⟩ nb]) Try.envOk Try.mixed noX_ok ((I28 aa na ma ta ab nb mb tb)) ((V28 aa na ma ta ab nb mb tb)) (fun r => [newL (2 + 1) ((N28 aa na ma ta ab nb mb tb) r) ++ [(0, (false, .cols ma [.int .i64 ta])), (1, (false, .cols mb [.int .i64 tb]))]]) (fn := mkFn Try.f28) (ts := [0, 1, 12, 13]) (n := 400) rfl (by decide) (by simp) (names_of rfl) ?_ ?_ ?_ h
  · intro s; cases s <;> exact ⟨hd_ok _ _, by simp [I28], names_of rfl, Nat.le_of_ble_eq_true rfl⟩
  · intro Kst Kret x hS hR h
    exact Holds.eq (te28 cond Kst Kret aa na ma ta ab nb mb tb) (be28 aa na ma ta ab nb mb tb Kst Kret x hS hR h)
  · intro Kst Kret x hS hR s h
    cases s with
    | h0 x0 => exact Holds.eq (t28_0 cond Kst Kret aa na ma ta ab nb mb tb x0) (b28_0 aa na ma ta ab nb mb tb Kst Kret x hS hR x0 h)
noncomputable def k28 : Con := ⟨28, [.one (.list [.int .i64]), .one (.list [.int .i64])], fun (x : (Nat × Nat × Nat × (Nat → Int) × Unit) × (Nat × Nat × Nat × (Nat → Int) × Unit) × Unit) => (fun (aa na ma : Nat) (ta : Nat → Int) (ab nb mb : Nat) (tb : Nat → Int) => decide (aa + na ≤ ma ∧ na ≤ 1000000 ∧ ab + nb ≤ mb ∧ nb ≤ 1000000)) x.1.1 x.1.2.1 x.1.2.2.1 x.1.2.2.2.1 x.2.1.1 x.2.1.2.1 x.2.1.2.2.1 x.2.1.2.2.2.1, fun (x : (Nat × Nat × Nat × (Nat → Int) × Unit) × (Nat × Nat × Nat × (Nat → Int) × Unit) × Unit) => (fun (aa na ma : Nat) (ta : Nat → Int) (ab nb mb : Nat) (tb : Nat → Int) => (V28 aa na ma ta ab nb mb tb) (decide ((S.mkl na fun j => ta (j + aa)) = (S.mkl nb fun j => tb (j + ab))))) x.1.1 x.1.2.1 x.1.2.2.1 x.1.2.2.2.1 x.2.1.1 x.2.1.2.1 x.2.1.2.2.1 x.2.1.2.2.2.1, fun (x : (Nat × Nat × Nat × (Nat → Int) × Unit) × (Nat × Nat × Nat × (Nat → Int) × Unit) × Unit) => (fun (aa na ma : Nat) (ta : Nat → Int) (ab nb mb : Nat) (tb : Nat → Int) => (N28 aa na ma ta ab nb mb tb) (decide ((S.mkl na fun j => ta (j + aa)) = (S.mkl nb fun j => tb (j + ab))))) x.1.1 x.1.2.1 x.1.2.2.1 x.1.2.2.2.1 x.2.1.1 x.2.1.2.1 x.2.1.2.2.1 x.2.1.2.2.2.1, fun _ _ => .dead⟩
theorem e28 (aa na ma : Nat) (ta : Nat → Int) (ab nb mb : Nat) (tb : Nat → Int) (h : na = nb) : decide ((S.mkl na fun j => ta (j + aa)) = (S.mkl nb fun j => tb (j + ab))) = true ↔ ∀ j, j < na → ta (j + aa) = tb (j + ab) := by
  rw [decide_eq_true_eq, mkl_inj]
  simp only [h, true_and, Prod.mk.injEq]
theorem s28' (aa na ma : Nat) (ta : Nat → Int) (ab nb mb : Nat) (tb : Nat → Int) (hp : aa + na ≤ ma ∧ na ≤ 1000000 ∧ ab + nb ≤ mb ∧ nb ≤ 1000000) (he : na = nb) : ∀ k i : Nat, i + k = na → (∀ j, j < i → ta (j + aa) = tb (j + ab)) → Comes (q28 aa na ma ta ab nb mb tb) (.h0 (i : Int)) (decide ((S.mkl na fun j => ta (j + aa)) = (S.mkl nb fun j => tb (j + ab)))) := by
  obtain ⟨hp1, hp2, hp3, hp4⟩ := hp
  have hq := e28 aa na ma ta ab nb mb tb he
  generalize decide ((S.mkl na fun j => ta (j + aa)) = (S.mkl nb fun j => tb (j + ab))) = R at hq ⊢
  intro k
  induction k with
  | zero =>
    intro i hi hj
    obtain rfl : na = i := by omega
    apply Comes.of
    show Goes _ _ _
    unfold q28
    repeat' first
      | with_reducible refine goes_if (fun h => ?_) (fun h => ?_) <;> (try simp only [lim64, decide_eq_true_eq, decide_eq_false_iff_not, Int.toNat_natCast, toNat_pred, toNat_succ, Option.getD_some, Option.getD_none, Bool.not_eq_true', Bool.not_eq_false', Bool.and_eq_true, Bool.or_eq_true, Bool.and_eq_false_iff, Bool.or_eq_false_iff, bne_iff_ne, beq_iff_eq, bne_eq_false_iff_eq, beq_eq_false_iff_ne, ne_eq, not_and, Int.not_le, Int.not_lt, ge_iff_le, gt_iff_lt, Nat.not_lt, Nat.not_le, Bool.not_eq_true, Bool.not_eq_false, Bool.true_eq_false, Bool.false_eq_true, not_false_eq_true, not_true_eq_false] at h)
      | exact goes_none.mpr (by omega)
    all_goals first | (exfalso; omega) | (exact goes_inr.mpr (hq.mpr hj).symm)
  | succ k ih =>
    intro i hi hj
    have hw : ∀ {P : Prop}, (R = true → P) → ¬ P → false = R := fun h1 h2 => by cases R; rfl; exact absurd (h1 rfl) h2
    apply Comes.of
    show Goes _ _ _
    unfold q28
    repeat' first
      | with_reducible refine goes_if (fun h => ?_) (fun h => ?_) <;> (try simp only [lim64, decide_eq_true_eq, decide_eq_false_iff_not, Int.toNat_natCast, toNat_pred, toNat_succ, Option.getD_some, Option.getD_none, Bool.not_eq_true', Bool.not_eq_false', Bool.and_eq_true, Bool.or_eq_true, Bool.and_eq_false_iff, Bool.or_eq_false_iff, bne_iff_ne, beq_iff_eq, bne_eq_false_iff_eq, beq_eq_false_iff_ne, ne_eq, not_and, Int.not_le, Int.not_lt, ge_iff_le, gt_iff_lt, Nat.not_lt, Nat.not_le, Bool.not_eq_true, Bool.not_eq_false, Bool.true_eq_false, Bool.false_eq_true, not_false_eq_true, not_true_eq_false] at h)
      | exact goes_none.mpr (by omega)
    all_goals first
      | (exfalso; omega)
      | (refine ih (i + 1) (by omega) fun j hlt => ?_
         rcases Nat.lt_or_eq_of_le (Nat.le_of_lt_succ hlt) with h1 | h1
         · exact hj j h1
         · subst h1; simp_all)
      | (refine goes_inr.mpr (hw (fun e => hq.mp e i (by omega)) fun e => ?_); simp_all)
theorem s28 (aa na ma : Nat) (ta : Nat → Int) (ab nb mb : Nat) (tb : Nat → Int) (hp : aa + na ≤ ma ∧ na ≤ 1000000 ∧ ab + nb ≤ mb ∧ nb ≤ 1000000) : Goes ((q28 aa na ma ta ab nb mb tb)) ((p28 aa na ma ta ab nb mb tb)) (decide ((S.mkl na fun j => ta (j + aa)) = (S.mkl nb fun j => tb (j + ab)))) := by
  by_cases he : na = nb
  · have hm := s28' aa na ma ta ab nb mb tb hp he na 0 (by omega) (fun j hj => absurd hj (Nat.not_lt_zero j))
    show Goes _ _ _
    unfold p28
    repeat' first
      | with_reducible refine goes_if (fun h => ?_) (fun h => ?_) <;> (try simp only [lim64, decide_eq_true_eq, decide_eq_false_iff_not, Int.toNat_natCast, toNat_pred, toNat_succ, Option.getD_some, Option.getD_none, Bool.not_eq_true', Bool.not_eq_false', Bool.and_eq_true, Bool.or_eq_true, Bool.and_eq_false_iff, Bool.or_eq_false_iff, bne_iff_ne, beq_iff_eq, bne_eq_false_iff_eq, beq_eq_false_iff_ne, ne_eq, not_and, Int.not_le, Int.not_lt, ge_iff_le, gt_iff_lt, Nat.not_lt, Nat.not_le, Bool.not_eq_true, Bool.not_eq_false, Bool.true_eq_false, Bool.false_eq_true, not_false_eq_true, not_true_eq_false] at h)
      | exact goes_none.mpr (by omega)
    all_goals first | (exfalso; omega) | exact hm
  · have hd : decide ((S.mkl na fun j => ta (j + aa)) = (S.mkl nb fun j => tb (j + ab))) = false := decide_eq_false (fun e => he (mkl_inj.mp e).1)
    rw [hd]
    show Goes _ _ _
    unfold p28
    repeat' first
      | with_reducible refine goes_if (fun h => ?_) (fun h => ?_) <;> (try simp only [lim64, decide_eq_true_eq, decide_eq_false_iff_not, Int.toNat_natCast, toNat_pred, toNat_succ, Option.getD_some, Option.getD_none, Bool.not_eq_true', Bool.not_eq_false', Bool.and_eq_true, Bool.or_eq_true, Bool.and_eq_false_iff, Bool.or_eq_false_iff, bne_iff_ne, beq_iff_eq, bne_eq_false_iff_eq, beq_eq_false_iff_ne, ne_eq, not_and, Int.not_le, Int.not_lt, ge_iff_le, gt_iff_lt, Nat.not_lt, Nat.not_le, Bool.not_eq_true, Bool.not_eq_false, Bool.true_eq_false, Bool.false_eq_true, not_false_eq_true, not_true_eq_false] at h)
      | exact goes_none.mpr (by omega)
    all_goals first | (exfalso; omega) | rfl

theorem k28_ok : k28.ok Try.prog := by
  intro x hx
  obtain ⟨⟨aa, na, ma, ta, _⟩, ⟨ab, nb, mb, tb, _⟩, _⟩ := x
  obtain ⟨h1, h2⟩ := a28 aa na ma ta ab nb mb tb (s28 aa na ma ta ab nb mb tb (of_decide_eq_true hx))
  exact ⟨⟨400, (by decide : 2 + 1 + 0 ≤ 400), h1⟩, h2⟩
inductive St52 where
  | h0 (x0 : Int)
abbrev Rt52 := Int
noncomputable def V52 (aa na ma : Nat) (ta : Nat → Bool) (c0 : Bool) (r : Rt52) : PV := PV.int IntKind.i64 r
noncomputable def N52 (aa na ma : Nat) (ta : Nat → Bool) (c0 : Bool) (r : Rt52) : List Blk := []
noncomputable def I52 (aa na ma : Nat) (ta : Nat → Bool) (c0 : Bool) : St52 → Hd
  | .h0 x0 => ⟨hd Try.f52 0, [PV.loose (PA.mk (0) (1) aa (0)) na, PV.bool c0,
 PV.int IntKind.i64 (↑na : Int), PV.int IntKind.i64 x0], [[], [(0, (false, .cols ma [.bool ta]))]], 1⟩
noncomputable def q52 (aa na ma : Nat) (ta : Nat → Bool) (c0 : Bool) : St52 → Option (St52 ⊕ Rt52)
  | .h0 x0 => bif (decide (x0 < (↑na : Int)))
 then (bif (c0)
 then (bif (decide ((0 : Int) ≤ x0 ∧ x0 < (↑na : Int)))
 then (bif (decide (Int.toNat x0 + aa < ma))
 then (bif (ta (Int.toNat x0 + aa))
 then (some (.inr (x0)))
 else (bif (lim IntKind.i64 (x0 + (1 : Int)))
 then (some (.inl (.h0 (x0 + (1 : Int)))))
 else (none)))
 else (none))
 else (none))
 else (bif (decide ((0 : Int) ≤ x0 ∧ x0 < (↑na : Int)))
 then (bif (decide (Int.toNat x0 + aa < ma))
 then (bif (ta (Int.toNat x0 + aa))
 then (bif (lim IntKind.i64 (x0 + (1 : Int)))
 then (some (.inl (.h0 (x0 + (1 : Int)))))
 else (none))
 else (some (.inr (x0))))
 else (none))
 else (none)))
 else (some (.inr ((-1 : Int))))
noncomputable def p52 (aa na ma : Nat) (ta : Nat → Bool) (c0 : Bool) : Option (St52 ⊕ Rt52) := some (.inl (.h0 ((0 : Int))))
noncomputable def Te52 (test : Bool → Prop → Prop → Prop) (Kst : KS) (Kret : KR) (aa na ma : Nat) (ta : Nat → Bool) (c0 : Bool) : Prop :=
  Kst (hd Try.f52 0) ([PV.loose (PA.mk (0) (1) aa (0)) na, PV.bool c0,
 PV.int IntKind.i64 (↑na : Int), PV.int IntKind.i64 (0 : Int)]) ([[(0, false, Blk.cols ma [Col.bool ta])]]) (1)
set_option maxRecDepth 100000 in
theorem te52 (test : Bool → Prop → Prop → Prop) (Kst : KS) (Kret : KR) (aa na ma : Nat) (ta : Nat → Bool) (c0 : Bool) : run test Try.env true noX true 400 ⟨52, [.cd (mkFn Try.f52).body], argT 0 [.loose ⟨0, 1, aa, 0⟩ na, .bool c0], [[], [(0, (false, .cols ma [.bool ta]))]], 1⟩ (proj 1 [0, 1, 7, 8] Kst Kret) =
  Te52 test Kst Kret aa na ma ta c0 := by kernel_rfl
noncomputable def T52_0 (test : Bool → Prop → Prop → Prop) (Kst : KS) (Kret : KR) (aa na ma : Nat) (ta : Nat → Bool) (c0 : Bool) (x0 : Int) : Prop :=
  test (decide (x0 < (↑na : Int)))
 (test (c0)
 (test (decide ((0 : Int) ≤ x0 ∧ x0 < (↑na : Int)))
 (test (decide (Int.toNat x0 + aa < ma))
 (test (ta (Int.toNat x0 + aa))
 (Kret (PV.int IntKind.i64 x0) ([[(0, false, Blk.cols ma [Col.bool ta])]]) (1))
 (test (lim IntKind.i64 (x0 + (1 : Int)))
 (Kst (hd Try.f52 0) ([PV.loose (PA.mk (0) (1) aa (0)) na, PV.bool c0,
 PV.int IntKind.i64 (↑na : Int), PV.int IntKind.i64 (x0 + (1 : Int))]) ([[(0, false, Blk.cols ma [Col.bool ta])]]) (1))
 (False)))
 (False))
 (False))
 (test (decide ((0 : Int) ≤ x0 ∧ x0 < (↑na : Int)))
 (test (decide (Int.toNat x0 + aa < ma))
 (test (ta (Int.toNat x0 + aa))
 (test (lim IntKind.i64 (x0 + (1 : Int)))
 (Kst (hd Try.f52 0) ([PV.loose (PA.mk (0) (1) aa (0)) na, PV.bool c0,
 PV.int IntKind.i64 (↑na : Int), PV.int IntKind.i64 (x0 + (1 : Int))]) ([[(0, false, Blk.cols ma [Col.bool ta])]]) (1))
 (False))
 (Kret (PV.int IntKind.i64 x0) ([[(0, false, Blk.cols ma [Col.bool ta])]]) (1)))
 (False))
 (False)))
 (Kret (PV.int IntKind.i64 (-1 : Int)) ([[(0, false, Blk.cols ma [Col.bool ta])]]) (1))
set_option maxRecDepth 100000 in
theorem t52_0 (test : Bool → Prop → Prop → Prop) (Kst : KS) (Kret : KR) (aa na ma : Nat) (ta : Nat → Bool) (c0 : Bool) (x0 : Int) : run test Try.env true noX true 400 ⟨52, hd Try.f52 0, zipT [0, 1, 7, 8] [PV.loose (PA.mk (0) (1) aa (0)) na, PV.bool c0,
 PV.int IntKind.i64 (↑na : Int), PV.int IntKind.i64 x0], [[], [(0, (false, .cols ma [.bool ta]))]], 1⟩ (proj 1 [0, 1, 7, 8] Kst Kret) =
  T52_0 test Kst Kret aa na ma ta c0 x0 := by kernel_rfl
set_option maxRecDepth 100000 in
theorem be52 (aa na ma : Nat) (ta : Nat → Bool) (c0 : Bool) (Kst : KS) (Kret : KR) (x : St52 ⊕ Rt52) (hS : HS 1 400 ((I52 aa na ma ta c0)) Kst x) (hR : HR 1 400 ((V52 aa na ma ta c0)) (fun r => [newL (1 + 1) ((N52 aa na ma ta c0) r) ++ [(0, (false, .cols ma [.bool ta]))]]) Kret x) (h : (some (.inl (.h0 ((0 : Int)))) : Option (St52 ⊕ Rt52)) = some x) : Te52 cond Kst Kret aa na ma ta c0 := by
  unfold Te52
  exact stop_at hS _ h (fun n => n) rfl rfl rfl ⟨(rn_loose (use_lo rfl) rfl rfl rfl), ⟨(rn_bool rfl), ⟨(rn_int rfl), ⟨(rn_int rfl), trivial⟩⟩⟩⟩ rfl (entl_bor (use_lo rfl) rfl rfl entl_nil)
set_option maxRecDepth 100000 in
theorem b52_0 (aa na ma : Nat) (ta : Nat → Bool) (c0 : Bool) (Kst : KS) (Kret : KR) (x : St52 ⊕ Rt52) (hS : HS 1 400 ((I52 aa na ma ta c0)) Kst x) (hR : HR 1 400 ((V52 aa na ma ta c0)) (fun r => [newL (1 + 1) ((N52 aa na ma ta c0) r) ++ [(0, (false, .cols ma [.bool ta]))]]) Kret x) (x0 : Int) (h : (bif (decide (x0 < (↑na : Int)))
 then (bif (c0)
 then (bif (decide ((0 : Int) ≤ x0 ∧ x0 < (↑na : Int)))
 then (bif (decide (Int.toNat x0 + aa < ma))
 then (bif (ta (Int.toNat x0 + aa))
 then (some (.inr (x0)))
 else (bif (lim IntKind.i64 (x0 + (1 : Int)))
 then (some (.inl (.h0 (x0 + (1 : Int)))))
 else (none)))
 else (none))
 else (none))
 else (bif (decide ((0 : Int) ≤ x0 ∧ x0 < (↑na : Int)))
 then (bif (decide (Int.toNat x0 + aa < ma))
 then (bif (ta (Int.toNat x0 + aa))
 then (bif (lim IntKind.i64 (x0 + (1 : Int)))
 then (some (.inl (.h0 (x0 + (1 : Int)))))
 else (none))
 else (some (.inr (x0))))
 else (none))
 else (none)))
 else (some (.inr ((-1 : Int)))) : Option (St52 ⊕ Rt52)) = some x) : T52_0 cond Kst Kret aa na ma ta c0 x0 := by
  unfold T52_0
  exact bif_split h
   (fun c0 h => bif_split h
   (fun c1 h => bif_split h
   (fun c2 h => bif_split h
   (fun c3 h => bif_split h
   (fun c4 h => ret_at hR _ h (fun n => n) rfl rfl rfl (rn_int rfl) rfl (entl_bor (use_lo rfl) rfl rfl entl_nil))
   (fun c4 h => bif_split h
   (fun c5 h => stop_at hS _ h (fun n => n) rfl rfl rfl ⟨(rn_loose (use_lo rfl) rfl rfl rfl), ⟨(rn_bool rfl), ⟨(rn_int rfl), ⟨(rn_int rfl), trivial⟩⟩⟩⟩ rfl (entl_bor (use_lo rfl) rfl rfl entl_nil))
   (fun c5 h => no_some h)))
   (fun c3 h => no_some h))
   (fun c2 h => no_some h))
   (fun c1 h => bif_split h
   (fun c2 h => bif_split h
   (fun c3 h => bif_split h
   (fun c4 h => bif_split h
   (fun c5 h => stop_at hS _ h (fun n => n) rfl rfl rfl ⟨(rn_loose (use_lo rfl) rfl rfl rfl), ⟨(rn_bool rfl), ⟨(rn_int rfl), ⟨(rn_int rfl), trivial⟩⟩⟩⟩ rfl (entl_bor (use_lo rfl) rfl rfl entl_nil))
   (fun c5 h => no_some h))
   (fun c4 h => ret_at hR _ h (fun n => n) rfl rfl rfl (rn_int rfl) rfl (entl_bor (use_lo rfl) rfl rfl entl_nil)))
   (fun c3 h => no_some h))
   (fun c2 h => no_some h)))
   (fun c0 h => ret_at hR _ h (fun n => n) rfl rfl rfl (rn_int rfl) rfl (entl_bor (use_lo rfl) rfl rfl entl_nil))
theorem a52 (aa na ma : Nat) (ta : Nat → Bool) (c0 : Bool) {r : Rt52} (h : Goes ((q52 aa na ma ta c0)) ((p52 aa na ma ta c0)) r) : CallR Try.prog 52 [.loose ⟨0, 1, aa, 0⟩ na, .bool c0] [[(0, (false, .cols ma [.bool ta]))]] 1 ((V52 aa na ma ta c0) r) ((fun r => [newL (1 + 1) ((N52 aa na ma ta c0) r) ++ [(0, (false, .cols ma [.bool ta]))]]) r) 400 ∧ ∃ F, Try.prog.funcs[52]? = some F ∧ F.body.isSome = true ∧ (F.name == "runtime.NumGoroutine") = false := by
  refine dec_calls (f := 52) (lo := 1) (hi := 400) (H := [[(0, (false, .cols ma [.bool ta]))]]) (args := [.loose ⟨0, 1, aa, 0⟩ na, .bool c0]) Try.envOk Try.mixed noX_ok ((I52 aa na ma ta c0)) ((V52 aa na ma ta c0)) (fun r => [newL (1 + 1) ((N52 aa na ma ta c0) r) ++ [(0, (false, .cols ma [.bool ta]))]]) (fn := mkFn Try.f52) (ts := [0, 1, 7, 8]) (n := 400) rfl (by decide) (by simp) (names_of rfl) ?_ ?_ ?_ h
  · intro s; cases s <;> exact ⟨hd_ok _ _, by simp [I52], names_of rfl, Nat.le_of_ble_eq_true rfl⟩
  · intro Kst Kret x hS hR h
    exact Holds.eq (te52 cond Kst Kret aa na ma ta c0) (be52 aa na ma ta c0 Kst Kret x hS hR h)
  · intro Kst Kret x hS hR s h
    cases s with
    | h0 x0 => exact Holds.eq (t52_0 cond Kst Kret aa na ma ta c0 x0) (b52_0 aa na ma ta c0 Kst Kret x hS hR x0 h)
noncomputable def k52 : Con := ⟨52, [.one (.list [.bool]), .one (.plain (.bool))], fun (x : (Nat × Nat × Nat × (Nat → Bool) × Unit) × Bool × Unit) => (fun (aa na ma : Nat) (ta : Nat → Bool) (c0 : Bool) => decide (aa + na ≤ ma ∧ na ≤ 1000000)) x.1.1 x.1.2.1 x.1.2.2.1 x.1.2.2.2.1 x.2.1, fun (x : (Nat × Nat × Nat × (Nat → Bool) × Unit) × Bool × Unit) => (fun (aa na ma : Nat) (ta : Nat → Bool) (c0 : Bool) => (V52 aa na ma ta c0) (S.idx (fun j => decide (ta (j + aa) = c0)) 0 na)) x.1.1 x.1.2.1 x.1.2.2.1 x.1.2.2.2.1 x.2.1, fun (x : (Nat × Nat × Nat × (Nat → Bool) × Unit) × Bool × Unit) => (fun (aa na ma : Nat) (ta : Nat → Bool) (c0 : Bool) => (N52 aa na ma ta c0) (S.idx (fun j => decide (ta (j + aa) = c0)) 0 na)) x.1.1 x.1.2.1 x.1.2.2.1 x.1.2.2.2.1 x.2.1, fun _ _ => .dead⟩
theorem s52' (aa na ma : Nat) (ta : Nat → Bool) (c0 : Bool) (hp : aa + na ≤ ma ∧ na ≤ 1000000) : ∀ k i : Nat, i + k = na → Comes (q52 aa na ma ta c0) (.h0 (i : Int)) (S.idx (fun j => decide (ta (j + aa) = c0)) i k) := by
  obtain ⟨hp1, hp2⟩ := hp
  intro k
  induction k with
  | zero =>
    intro i hi
    apply Comes.of
    show Goes _ _ _
    unfold q52
    repeat' first
      | with_reducible refine goes_if (fun h => ?_) (fun h => ?_) <;> (try simp only [lim64, decide_eq_true_eq, decide_eq_false_iff_not, Int.toNat_natCast, toNat_pred, toNat_succ, Option.getD_some, Option.getD_none, Bool.not_eq_true', Bool.not_eq_false', Bool.and_eq_true, Bool.or_eq_true, Bool.and_eq_false_iff, Bool.or_eq_false_iff, bne_iff_ne, beq_iff_eq, bne_eq_false_iff_eq, beq_eq_false_iff_ne, ne_eq, not_and, Int.not_le, Int.not_lt, ge_iff_le, gt_iff_lt, Nat.not_lt, Nat.not_le, Bool.not_eq_true, Bool.not_eq_false, Bool.true_eq_false, Bool.false_eq_true, not_false_eq_true, not_true_eq_false] at h)
      | exact goes_none.mpr (by omega)
    all_goals first | (exfalso; omega) | rfl | (refine Eq.mpr (congrArg (Comes _ _) ?_) True; simp only [S.idx, Bool.and_eq_true, Bool.or_eq_true, decide_eq_true_eq]; (repeat' split) <;> first | rfl | omega | (exfalso; omega) | (exfalso; simp_all; done) | (exfalso; simp_all; omega) | simp_all) | (refine goes_inr.mpr ?_; simp only [S.idx, Bool.and_eq_true, Bool.or_eq_true, decide_eq_true_eq]; (repeat' split) <;> first | rfl | omega | (exfalso; omega) | (exfalso; simp_all; done) | (exfalso; simp_all; omega) | simp_all)
  | succ k ih =>
    intro i hi
    have ih := ih (i + 1) (by omega)
    apply Comes.of
    show Goes _ _ _
    unfold q52
    repeat' first
      | with_reducible refine goes_if (fun h => ?_) (fun h => ?_) <;> (try simp only [lim64, decide_eq_true_eq, decide_eq_false_iff_not, Int.toNat_natCast, toNat_pred, toNat_succ, Option.getD_some, Option.getD_none, Bool.not_eq_true', Bool.not_eq_false', Bool.and_eq_true, Bool.or_eq_true, Bool.and_eq_false_iff, Bool.or_eq_false_iff, bne_iff_ne, beq_iff_eq, bne_eq_false_iff_eq, beq_eq_false_iff_ne, ne_eq, not_and, Int.not_le, Int.not_lt, ge_iff_le, gt_iff_lt, Nat.not_lt, Nat.not_le, Bool.not_eq_true, Bool.not_eq_false, Bool.true_eq_false, Bool.false_eq_true, not_false_eq_true, not_true_eq_false] at h)
      | exact goes_none.mpr (by omega)
    all_goals first | (exfalso; omega) | rfl | (refine Eq.mpr (congrArg (Comes _ _) ?_) ih; simp only [S.idx, Bool.and_eq_true, Bool.or_eq_true, decide_eq_true_eq]; (repeat' split) <;> first | rfl | omega | (exfalso; omega) | (exfalso; simp_all; done) | (exfalso; simp_all; omega) | simp_all) | (refine goes_inr.mpr ?_; simp only [S.idx, Bool.and_eq_true, Bool.or_eq_true, decide_eq_true_eq]; (repeat' split) <;> first | rfl | omega | (exfalso; omega) | (exfalso; simp_all; done) | (exfalso; simp_all; omega) | simp_all)
theorem s52 (aa na ma : Nat) (ta : Nat → Bool) (c0 : Bool) (hp : aa + na ≤ ma ∧ na ≤ 1000000) : Goes ((q52 aa na ma ta c0)) ((p52 aa na ma ta c0)) (S.idx (fun j => decide (ta (j + aa) = c0)) 0 na) := by
  exact s52' aa na ma ta c0 hp na 0 (by omega)
theorem k52_ok : k52.ok Try.prog := by
  intro x hx
  obtain ⟨⟨aa, na, ma, ta, _⟩, c0, _⟩ := x
  obtain ⟨h1, h2⟩ := a52 aa na ma ta c0 (s52 aa na ma ta c0 (of_decide_eq_true hx))
  exact ⟨⟨400, (by decide : 1 + 1 + 0 ≤ 400), h1⟩, h2⟩
inductive St53 where
  | h0 (x0 : Int)
abbrev Rt53 := Int
noncomputable def V53 (al nl ml : Nat) (tl : Nat → Int) (tr : Int) (vr : Int) (gr : Int) (r : Rt53) : PV := PV.int IntKind.i64 r
noncomputable def N53 (al nl ml : Nat) (tl : Nat → Int) (tr : Int) (vr : Int) (gr : Int) (r : Rt53) : List Blk := []
noncomputable def I53 (al nl ml : Nat) (tl : Nat → Int) (tr : Int) (vr : Int) (gr : Int) : St53 → Hd
  | .h0 x0 => ⟨hd Try.f53 0, [PV.loose (PA.mk (0) (1) al (0)) nl,
 PV.fn (Go.Fn.func (50)) [] [PV.ptr (PA.mk (1) (0) (0) (0))],
 PV.int IntKind.i64 (↑nl : Int), PV.int IntKind.i64 x0], [[], [(0, (false, .cols ml [.int .i64 tl])), (1, (false, .cells [.int .i64 tr, .int .i64 vr, .int .i64 gr]))]], 2⟩
noncomputable def q53 (al nl ml : Nat) (tl : Nat → Int) (tr : Int) (vr : Int) (gr : Int) : St53 → Option (St53 ⊕ Rt53)
  | .h0 x0 => bif (decide (x0 < (↑nl : Int)))
 then (bif (decide ((0 : Int) ≤ x0 ∧ x0 < (↑nl : Int)))
 then (bif (decide (Int.toNat x0 + al < ml))
 then (bif (decide (tl (Int.toNat x0 + al) ≥ tr))
 then (some (.inr (x0)))
 else (bif (decide (tl (Int.toNat x0 + al) ≤ vr))
 then (some (.inr (x0)))
 else (bif (lim IntKind.i64 (x0 + (1 : Int)))
 then (some (.inl (.h0 (x0 + (1 : Int)))))
 else (none))))
 else (none))
 else (none))
 else (some (.inr ((-1 : Int))))
noncomputable def p53 (al nl ml : Nat) (tl : Nat → Int) (tr : Int) (vr : Int) (gr : Int) : Option (St53 ⊕ Rt53) := some (.inl (.h0 ((0 : Int))))
noncomputable def Te53 (test : Bool → Prop → Prop → Prop) (Kst : KS) (Kret : KR) (al nl ml : Nat) (tl : Nat → Int) (tr : Int) (vr : Int) (gr : Int) : Prop :=
  Kst (hd Try.f53 0) ([PV.loose (PA.mk (0) (1) al (0)) nl,
 PV.fn (Go.Fn.func (50)) [] [PV.ptr (PA.mk (1) (0) (0) (0))],
 PV.int IntKind.i64 (↑nl : Int), PV.int IntKind.i64 (0 : Int)]) ([[(1, false,
 Blk.cells [PV.int IntKind.i64 tr, PV.int IntKind.i64 vr, PV.int IntKind.i64 gr]),
 (0, false, Blk.cols ml [Col.int IntKind.i64 tl])]]) (2)
set_option maxRecDepth 100000 in
theorem te53 (test : Bool → Prop → Prop → Prop) (Kst : KS) (Kret : KR) (al nl ml : Nat) (tl : Nat → Int) (tr : Int) (vr : Int) (gr : Int) : run test Try.env true noX true 400 ⟨53, [.cd (mkFn Try.f53).body], argT 0 [.loose ⟨0, 1, al, 0⟩ nl, .fn (.func 50) [] [.ptr ⟨1, 0, 0, 0⟩]], [[], [(0, (false, .cols ml [.int .i64 tl])), (1, (false, .cells [.int .i64 tr, .int .i64 vr, .int .i64 gr]))]], 2⟩ (proj 2 [0, 1, 7, 8] Kst Kret) =
  Te53 test Kst Kret al nl ml tl tr vr gr := by kernel_rfl
noncomputable def T53_0 (test : Bool → Prop → Prop → Prop) (Kst : KS) (Kret : KR) (al nl ml : Nat) (tl : Nat → Int) (tr : Int) (vr : Int) (gr : Int) (x0 : Int) : Prop :=
  test (decide (x0 < (↑nl : Int)))
 (test (decide ((0 : Int) ≤ x0 ∧ x0 < (↑nl : Int)))
 (test (decide (Int.toNat x0 + al < ml))
 (test (decide (tl (Int.toNat x0 + al) ≥ tr))
 (Kret (PV.int IntKind.i64 x0) ([[(1, false,
 Blk.cells [PV.int IntKind.i64 tr, PV.int IntKind.i64 vr, PV.int IntKind.i64 gr]),
 (0, false, Blk.cols ml [Col.int IntKind.i64 tl])]]) (3))
 (test (decide (tl (Int.toNat x0 + al) ≤ vr))
 (Kret (PV.int IntKind.i64 x0) ([[(1, false,
 Blk.cells [PV.int IntKind.i64 tr, PV.int IntKind.i64 vr, PV.int IntKind.i64 gr]),
 (0, false, Blk.cols ml [Col.int IntKind.i64 tl])]]) (3))
 (test (lim IntKind.i64 (x0 + (1 : Int)))
 (Kst (hd Try.f53 0) ([PV.loose (PA.mk (0) (1) al (0)) nl,
 PV.fn (Go.Fn.func (50)) [] [PV.ptr (PA.mk (1) (0) (0) (0))],
 PV.int IntKind.i64 (↑nl : Int), PV.int IntKind.i64 (x0 + (1 : Int))]) ([[(1, false,
 Blk.cells [PV.int IntKind.i64 tr, PV.int IntKind.i64 vr, PV.int IntKind.i64 gr]),
 (0, false, Blk.cols ml [Col.int IntKind.i64 tl])]]) (3))
 (False))))
 (False))
 (False))
 (Kret (PV.int IntKind.i64 (-1 : Int)) ([[(1, false,
 Blk.cells [PV.int IntKind.i64 tr, PV.int IntKind.i64 vr, PV.int IntKind.i64 gr]),
 (0, false, Blk.cols ml [Col.int IntKind.i64 tl])]]) (2))
set_option maxRecDepth 100000 in
theorem t53_0 (test : Bool → Prop → Prop → Prop) (Kst : KS) (Kret : KR) (al nl ml : Nat) (tl : Nat → Int) (tr : Int) (vr : Int) (gr : Int) (x0 : Int) : run test Try.env true noX true 400 ⟨53, hd Try.f53 0, zipT [0, 1, 7, 8] [PV.loose (PA.mk (0) (1) al (0)) nl,
 PV.fn (Go.Fn.func (50)) [] [PV.ptr (PA.mk (1) (0) (0) (0))],
 PV.int IntKind.i64 (↑nl : Int), PV.int IntKind.i64 x0], [[], [(0, (false, .cols ml [.int .i64 tl])), (1, (false, .cells [.int .i64 tr, .int .i64 vr, .int .i64 gr]))]], 2⟩ (proj 2 [0, 1, 7, 8] Kst Kret) =
  T53_0 test Kst Kret al nl ml tl tr vr gr x0 := by kernel_rfl
set_option maxRecDepth 100000 in
theorem be53 (al nl ml : Nat) (tl : Nat → Int) (tr : Int) (vr : Int) (gr : Int) (Kst : KS) (Kret : KR) (x : St53 ⊕ Rt53) (hS : HS 2 400 ((I53 al nl ml tl tr vr gr)) Kst x) (hR : HR 2 400 ((V53 al nl ml tl tr vr gr)) (fun r => [newL (2 + 1) ((N53 al nl ml tl tr vr gr) r) ++ [(0, (false, .cols ml [.int .i64 tl])), (1, (false, .cells [.int .i64 tr, .int .i64 vr, .int .i64 gr]))]]) Kret x) (h : (some (.inl (.h0 ((0 : Int)))) : Option (St53 ⊕ Rt53)) = some x) : Te53 cond Kst Kret al nl ml tl tr vr gr := by
  unfold Te53
  exact stop_at hS _ h (fun n => n) rfl rfl rfl ⟨(rn_loose (use_lo rfl) rfl rfl rfl), ⟨(rn_fn trivial ⟨(rn_ptr (use_lo rfl) rfl rfl), trivial⟩), ⟨(rn_int rfl), ⟨(rn_int rfl), trivial⟩⟩⟩⟩ rfl (entl_bor (use_lo rfl) rfl rfl (entl_borc (use_lo rfl) rfl rfl entl_nil))
set_option maxRecDepth 100000 in
theorem b53_0 (al nl ml : Nat) (tl : Nat → Int) (tr : Int) (vr : Int) (gr : Int) (Kst : KS) (Kret : KR) (x : St53 ⊕ Rt53) (hS : HS 2 400 ((I53 al nl ml tl tr vr gr)) Kst x) (hR : HR 2 400 ((V53 al nl ml tl tr vr gr)) (fun r => [newL (2 + 1) ((N53 al nl ml tl tr vr gr) r) ++ [(0, (false, .cols ml [.int .i64 tl])), (1, (false, .cells [.int .i64 tr, .int .i64 vr, .int .i64 gr]))]]) Kret x) (x0 : Int) (h : (bif (decide (x0 < (↑nl : Int)))
 then (bif (decide ((0 : Int) ≤ x0 ∧ x0 < (↑nl : Int)))
 then (bif (decide (Int.toNat x0 + al < ml))
 then (bif (decide (tl (Int.toNat x0 + al) ≥ tr))
 then (some (.inr (x0)))
 else (bif (decide (tl (Int.toNat x0 + al) ≤ vr))
 then (some (.inr (x0)))
 else (bif (lim IntKind.i64 (x0 + (1 : Int)))
 then (some (.inl (.h0 (x0 + (1 : Int)))))
 else (none))))
 else (none))
 else (none))
 else (some (.inr ((-1 : Int)))) : Option (St53 ⊕ Rt53)) = some x) : T53_0 cond Kst Kret al nl ml tl tr vr gr x0 := by
  unfold T53_0
  exact bif_split h
   (fun c0 h => bif_split h
   (fun c1 h => bif_split h
   (fun c2 h => bif_split h
   (fun c3 h => ret_at hR _ h (fun n => n) rfl rfl rfl (rn_int rfl) rfl (entl_bor (use_lo rfl) rfl rfl (entl_borc (use_lo rfl) rfl rfl entl_nil)))
   (fun c3 h => bif_split h
   (fun c4 h => ret_at hR _ h (fun n => n) rfl rfl rfl (rn_int rfl) rfl (entl_bor (use_lo rfl) rfl rfl (entl_borc (use_lo rfl) rfl rfl entl_nil)))
   (fun c4 h => bif_split h
   (fun c5 h => stop_at hS _ h (fun n => n) rfl rfl rfl ⟨(rn_loose (use_lo rfl) rfl rfl rfl), ⟨(rn_fn trivial ⟨(rn_ptr (use_lo rfl) rfl rfl), trivial⟩), ⟨(rn_int rfl), ⟨(rn_int rfl), trivial⟩⟩⟩⟩ rfl (entl_bor (use_lo rfl) rfl rfl (entl_borc (use_lo rfl) rfl rfl entl_nil)))
   (fun c5 h => no_some h))))
   (fun c2 h => no_some h))
   (fun c1 h => no_some h))
   (fun c0 h => ret_at hR _ h (fun n => n) rfl rfl rfl (rn_int rfl) rfl (entl_bor (use_lo rfl) rfl rfl (entl_borc (use_lo rfl) rfl rfl entl_nil)))
theorem a53 (al nl ml : Nat) (tl : Nat → Int) (tr : Int) (vr : Int) (gr : Int) {r : Rt53} (h : Goes ((q53 al nl ml tl tr vr gr)) ((p53 al nl ml tl tr vr gr)) r) : CallR Try.prog 53 [.loose ⟨0, 1, al, 0⟩ nl, .fn (.func 50) [] [.ptr ⟨1, 0, 0, 0⟩]] [[(0, (false, .cols ml [.int .i64 tl])), (1, (false, .cells [.int .i64 tr, .int .i64 vr, .int .i64 gr]))]] 2 ((V53 al nl ml tl tr vr gr) r) ((fun r => [newL (2 + 1) ((N53 al nl ml tl tr vr gr) r) ++ [(0, (false, .cols ml [.int .i64 tl])), (1, (false, .cells [.int .i64 tr, .int .i64 vr, .int .i64 gr]))]]) r) 400 ∧ ∃ F, Try.prog.funcs[53]? = some F ∧ F.body.isSome = true ∧ (F.name == "runtime.NumGoroutine") = false := by
  refine dec_calls (f := 53) (lo := 2) (hi := 400) (H := [[(0, (false, .cols ml [.int .i64 tl])), (1, (false, .cells [.int .i64 tr, .int .i64 vr, .int .i64 gr]))]]) (args := [.loose ⟨0, 1, al, 0⟩ nl, .fn (.func 50) [] [.ptr ⟨1, 0, 0, 0⟩]]) Try.envOk Try.mixed noX_ok ((I53 al nl ml tl tr vr gr)) ((V53 al nl ml tl tr vr gr)) (fun r => [newL (2 + 1) ((N53 al nl ml tl tr vr gr) r) ++ [(0, (false, .cols ml [.int .i64 tl])), (1, (false, .cells [.int .i64 tr, .int .i64 vr, .int .i64 gr]))]]) (fn := mkFn Try.f53) (ts := [0, 1, 7, 8]) (n := 400) rfl (by decide) (by simp) (names_of rfl) ?_ ?_ ?_ h
  · intro s; cases s <;> exact ⟨hd_ok _ _, by simp [I53], names_of rfl, Nat.le_of_ble_eq_true rfl⟩
  · intro Kst Kret x hS hR h
    exact Holds.eq (te53 cond Kst Kret al nl ml tl tr vr gr) (be53 al nl ml tl tr vr gr Kst Kret x hS hR h)
  · intro Kst Kret x hS hR s h
    cases s with
    | h0 x0 => exact Holds.eq (t53_0 cond Kst Kret al nl ml tl tr vr gr x0) (b53_0 al nl ml tl tr vr gr Kst Kret x hS hR x0 h)
noncomputable def k53 : Con := ⟨53, [.one (.list [.int .i64]), .fn 50 [.cell [.int .i64, .int .i64, .int .i64]]], fun (x : (Nat × Nat × Nat × (Nat → Int) × Unit) × ((Int × Int × Int × Unit) × Unit) × Unit) => (fun (al nl ml : Nat) (tl : Nat → Int) (tr : Int) (vr : Int) (gr : Int) => decide (al + nl ≤ ml ∧ nl ≤ 1000000)) x.1.1 x.1.2.1 x.1.2.2.1 x.1.2.2.2.1 x.2.1.1.1 x.2.1.1.2.1 x.2.1.1.2.2.1, fun (x : (Nat × Nat × Nat × (Nat → Int) × Unit) × ((Int × Int × Int × Unit) × Unit) × Unit) => (fun (al nl ml : Nat) (tl : Nat → Int) (tr : Int) (vr : Int) (gr : Int) => (V53 al nl ml tl tr vr gr) (S.idx (fun j => decide (tl (j + al) ≥ tr ∨ tl (j + al) ≤ vr)) 0 nl)) x.1.1 x.1.2.1 x.1.2.2.1 x.1.2.2.2.1 x.2.1.1.1 x.2.1.1.2.1 x.2.1.1.2.2.1, fun (x : (Nat × Nat × Nat × (Nat → Int) × Unit) × ((Int × Int × Int × Unit) × Unit) × Unit) => (fun (al nl ml : Nat) (tl : Nat → Int) (tr : Int) (vr : Int) (gr : Int) => (N53 al nl ml tl tr vr gr) (S.idx (fun j => decide (tl (j + al) ≥ tr ∨ tl (j + al) ≤ vr)) 0 nl)) x.1.1 x.1.2.1 x.1.2.2.1 x.1.2.2.2.1 x.2.1.1.1 x.2.1.1.2.1 x.2.1.1.2.2.1, fun _ _ => .dead⟩
theorem s53' (al nl ml : Nat) (tl : Nat → Int) (tr : Int) (vr : Int) (gr : Int) (hp : al + nl ≤ ml ∧ nl ≤ 1000000) : ∀ k i : Nat, i + k = nl → Comes (q53 al nl ml tl tr vr gr) (.h0 (i : Int)) (S.idx (fun j => decide (tl (j + al) ≥ tr ∨ tl (j + al) ≤ vr)) i k) := by
  obtain ⟨hp1, hp2⟩ := hp
  intro k
  induction k with
  | zero =>
    intro i hi
    apply Comes.of
    show Goes _ _ _
    unfold q53
    repeat' first
      | with_reducible refine goes_if (fun h => ?_) (fun h => ?_) <;> (try simp only [lim64, decide_eq_true_eq, decide_eq_false_iff_not, Int.toNat_natCast, toNat_pred, toNat_succ, Option.getD_some, Option.getD_none, Bool.not_eq_true', Bool.not_eq_false', Bool.and_eq_true, Bool.or_eq_true, Bool.and_eq_false_iff, Bool.or_eq_false_iff, bne_iff_ne, beq_iff_eq, bne_eq_false_iff_eq, beq_eq_false_iff_ne, ne_eq, not_and, Int.not_le, Int.not_lt, ge_iff_le, gt_iff_lt, Nat.not_lt, Nat.not_le, Bool.not_eq_true, Bool.not_eq_false, Bool.true_eq_false, Bool.false_eq_true, not_false_eq_true, not_true_eq_false] at h)
      | exact goes_none.mpr (by omega)
    all_goals first | (exfalso; omega) | rfl | (refine Eq.mpr (congrArg (Comes _ _) ?_) True; simp only [S.idx, Bool.and_eq_true, Bool.or_eq_true, decide_eq_true_eq]; (repeat' split) <;> first | rfl | omega | (exfalso; omega) | (exfalso; simp_all; done) | (exfalso; simp_all; omega) | simp_all) | (refine goes_inr.mpr ?_; simp only [S.idx, Bool.and_eq_true, Bool.or_eq_true, decide_eq_true_eq]; (repeat' split) <;> first | rfl | omega | (exfalso; omega) | (exfalso; simp_all; done) | (exfalso; simp_all; omega) | simp_all)
  | succ k ih =>
    intro i hi
    have ih := ih (i + 1) (by omega)
    apply Comes.of
    show Goes _ _ _
    unfold q53
    repeat' first
      | with_reducible refine goes_if (fun h => ?_) (fun h => ?_) <;> (try simp only [lim64, decide_eq_true_eq, decide_eq_false_iff_not, Int.toNat_natCast, toNat_pred, toNat_succ, Option.getD_some, Option.getD_none, Bool.not_eq_true', Bool.not_eq_false', Bool.and_eq_true, Bool.or_eq_true, Bool.and_eq_false_iff, Bool.or_eq_false_iff, bne_iff_ne, beq_iff_eq, bne_eq_false_iff_eq, beq_eq_false_iff_ne, ne_eq, not_and, Int.not_le, Int.not_lt, ge_iff_le, gt_iff_lt, Nat.not_lt, Nat.not_le, Bool.not_eq_true, Bool.not_eq_false, Bool.true_eq_false, Bool.false_eq_true, not_false_eq_true, not_true_eq_false] at h)
      | exact goes_none.mpr (by omega)
    all_goals first | (exfalso; omega) | rfl | (refine Eq.mpr (congrArg (Comes _ _) ?_) ih; simp only [S.idx, Bool.and_eq_true, Bool.or_eq_true, decide_eq_true_eq]; (repeat' split) <;> first | rfl | omega | (exfalso; omega) | (exfalso; simp_all; done) | (exfalso; simp_all; omega) | simp_all) | (refine goes_inr.mpr ?_; simp only [S.idx, Bool.and_eq_true, Bool.or_eq_true, decide_eq_true_eq]; (repeat' split) <;> first | rfl | omega | (exfalso; omega) | (exfalso; simp_all; done) | (exfalso; simp_all; omega) | simp_all)
theorem s53 (al nl ml : Nat) (tl : Nat → Int) (tr : Int) (vr : Int) (gr : Int) (hp : al + nl ≤ ml ∧ nl ≤ 1000000) : Goes ((q53 al nl ml tl tr vr gr)) ((p53 al nl ml tl tr vr gr)) (S.idx (fun j => decide (tl (j + al) ≥ tr ∨ tl (j + al) ≤ vr)) 0 nl) := by
  exact s53' al nl ml tl tr vr gr hp nl 0 (by omega)
theorem k53_ok : k53.ok Try.prog := by
  intro x hx
  obtain ⟨⟨al, nl, ml, tl, _⟩, ⟨⟨tr, vr, gr, _⟩, _⟩, _⟩ := x
  obtain ⟨h1, h2⟩ := a53 al nl ml tl tr vr gr (s53 al nl ml tl tr vr gr (of_decide_eq_true hx))
  exact ⟨⟨400, (by decide : 2 + 1 + 0 ≤ 400), h1⟩, h2⟩


end Go.Ev
