/-
  Period, in the program and in the reference.
-/
import Derived.Test.YtejcmbcmhfejkaaA1
namespace Go.Ev
open Go.Proofs
set_option linter.unusedVariables false
set_option linter.unusedSimpArgs false
set_option maxRecDepth 100000
inductive St14 where
  | h0 (x0 : Int) (x1 : Int)
abbrev Rt14 := Int × Int
noncomputable def V14 (h1 : Int) (h2 : Int) (r : Rt14) : PV := PV.tup [PV.int IntKind.i64 r.1, PV.int IntKind.i64 r.2]
noncomputable def N14 (h1 : Int) (h2 : Int) (r : Rt14) : List Blk := []
noncomputable def I14 (h1 : Int) (h2 : Int) : St14 → Hd
  | .h0 x0 x1 => ⟨hd Try.f14 0, [PV.int IntKind.i64 h1, PV.int IntKind.i64 h2, PV.int IntKind.i64 x0,
 PV.int IntKind.i64 x1], [[], []], 0⟩
noncomputable def q14 (h1 : Int) (h2 : Int) : St14 → Option (St14 ⊕ Rt14)
  | .h0 x0 x1 => bif (decide (x1 > (0 : Int)))
 then (bif (decide (x1 = (0 : Int)))
 then (none)
 else (some (.inl (.h0 (x1) (Int.tmod x0 x1)))))
 else (bif (decide (x0 = (0 : Int)))
 then (none)
 else (bif (lim IntKind.i64 (Int.tdiv h1 x0))
 then (bif (lim IntKind.i64 (Int.tdiv h1 x0 * h2))
 then (some (.inr (Int.tdiv h1 x0 * h2, (0 : Int))))
 else (none))
 else (none)))
noncomputable def p14 (h1 : Int) (h2 : Int) : Option (St14 ⊕ Rt14) := bif (decide (h1 ≥ (1 : Int)))
 then (bif (decide (h1 ≤ (2000 : Int)))
 then (bif (decide (h2 ≥ (1 : Int)))
 then (bif (decide (h2 ≤ (2000 : Int)))
 then (some (.inl (.h0 (h1) (h2))))
 else (some (.inr ((0 : Int), (6 : Int)))))
 else (some (.inr ((0 : Int), (6 : Int)))))
 else (some (.inr ((0 : Int), (6 : Int)))))
 else (some (.inr ((0 : Int), (6 : Int))))
noncomputable def Te14 (test : Bool → Prop → Prop → Prop) (Kst : KS) (Kret : KR) (h1 : Int) (h2 : Int) : Prop :=
  test (decide (h1 ≥ (1 : Int)))
 (test (decide (h1 ≤ (2000 : Int)))
 (test (decide (h2 ≥ (1 : Int)))
 (test (decide (h2 ≤ (2000 : Int)))
 (Kst (hd Try.f14 0) ([PV.int IntKind.i64 h1, PV.int IntKind.i64 h2, PV.int IntKind.i64 h1,
 PV.int IntKind.i64 h2]) ([[]]) (0))
 (Kret (PV.tup [PV.int IntKind.i64 (0 : Int), PV.int IntKind.i64 (6 : Int)]) ([[]]) (0)))
 (Kret (PV.tup [PV.int IntKind.i64 (0 : Int), PV.int IntKind.i64 (6 : Int)]) ([[]]) (0)))
 (Kret (PV.tup [PV.int IntKind.i64 (0 : Int), PV.int IntKind.i64 (6 : Int)]) ([[]]) (0)))
 (Kret (PV.tup [PV.int IntKind.i64 (0 : Int), PV.int IntKind.i64 (6 : Int)]) ([[]]) (0))
set_option maxRecDepth 100000 in
theorem te14 (test : Bool → Prop → Prop → Prop) (Kst : KS) (Kret : KR) (h1 : Int) (h2 : Int) : run test Try.env true noX true 400 ⟨14, [.cd (mkFn Try.f14).body], argT 0 [.int .i64 h1, .int .i64 h2], [[], []], 0⟩ (proj 0 [0, 1, 6, 7] Kst Kret) =
  Te14 test Kst Kret h1 h2 := by kernel_rfl
noncomputable def T14_0 (test : Bool → Prop → Prop → Prop) (Kst : KS) (Kret : KR) (h1 : Int) (h2 : Int) (x0 : Int) (x1 : Int) : Prop :=
  test (decide (x1 > (0 : Int)))
 (test (decide (x1 = (0 : Int)))
 (False)
 (Kst (hd Try.f14 0) ([PV.int IntKind.i64 h1, PV.int IntKind.i64 h2, PV.int IntKind.i64 x1,
 PV.int IntKind.i64 (Int.tmod x0 x1)]) ([[]]) (0)))
 (test (decide (x0 = (0 : Int)))
 (False)
 (test (lim IntKind.i64 (Int.tdiv h1 x0))
 (test (lim IntKind.i64 (Int.tdiv h1 x0 * h2))
 (Kret (PV.tup [PV.int IntKind.i64 (Int.tdiv h1 x0 * h2), PV.int IntKind.i64 (0 : Int)]) ([[]]) (0))
 (False))
 (False)))
set_option maxRecDepth 100000 in
theorem t14_0 (test : Bool → Prop → Prop → Prop) (Kst : KS) (Kret : KR) (h1 : Int) (h2 : Int) (x0 : Int) (x1 : Int) : run test Try.env true noX true 400 ⟨14, hd Try.f14 0, zipT [0, 1, 6, 7] [PV.int IntKind.i64 h1, PV.int IntKind.i64 h2, PV.int IntKind.i64 x0,
 PV.int IntKind.i64 x1], [[], []], 0⟩ (proj 0 [0, 1, 6, 7] Kst Kret) =
  T14_0 test Kst Kret h1 h2 x0 x1 := by kernel_rfl
attribute [local irreducible] Int.subNatNat in
set_option maxRecDepth 100000 in
theorem be14 (h1 : Int) (h2 : Int) (Kst : KS) (Kret : KR) (x : St14 ⊕ Rt14) (hS : HS 0 400 ((I14 h1 h2)) Kst x) (hR : HR 0 400 ((V14 h1 h2)) (fun r => [newL (0 + 1) ((N14 h1 h2) r) ++ []]) Kret x) (h : (bif (decide (h1 ≥ (1 : Int)))
 then (bif (decide (h1 ≤ (2000 : Int)))
 then (bif (decide (h2 ≥ (1 : Int)))
 then (bif (decide (h2 ≤ (2000 : Int)))
 then (some (.inl (.h0 (h1) (h2))))
 else (some (.inr ((0 : Int), (6 : Int)))))
 else (some (.inr ((0 : Int), (6 : Int)))))
 else (some (.inr ((0 : Int), (6 : Int)))))
 else (some (.inr ((0 : Int), (6 : Int)))) : Option (St14 ⊕ Rt14)) = some x) : Te14 cond Kst Kret h1 h2 := by
  unfold Te14
  exact bif_split h
   (fun c0 h => bif_split h
   (fun c1 h => bif_split h
   (fun c2 h => bif_split h
   (fun c3 h => stop_at hS _ h (fun n => n) rfl rfl rfl ⟨(rn_int rfl), ⟨(rn_int rfl), ⟨(rn_int rfl), ⟨(rn_int rfl), trivial⟩⟩⟩⟩ rfl entl_nil)
   (fun c3 h => ret_at hR _ h (fun n => n) rfl rfl rfl (rn_tup ⟨(rn_int rfl), (rn_int rfl), trivial⟩) rfl entl_nil))
   (fun c2 h => ret_at hR _ h (fun n => n) rfl rfl rfl (rn_tup ⟨(rn_int rfl), (rn_int rfl), trivial⟩) rfl entl_nil))
   (fun c1 h => ret_at hR _ h (fun n => n) rfl rfl rfl (rn_tup ⟨(rn_int rfl), (rn_int rfl), trivial⟩) rfl entl_nil))
   (fun c0 h => ret_at hR _ h (fun n => n) rfl rfl rfl (rn_tup ⟨(rn_int rfl), (rn_int rfl), trivial⟩) rfl entl_nil)
attribute [local irreducible] Int.subNatNat in
set_option maxRecDepth 100000 in
theorem b14_0 (h1 : Int) (h2 : Int) (Kst : KS) (Kret : KR) (x : St14 ⊕ Rt14) (hS : HS 0 400 ((I14 h1 h2)) Kst x) (hR : HR 0 400 ((V14 h1 h2)) (fun r => [newL (0 + 1) ((N14 h1 h2) r) ++ []]) Kret x) (x0 : Int) (x1 : Int) (h : (bif (decide (x1 > (0 : Int)))
 then (bif (decide (x1 = (0 : Int)))
 then (none)
 else (some (.inl (.h0 (x1) (Int.tmod x0 x1)))))
 else (bif (decide (x0 = (0 : Int)))
 then (none)
 else (bif (lim IntKind.i64 (Int.tdiv h1 x0))
 then (bif (lim IntKind.i64 (Int.tdiv h1 x0 * h2))
 then (some (.inr (Int.tdiv h1 x0 * h2, (0 : Int))))
 else (none))
 else (none))) : Option (St14 ⊕ Rt14)) = some x) : T14_0 cond Kst Kret h1 h2 x0 x1 := by
  unfold T14_0
  exact bif_split h
   (fun c0 h => bif_split h
   (fun c1 h => no_some h)
   (fun c1 h => stop_at hS _ h (fun n => n) rfl rfl rfl ⟨(rn_int rfl), ⟨(rn_int rfl), ⟨(rn_int rfl), ⟨(rn_int rfl), trivial⟩⟩⟩⟩ rfl entl_nil))
   (fun c0 h => bif_split h
   (fun c1 h => no_some h)
   (fun c1 h => bif_split h
   (fun c2 h => bif_split h
   (fun c3 h => ret_at hR _ h (fun n => n) rfl rfl rfl (rn_tup ⟨(rn_int rfl), (rn_int rfl), trivial⟩) rfl entl_nil)
   (fun c3 h => no_some h))
   (fun c2 h => no_some h)))
theorem a14 (h1 : Int) (h2 : Int) {r : Rt14} (h : Goes ((q14 h1 h2)) ((p14 h1 h2)) r) : CallR Try.prog 14 [.int .i64 h1, .int .i64 h2] [[]] 0 ((V14 h1 h2) r) ((fun r => [newL (0 + 1) ((N14 h1 h2) r) ++ []]) r) 400 ∧ ∃ F, Try.prog.funcs[14]? = some F ∧ F.body.isSome = true ∧ (F.name == "runtime.NumGoroutine") = false := by
  refine dec_calls (f := 14) (lo := 0) (hi := 400) (H := [[]]) (args := [.int .i64 h1, .int .i64 h2]) Try.envOk Try.mixed noX_ok ((I14 h1 h2)) ((V14 h1 h2)) (fun r => [newL (0 + 1) ((N14 h1 h2) r) ++ []]) (fn := mkFn Try.f14) (ts := [0, 1, 6, 7]) (n := 400) rfl (by decide) (by simp) (names_of rfl) ?_ ?_ ?_ h
  · intro s; cases s <;> exact ⟨hd_ok _ _, by simp [I14], names_of rfl, Nat.le_of_ble_eq_true rfl⟩
  · intro Kst Kret x hS hR h
    exact Holds.eq (te14 cond Kst Kret h1 h2) (be14 h1 h2 Kst Kret x hS hR h)
  · intro Kst Kret x hS hR s h
    cases s with
    | h0 x0 x1 => exact Holds.eq (t14_0 cond Kst Kret h1 h2 x0 x1) (b14_0 h1 h2 Kst Kret x hS hR x0 x1 h)
noncomputable def k14 : Con := ⟨14, [.one (.plain (.int .i64)), .one (.plain (.int .i64))], fun (x : Int × Int × Unit) => (fun (h1 : Int) (h2 : Int) => decide (True)) x.1 x.2.1, fun (x : Int × Int × Unit) => (fun (h1 : Int) (h2 : Int) => (V14 h1 h2) (S.perS h1 h2)) x.1 x.2.1, fun (x : Int × Int × Unit) => (fun (h1 : Int) (h2 : Int) => (N14 h1 h2) (S.perS h1 h2)) x.1 x.2.1, fun _ _ => .dead⟩
theorem s14' (h1 : Int) (h2 : Int) (hh1 : 1 ≤ h1 ∧ h1 ≤ 2000) (hh2 : 1 ≤ h2 ∧ h2 ≤ 2000) : ∀ (n m : Nat), 0 < Nat.gcd m n → Comes (q14 h1 h2) (.h0 (m : Int) (n : Int)) (Int.tdiv h1 ((Nat.gcd m n : Nat) : Int) * h2, 0) := by
  intro n
  induction n using Nat.strongRecOn with
  | _ n ih =>
    intro m hg
    by_cases h0 : n = 0
    · subst h0
      rw [Nat.gcd_zero_right] at hg ⊢
      have hd := div_bnd hh1 (g := (m : Int)) (by omega)
      have hm := mul_bnd hd (h := h2) (by omega)
      apply Comes.of
      show Goes _ _ _
      (first | rw [q14] | unfold q14)
      repeat' first
        | with_reducible refine goes_if (fun h => ?_) (fun h => ?_) <;> (try simp only [lim64, imp_false, decide_eq_true_eq, decide_eq_false_iff_not, Int.toNat_natCast, toNat_pred, toNat_succ, Option.getD_some, Option.getD_none, Bool.not_eq_true', Bool.not_eq_false', Bool.and_eq_true, Bool.or_eq_true, Bool.and_eq_false_iff, Bool.or_eq_false_iff, bne_iff_ne, beq_iff_eq, bne_eq_false_iff_eq, beq_eq_false_iff_ne, ne_eq, not_and, Int.not_le, Int.not_lt, ge_iff_le, gt_iff_lt, Nat.not_lt, Nat.not_le, Bool.not_eq_true, Bool.not_eq_false, Bool.true_eq_false, Bool.false_eq_true, not_false_eq_true, not_true_eq_false] at h)
        | exact goes_none.mpr (by omega)
      all_goals first | (exfalso; omega) | rfl
    · have := ih (m % n) (Nat.mod_lt _ (by omega)) n
      rw [show Nat.gcd n (m % n) = Nat.gcd m n by rw [Nat.gcd_comm n, ← Nat.gcd_rec, Nat.gcd_comm]] at this
      have this := this hg
      apply Comes.of
      show Goes _ _ _
      (first | rw [q14] | unfold q14)
      repeat' first
        | with_reducible refine goes_if (fun h => ?_) (fun h => ?_) <;> (try simp only [lim64, imp_false, decide_eq_true_eq, decide_eq_false_iff_not, Int.toNat_natCast, toNat_pred, toNat_succ, Option.getD_some, Option.getD_none, Bool.not_eq_true', Bool.not_eq_false', Bool.and_eq_true, Bool.or_eq_true, Bool.and_eq_false_iff, Bool.or_eq_false_iff, bne_iff_ne, beq_iff_eq, bne_eq_false_iff_eq, beq_eq_false_iff_ne, ne_eq, not_and, Int.not_le, Int.not_lt, ge_iff_le, gt_iff_lt, Nat.not_lt, Nat.not_le, Bool.not_eq_true, Bool.not_eq_false, Bool.true_eq_false, Bool.false_eq_true, not_false_eq_true, not_true_eq_false] at h)
        | exact goes_none.mpr (by omega)
      all_goals first | (exfalso; omega) | exact this
theorem s14 (h1 : Int) (h2 : Int) (hp : True) : Goes ((q14 h1 h2)) ((p14 h1 h2)) (S.perS h1 h2) := by
  unfold S.perS
  by_cases hr : S.rgB h1 0 = true ∧ S.rgB h2 0 = true
  · rw [if_pos hr]
    rw [rg_ok, rg_ok] at hr
    obtain ⟨m, rfl⟩ := Int.eq_ofNat_of_zero_le (show 0 ≤ h1 by omega)
    obtain ⟨n, rfl⟩ := Int.eq_ofNat_of_zero_le (show 0 ≤ h2 by omega)
    have hm := s14' (m : Int) (n : Int) (by omega) (by omega) n m (Nat.gcd_pos_of_pos_left _ (by omega))
    show Goes _ _ _
    unfold p14
    repeat' first
      | with_reducible refine goes_if (fun h => ?_) (fun h => ?_) <;> (try simp only [lim64, imp_false, decide_eq_true_eq, decide_eq_false_iff_not, Int.toNat_natCast, toNat_pred, toNat_succ, Option.getD_some, Option.getD_none, Bool.not_eq_true', Bool.not_eq_false', Bool.and_eq_true, Bool.or_eq_true, Bool.and_eq_false_iff, Bool.or_eq_false_iff, bne_iff_ne, beq_iff_eq, bne_eq_false_iff_eq, beq_eq_false_iff_ne, ne_eq, not_and, Int.not_le, Int.not_lt, ge_iff_le, gt_iff_lt, Nat.not_lt, Nat.not_le, Bool.not_eq_true, Bool.not_eq_false, Bool.true_eq_false, Bool.false_eq_true, not_false_eq_true, not_true_eq_false] at h)
      | exact goes_none.mpr (by omega)
    all_goals first | (exfalso; omega) | exact hm
  · rw [if_neg hr]
    rw [rg_ok, rg_ok] at hr
    show Goes _ _ _
    unfold p14
    repeat' first
      | with_reducible refine goes_if (fun h => ?_) (fun h => ?_) <;> (try simp only [lim64, imp_false, decide_eq_true_eq, decide_eq_false_iff_not, Int.toNat_natCast, toNat_pred, toNat_succ, Option.getD_some, Option.getD_none, Bool.not_eq_true', Bool.not_eq_false', Bool.and_eq_true, Bool.or_eq_true, Bool.and_eq_false_iff, Bool.or_eq_false_iff, bne_iff_ne, beq_iff_eq, bne_eq_false_iff_eq, beq_eq_false_iff_ne, ne_eq, not_and, Int.not_le, Int.not_lt, ge_iff_le, gt_iff_lt, Nat.not_lt, Nat.not_le, Bool.not_eq_true, Bool.not_eq_false, Bool.true_eq_false, Bool.false_eq_true, not_false_eq_true, not_true_eq_false] at h)
      | exact goes_none.mpr (by omega)
    all_goals first | (exfalso; omega) | rfl

theorem k14_ok : k14.ok Try.prog := by
  intro x hx
  obtain ⟨h1, h2, _⟩ := x
  obtain ⟨h1, h2⟩ := a14 h1 h2 (s14 h1 h2 (of_dec hx rfl))
  exact ⟨⟨400, (by decide : 0 + 1 + 0 ≤ 400), h1⟩, h2⟩
abbrev St15 := Empty
abbrev Rt15 := Int × Int
noncomputable def V15 (h1 : Int) (h2 : Int) (r : Rt15) : PV := PV.tup [PV.int IntKind.i64 r.1, PV.int IntKind.i64 r.2]
noncomputable def N15 (h1 : Int) (h2 : Int) (r : Rt15) : List Blk := []
noncomputable def I15 (h1 : Int) (h2 : Int) : St15 → Hd := fun s => s.elim
noncomputable def q15 (h1 : Int) (h2 : Int) : St15 → Option (St15 ⊕ Rt15) := fun s => s.elim
noncomputable def p15 (h1 : Int) (h2 : Int) : Option (St15 ⊕ Rt15) := bif (decide (h1 ≥ (1 : Int)))
 then (bif (decide (h1 ≤ (2000 : Int)))
 then (bif (decide ((0 : Int) < h1))
 then (bif (decide (h2 ≥ (1 : Int)))
 then (bif (decide (h2 ≤ (2000 : Int)))
 then (bif (decide ((0 : Int) < h2))
 then (bif (decide ((0 : Int) ≤ h1 ∧ (0 : Int) ≤ h2))
 then (bif (decide (S.gcdI h1 h2 = (0 : Int)))
 then (none)
 else (bif (lim IntKind.i64 (Int.tdiv h1 (S.gcdI h1 h2)))
 then (bif (lim IntKind.i64 (Int.tdiv h1 (S.gcdI h1 h2) * h2))
 then (some (.inr (Int.tdiv h1 (S.gcdI h1 h2) * h2, (0 : Int))))
 else (none))
 else (none)))
 else (none))
 else (some (.inr ((0 : Int), (6 : Int)))))
 else (some (.inr ((0 : Int), (6 : Int)))))
 else (some (.inr ((0 : Int), (6 : Int)))))
 else (some (.inr ((0 : Int), (6 : Int)))))
 else (some (.inr ((0 : Int), (6 : Int)))))
 else (some (.inr ((0 : Int), (6 : Int))))
noncomputable def Te15 (test : Bool → Prop → Prop → Prop) (Kst : KS) (Kret : KR) (h1 : Int) (h2 : Int) : Prop :=
  test (decide (h1 ≥ (1 : Int)))
 (test (decide (h1 ≤ (2000 : Int)))
 (test (true)
 (test (decide ((0 : Int) < h1))
 (test (decide (h2 ≥ (1 : Int)))
 (test (decide (h2 ≤ (2000 : Int)))
 (test (true)
 (test (decide ((0 : Int) < h2))
 (test (decide ((0 : Int) ≤ h1 ∧ (0 : Int) ≤ h2))
 (test (decide (S.gcdI h1 h2 = (0 : Int)))
 (False)
 (test (lim IntKind.i64 (Int.tdiv h1 (S.gcdI h1 h2)))
 (test (lim IntKind.i64 (Int.tdiv h1 (S.gcdI h1 h2) * h2))
 (Kret (PV.tup
 [PV.int IntKind.i64 (Int.tdiv h1 (S.gcdI h1 h2) * h2), PV.int IntKind.i64 (0 : Int)]) ([[]]) (1))
 (False))
 (False)))
 (False))
 (Kret (PV.tup [PV.int IntKind.i64 (0 : Int), PV.int IntKind.i64 (6 : Int)]) ([[]]) (0)))
 (Kret (PV.tup [PV.int IntKind.i64 (0 : Int), PV.int IntKind.i64 (6 : Int)]) ([[]]) (0)))
 (Kret (PV.tup [PV.int IntKind.i64 (0 : Int), PV.int IntKind.i64 (6 : Int)]) ([[]]) (0)))
 (Kret (PV.tup [PV.int IntKind.i64 (0 : Int), PV.int IntKind.i64 (6 : Int)]) ([[]]) (0)))
 (Kret (PV.tup [PV.int IntKind.i64 (0 : Int), PV.int IntKind.i64 (6 : Int)]) ([[]]) (0)))
 (Kret (PV.tup [PV.int IntKind.i64 (0 : Int), PV.int IntKind.i64 (6 : Int)]) ([[]]) (0)))
 (Kret (PV.tup [PV.int IntKind.i64 (0 : Int), PV.int IntKind.i64 (6 : Int)]) ([[]]) (0)))
 (Kret (PV.tup [PV.int IntKind.i64 (0 : Int), PV.int IntKind.i64 (6 : Int)]) ([[]]) (0))
set_option maxRecDepth 100000 in
theorem te15 (test : Bool → Prop → Prop → Prop) (Kst : KS) (Kret : KR) (h1 : Int) (h2 : Int) : run test Try.env true (xA test) true 400 ⟨15, [.cd (mkFn Try.f15).body], argT 0 [.int .i64 h1, .int .i64 h2], [[], []], 0⟩ (proj 0 [] Kst Kret) =
  Te15 test Kst Kret h1 h2 := by kernel_rfl
attribute [local irreducible] Int.subNatNat in
set_option maxRecDepth 100000 in
theorem be15 (h1 : Int) (h2 : Int) (Kst : KS) (Kret : KR) (x : St15 ⊕ Rt15) (hS : HS 0 400 ((I15 h1 h2)) Kst x) (hR : HR 0 400 ((V15 h1 h2)) (fun r => [newL (0 + 1) ((N15 h1 h2) r) ++ []]) Kret x) (h : (bif (decide (h1 ≥ (1 : Int)))
 then (bif (decide (h1 ≤ (2000 : Int)))
 then (bif (decide ((0 : Int) < h1))
 then (bif (decide (h2 ≥ (1 : Int)))
 then (bif (decide (h2 ≤ (2000 : Int)))
 then (bif (decide ((0 : Int) < h2))
 then (bif (decide ((0 : Int) ≤ h1 ∧ (0 : Int) ≤ h2))
 then (bif (decide (S.gcdI h1 h2 = (0 : Int)))
 then (none)
 else (bif (lim IntKind.i64 (Int.tdiv h1 (S.gcdI h1 h2)))
 then (bif (lim IntKind.i64 (Int.tdiv h1 (S.gcdI h1 h2) * h2))
 then (some (.inr (Int.tdiv h1 (S.gcdI h1 h2) * h2, (0 : Int))))
 else (none))
 else (none)))
 else (none))
 else (some (.inr ((0 : Int), (6 : Int)))))
 else (some (.inr ((0 : Int), (6 : Int)))))
 else (some (.inr ((0 : Int), (6 : Int)))))
 else (some (.inr ((0 : Int), (6 : Int)))))
 else (some (.inr ((0 : Int), (6 : Int)))))
 else (some (.inr ((0 : Int), (6 : Int)))) : Option (St15 ⊕ Rt15)) = some x) : Te15 cond Kst Kret h1 h2 := by
  unfold Te15
  exact bif_split h
   (fun c0 h => bif_split h
   (fun c1 h => cond_yes rfl (bif_split h
   (fun c2 h => bif_split h
   (fun c3 h => bif_split h
   (fun c4 h => cond_yes rfl (bif_split h
   (fun c5 h => bif_split h
   (fun c6 h => bif_split h
   (fun c7 h => no_some h)
   (fun c7 h => bif_split h
   (fun c8 h => bif_split h
   (fun c9 h => ret_at hR _ h (fun n => n) rfl rfl rfl (rn_tup ⟨(rn_int rfl), (rn_int rfl), trivial⟩) rfl entl_nil)
   (fun c9 h => no_some h))
   (fun c8 h => no_some h)))
   (fun c6 h => no_some h))
   (fun c5 h => ret_at hR _ h (fun n => n) rfl rfl rfl (rn_tup ⟨(rn_int rfl), (rn_int rfl), trivial⟩) rfl entl_nil)))
   (fun c4 h => ret_at hR _ h (fun n => n) rfl rfl rfl (rn_tup ⟨(rn_int rfl), (rn_int rfl), trivial⟩) rfl entl_nil))
   (fun c3 h => ret_at hR _ h (fun n => n) rfl rfl rfl (rn_tup ⟨(rn_int rfl), (rn_int rfl), trivial⟩) rfl entl_nil))
   (fun c2 h => ret_at hR _ h (fun n => n) rfl rfl rfl (rn_tup ⟨(rn_int rfl), (rn_int rfl), trivial⟩) rfl entl_nil)))
   (fun c1 h => ret_at hR _ h (fun n => n) rfl rfl rfl (rn_tup ⟨(rn_int rfl), (rn_int rfl), trivial⟩) rfl entl_nil))
   (fun c0 h => ret_at hR _ h (fun n => n) rfl rfl rfl (rn_tup ⟨(rn_int rfl), (rn_int rfl), trivial⟩) rfl entl_nil)
theorem a15 (h1 : Int) (h2 : Int) {r : Rt15} (h : Goes ((q15 h1 h2)) ((p15 h1 h2)) r) : CallR Try.prog 15 [.int .i64 h1, .int .i64 h2] [[]] 0 ((V15 h1 h2) r) ((fun r => [newL (0 + 1) ((N15 h1 h2) r) ++ []]) r) 400 ∧ ∃ F, Try.prog.funcs[15]? = some F ∧ F.body.isSome = true ∧ (F.name == "runtime.NumGoroutine") = false := by
  refine dec_calls (f := 15) (lo := 0) (hi := 400) (H := [[]]) (args := [.int .i64 h1, .int .i64 h2]) Try.envOk Try.mixed xA_ok ((I15 h1 h2)) ((V15 h1 h2)) (fun r => [newL (0 + 1) ((N15 h1 h2) r) ++ []]) (fn := mkFn Try.f15) (ts := []) (n := 400) rfl (by decide) (by simp) (names_of rfl) ?_ ?_ ?_ h
  · intro s; exact s.elim
  · intro Kst Kret x hS hR h
    exact Holds.eq (te15 cond Kst Kret h1 h2) (be15 h1 h2 Kst Kret x hS hR h)
  · intro Kst Kret x hS hR s h; exact s.elim
noncomputable def k15 : Con := ⟨15, [.one (.plain (.int .i64)), .one (.plain (.int .i64))], fun (x : Int × Int × Unit) => (fun (h1 : Int) (h2 : Int) => decide (True)) x.1 x.2.1, fun (x : Int × Int × Unit) => (fun (h1 : Int) (h2 : Int) => (V15 h1 h2) (S.perS h1 h2)) x.1 x.2.1, fun (x : Int × Int × Unit) => (fun (h1 : Int) (h2 : Int) => (N15 h1 h2) (S.perS h1 h2)) x.1 x.2.1, fun _ _ => .dead⟩
theorem s15 (h1 : Int) (h2 : Int) (hp : True) : Goes ((q15 h1 h2)) ((p15 h1 h2)) (S.perS h1 h2) := by
  unfold S.perS
  by_cases hr : S.rgB h1 0 = true ∧ S.rgB h2 0 = true
  · rw [if_pos hr]
    rw [rg_ok, rg_ok] at hr
    have hg := gcd_pos' (a := h1) (c := h2) (by omega)
    have hd := div_bnd (h := h1) (g := S.gcdI h1 h2) (by omega) hg
    have hm := mul_bnd hd (h := h2) (by omega)
    show Goes _ _ _
    unfold p15
    repeat' first
      | with_reducible refine goes_if (fun h => ?_) (fun h => ?_) <;> (try simp only [lim64, imp_false, decide_eq_true_eq, decide_eq_false_iff_not, Int.toNat_natCast, toNat_pred, toNat_succ, Option.getD_some, Option.getD_none, Bool.not_eq_true', Bool.not_eq_false', Bool.and_eq_true, Bool.or_eq_true, Bool.and_eq_false_iff, Bool.or_eq_false_iff, bne_iff_ne, beq_iff_eq, bne_eq_false_iff_eq, beq_eq_false_iff_ne, ne_eq, not_and, Int.not_le, Int.not_lt, ge_iff_le, gt_iff_lt, Nat.not_lt, Nat.not_le, Bool.not_eq_true, Bool.not_eq_false, Bool.true_eq_false, Bool.false_eq_true, not_false_eq_true, not_true_eq_false] at h)
      | exact goes_none.mpr (by omega)
    all_goals first | (exfalso; omega) | rfl
  · rw [if_neg hr]
    rw [rg_ok, rg_ok] at hr
    show Goes _ _ _
    unfold p15
    repeat' first
      | with_reducible refine goes_if (fun h => ?_) (fun h => ?_) <;> (try simp only [lim64, imp_false, decide_eq_true_eq, decide_eq_false_iff_not, Int.toNat_natCast, toNat_pred, toNat_succ, Option.getD_some, Option.getD_none, Bool.not_eq_true', Bool.not_eq_false', Bool.and_eq_true, Bool.or_eq_true, Bool.and_eq_false_iff, Bool.or_eq_false_iff, bne_iff_ne, beq_iff_eq, bne_eq_false_iff_eq, beq_eq_false_iff_ne, ne_eq, not_and, Int.not_le, Int.not_lt, ge_iff_le, gt_iff_lt, Nat.not_lt, Nat.not_le, Bool.not_eq_true, Bool.not_eq_false, Bool.true_eq_false, Bool.false_eq_true, not_false_eq_true, not_true_eq_false] at h)
      | exact goes_none.mpr (by omega)
    all_goals first | (exfalso; omega) | rfl

theorem k15_ok : k15.ok Try.prog := by
  intro x hx
  obtain ⟨h1, h2, _⟩ := x
  obtain ⟨h1, h2⟩ := a15 h1 h2 (s15 h1 h2 (of_dec hx rfl))
  exact ⟨⟨400, (by decide : 0 + 1 + 0 ≤ 400), h1⟩, h2⟩

end Go.Ev
