/-
  The parts that the statement needs, 4 of 4.
-/
import Derived.Test.YtpnklpakehlbeaaV53
namespace Go.Ev
open Go.Proofs
open Go.IntWalk
set_option linter.unusedVariables false
set_option linter.unusedSimpArgs false
set_option maxRecDepth 100000
theorem a27 (aq nq mq : Nat) (tq : Nat → ByteArray) (vq : Nat → Int) (gq : Nat → Int) (de : Int) (st : Int) {r : Rt27} (h : Goes ((q27 aq nq mq tq vq gq de st)) ((p27 aq nq mq tq vq gq de st)) r) : CallR Try.prog 27 [.agg [.loose ⟨0, 3, aq, 0⟩ nq, .int .i64 de], .int .i64 st] [[(0, (false, .cols mq [.str tq, .int .i64 vq, .int .i64 gq]))]] 1 ((V27 aq nq mq tq vq gq de st) r) ((fun r => [newL (1 + 1) ((N27 aq nq mq tq vq gq de st) r) ++ [(0, (false, .cols mq [.str tq, .int .i64 vq, .int .i64 gq]))]]) r) 400 ∧ ∃ F, Try.prog.funcs[27]? = some F ∧ F.body.isSome = true ∧ (F.name == "runtime.NumGoroutine") = false := by
  refine dec_calls (f := 27) (lo := 1) (hi := 400) (H := [[(0, (false, .cols mq [.str tq, .int .i64 vq, .int .i64 gq]))]]) (args := [.agg [.loose ⟨0, 3, aq, 0⟩ nq, .int .i64 de], .int .i64 st]) Try.envOk Try.mixed xZ_ok ((I27 aq nq mq tq vq gq de st)) ((V27 aq nq mq tq vq gq de st)) (fun r => [newL (1 + 1) ((N27 aq nq mq tq vq gq de st) r) ++ [(0, (false, .cols mq [.str tq, .int .i64 vq, .int .i64 gq]))]]) (fn := mkFn Try.f27) (ts := [7, 8, 9, 11, 29, 30, 31, 39, 40, 41]) (n := 400) rfl (by decide) (by simp) (names_of rfl) ?_ ?_ ?_ h
  · intro s; cases s <;> exact ⟨hd_ok _ _, by simp [I27], names_of rfl, Nat.le_of_ble_eq_true rfl⟩
  · intro Kst Kret x hS hR h
    exact Holds.eq (te27 cond Kst Kret aq nq mq tq vq gq de st) (be27 aq nq mq tq vq gq de st Kst Kret x hS hR h)
  · intro Kst Kret x hS hR s h
    cases s with
    | h0 x0 x1 x2 x3 => exact Holds.eq (t27_0 cond Kst Kret aq nq mq tq vq gq de st x0 x1 x2 x3) (b27_0 aq nq mq tq vq gq de st Kst Kret x hS hR x0 x1 x2 x3 h)
    | h1 x0 x1 x2 x3 x4 x5 x6 x7 x8 x9 x10 => exact Holds.eq (t27_1 cond Kst Kret aq nq mq tq vq gq de st x0 x1 x2 x3 x4 x5 x6 x7 x8 x9 x10) (b27_1 aq nq mq tq vq gq de st Kst Kret x hS hR x0 x1 x2 x3 x4 x5 x6 x7 x8 x9 x10 h)
noncomputable def k27 : Con := ⟨27, [.agg [.list [.str, .int .i64, .int .i64], .plain (.int .i64)], .one (.plain (.int .i64))], fun (x : ((Nat × Nat × Nat × (Nat → ByteArray) × (Nat → Int) × (Nat → Int) × Unit) × Int × Unit) × Int × Unit) => (fun (aq nq mq : Nat) (tq : Nat → ByteArray) (vq : Nat → Int) (gq : Nat → Int) (de : Int) (st : Int) => decide (aq + nq ≤ mq ∧ nq ≤ 1000000)) x.1.1.1 x.1.1.2.1 x.1.1.2.2.1 x.1.1.2.2.2.1 x.1.1.2.2.2.2.1 x.1.1.2.2.2.2.2.1 x.1.2.1 x.2.1, fun (x : ((Nat × Nat × Nat × (Nat → ByteArray) × (Nat → Int) × (Nat → Int) × Unit) × Int × Unit) × Int × Unit) => (fun (aq nq mq : Nat) (tq : Nat → ByteArray) (vq : Nat → Int) (gq : Nat → Int) (de : Int) (st : Int) => (V27 aq nq mq tq vq gq de st) (S.dblE nq (S.netE nq (fun j => tq (j + aq)) (fun j => vq (j + aq)) (fun j => gq (j + aq)) de) st)) x.1.1.1 x.1.1.2.1 x.1.1.2.2.1 x.1.1.2.2.2.1 x.1.1.2.2.2.2.1 x.1.1.2.2.2.2.2.1 x.1.2.1 x.2.1, fun (x : ((Nat × Nat × Nat × (Nat → ByteArray) × (Nat → Int) × (Nat → Int) × Unit) × Int × Unit) × Int × Unit) => (fun (aq nq mq : Nat) (tq : Nat → ByteArray) (vq : Nat → Int) (gq : Nat → Int) (de : Int) (st : Int) => (N27 aq nq mq tq vq gq de st) (S.dblE nq (S.netE nq (fun j => tq (j + aq)) (fun j => vq (j + aq)) (fun j => gq (j + aq)) de) st)) x.1.1.1 x.1.1.2.1 x.1.1.2.2.1 x.1.1.2.2.2.1 x.1.1.2.2.2.2.1 x.1.1.2.2.2.2.2.1 x.1.2.1 x.2.1, fun _ _ => .dead⟩
theorem s27i (aq nq mq : Nat) (tq : Nat → ByteArray) (vq : Nat → Int) (gq : Nat → Int) (de : Int) (st : Int) (hn : nq ≤ 12) (W : List Bool) (hW : Holds (W = S.mkl nq (fun (r : Nat) => !S.any (fun j => decide (S.lit [st] 0 j = (r : Int))) 1))) (L : List (Int × Int × Int)) (hL : L.length ≤ 62) (i : Nat) (hi : i < L.length) (hs : S.failL nq = L) (R : Rt27) (xk xl xp : Int) (hx : S.at' L i = (xk, xl, xp)) : ∀ (c j : Nat) (D : List S.P6), j + c = L.length - (i + 1) → D.length ≤ 62 * i + j → Comes (q27 aq nq mq tq vq gq de st) (.h0 (((i + 1 : Nat)) : Int) L W (S.fold (S.dblT nq st L i) (j + (i + 1)) c D)) R → Comes (q27 aq nq mq tq vq gq de st) (.h1 (i : Int) (i + 1) (L.length - (i + 1)) (((L.length - (i + 1) : Nat)) : Int) (j : Int) L W xk xl xp D) R := by
  have hwl : W.length = nq := by rw [hW.get, mkl_len]
  have htw : ∀ y : Int × Int × Int, S.safB nq (fun j => S.at' W j) 2 (fun j => S.lit [xk, y.1] 0 j) (fun j => S.lit [xl, y.2.1] 0 j) (fun j => S.lit [xp, y.2.2] 0 j) = S.twoB nq st (xk, xl, xp) y := fun y => two_eq (x := (xk, xl, xp)) (fun r hr => by
    rw [hW.get, at_mkl hr]
    exact lost_eq r)
  intro c
  induction c with
  | zero =>
    intro j D hj hD hm
    rw [Int.natCast_add, Int.natCast_one] at hm
    apply Comes.of
    show Goes _ _ _
    (first | rw [q27] | unfold q27)
    repeat' first
      | with_reducible refine goes_if (fun h => ?_) (fun h => ?_) <;> (try simp only [lim64, imp_false, decide_eq_true_eq, decide_eq_false_iff_not, Int.toNat_natCast, toNat_pred, toNat_succ, Option.getD_some, Option.getD_none, Bool.not_eq_true', Bool.not_eq_false', Bool.and_eq_true, Bool.or_eq_true, Bool.and_eq_false_iff, Bool.or_eq_false_iff, bne_iff_ne, beq_iff_eq, bne_eq_false_iff_eq, beq_eq_false_iff_ne, ne_eq, not_and, Int.not_le, Int.not_lt, ge_iff_le, gt_iff_lt, Nat.not_lt, Nat.not_le, Bool.not_eq_true, Bool.not_eq_false, Bool.true_eq_false, Bool.false_eq_true, not_false_eq_true, not_true_eq_false] at h)
      | exact goes_none.mpr (by omega)
    all_goals first | (exfalso; omega) | exact hm
  | succ c ih =>
    intro j D hj hD hm
    simp only [S.fold] at hm
    rw [show j + (i + 1) + 1 = j + 1 + (i + 1) by omega] at hm
    have eD : S.dblT nq st L i D (j + (i + 1)) = if S.twoB nq st (xk, xl, xp) (S.at' L (j + (i + 1))) = true then D else S.snoc D (xk, xl, xp, (S.at' L (j + (i + 1))).1, (S.at' L (j + (i + 1))).2.1, (S.at' L (j + (i + 1))).2.2) := by unfold S.dblT; rw [hx]
    rw [eD] at hm
    by_cases ht : S.twoB nq st (xk, xl, xp) (S.at' L (j + (i + 1))) = true
    · rw [if_pos ht] at hm
      have ih := ih (j + 1) D (by omega) (by omega) hm
      clear hm
      apply Comes.of
      show Goes _ _ _
      (first | rw [q27] | unfold q27)
      try simp only [Int.toNat_natCast, hwl, htw, ht]
      try show Goes _ _ _
      repeat' first
        | with_reducible refine goes_if (fun h => ?_) (fun h => ?_) <;> (try simp only [lim64, imp_false, decide_eq_true_eq, decide_eq_false_iff_not, Int.toNat_natCast, toNat_pred, toNat_succ, Option.getD_some, Option.getD_none, Bool.not_eq_true', Bool.not_eq_false', Bool.and_eq_true, Bool.or_eq_true, Bool.and_eq_false_iff, Bool.or_eq_false_iff, bne_iff_ne, beq_iff_eq, bne_eq_false_iff_eq, beq_eq_false_iff_ne, ne_eq, not_and, Int.not_le, Int.not_lt, ge_iff_le, gt_iff_lt, Nat.not_lt, Nat.not_le, Bool.not_eq_true, Bool.not_eq_false, Bool.true_eq_false, Bool.false_eq_true, not_false_eq_true, not_true_eq_false] at h)
        | exact goes_none.mpr (by omega)
      all_goals first | (exfalso; omega) | exact ih | (exfalso; simp_all; done)
    · rw [if_neg ht] at hm
      rw [Bool.not_eq_true] at ht
      have ih := ih (j + 1) _ (by omega) (by rw [snoc_len]; omega) hm
      clear hm
      apply Comes.of
      show Goes _ _ _
      (first | rw [q27] | unfold q27)
      try simp only [Int.toNat_natCast, hwl, htw, ht]
      try show Goes _ _ _
      repeat' first
        | with_reducible refine goes_if (fun h => ?_) (fun h => ?_) <;> (try simp only [lim64, imp_false, decide_eq_true_eq, decide_eq_false_iff_not, Int.toNat_natCast, toNat_pred, toNat_succ, Option.getD_some, Option.getD_none, Bool.not_eq_true', Bool.not_eq_false', Bool.and_eq_true, Bool.or_eq_true, Bool.and_eq_false_iff, Bool.or_eq_false_iff, bne_iff_ne, beq_iff_eq, bne_eq_false_iff_eq, beq_eq_false_iff_ne, ne_eq, not_and, Int.not_le, Int.not_lt, ge_iff_le, gt_iff_lt, Nat.not_lt, Nat.not_le, Bool.not_eq_true, Bool.not_eq_false, Bool.true_eq_false, Bool.false_eq_true, not_false_eq_true, not_true_eq_false] at h)
        | exact goes_none.mpr (by omega)
      all_goals first | (exfalso; omega) | exact ih | (exfalso; simp_all; done)
theorem s27' (aq nq mq : Nat) (tq : Nat → ByteArray) (vq : Nat → Int) (gq : Nat → Int) (de : Int) (st : Int) (hn : nq ≤ 12) (W : List Bool) (hW : Holds (W = S.mkl nq (fun (r : Nat) => !S.any (fun j => decide (S.lit [st] 0 j = (r : Int))) 1))) (L : List (Int × Int × Int)) (hL : L.length ≤ 62) (hs : S.failL nq = L) : ∀ (c i : Nat) (D : List S.P6), i + c = L.length → D.length ≤ 62 * i → Comes (q27 aq nq mq tq vq gq de st) (.h0 (i : Int) L W D) (0, S.fold (fun D i => S.fold (S.dblT nq st L i) (i + 1) (L.length - (i + 1)) D) i c D) := by
  intro c
  induction c with
  | zero =>
    intro i D hi hD
    apply Comes.of
    show Goes _ _ _
    (first | rw [q27] | unfold q27)
    try simp only [hs]
    try show Goes _ _ _
    repeat' first
      | with_reducible refine goes_if (fun h => ?_) (fun h => ?_) <;> (try simp only [lim64, imp_false, decide_eq_true_eq, decide_eq_false_iff_not, Int.toNat_natCast, toNat_pred, toNat_succ, Option.getD_some, Option.getD_none, Bool.not_eq_true', Bool.not_eq_false', Bool.and_eq_true, Bool.or_eq_true, Bool.and_eq_false_iff, Bool.or_eq_false_iff, bne_iff_ne, beq_iff_eq, bne_eq_false_iff_eq, beq_eq_false_iff_ne, ne_eq, not_and, Int.not_le, Int.not_lt, ge_iff_le, gt_iff_lt, Nat.not_lt, Nat.not_le, Bool.not_eq_true, Bool.not_eq_false, Bool.true_eq_false, Bool.false_eq_true, not_false_eq_true, not_true_eq_false] at h)
      | exact goes_none.mpr (by omega)
    all_goals first | (exfalso; omega) | exact goes_inr.mpr rfl
  | succ c ih =>
    intro i D hi hD
    have hm := s27i aq nq mq tq vq gq de st hn W hW L hL i (by omega) hs _ _ _ _ rfl (L.length - (i + 1)) 0 D (Nat.zero_add _) (by omega) (by
      rw [Nat.zero_add]
      exact ih (i + 1) _ (by omega) (by have := dbl_len (n := nq) (st := st) (L := L) (i := i) (c := L.length - (i + 1)) (k := i + 1) (D := D); omega))
    have e1 : ((i : Int) + 1).toNat = i + 1 := by omega
    apply Comes.of
    show Goes _ _ _
    (first | rw [q27] | unfold q27)
    try simp only [hs, e1, Int.toNat_natCast]
    try show Goes _ _ _
    repeat' first
      | with_reducible refine goes_if (fun h => ?_) (fun h => ?_) <;> (try simp only [lim64, imp_false, decide_eq_true_eq, decide_eq_false_iff_not, Int.toNat_natCast, toNat_pred, toNat_succ, Option.getD_some, Option.getD_none, Bool.not_eq_true', Bool.not_eq_false', Bool.and_eq_true, Bool.or_eq_true, Bool.and_eq_false_iff, Bool.or_eq_false_iff, bne_iff_ne, beq_iff_eq, bne_eq_false_iff_eq, beq_eq_false_iff_ne, ne_eq, not_and, Int.not_le, Int.not_lt, ge_iff_le, gt_iff_lt, Nat.not_lt, Nat.not_le, Bool.not_eq_true, Bool.not_eq_false, Bool.true_eq_false, Bool.false_eq_true, not_false_eq_true, not_true_eq_false] at h)
      | exact goes_none.mpr (by omega)
    all_goals first | (exfalso; omega) | exact hm
theorem s27 (aq nq mq : Nat) (tq : Nat → ByteArray) (vq : Nat → Int) (gq : Nat → Int) (de : Int) (st : Int) (hp : aq + nq ≤ mq ∧ nq ≤ 1000000) : Goes ((q27 aq nq mq tq vq gq de st)) ((p27 aq nq mq tq vq gq de st)) (S.dblE nq (S.netE nq (fun j => tq (j + aq)) (fun j => vq (j + aq)) (fun j => gq (j + aq)) de) st) := by
  unfold S.dblE
  by_cases h0 : (S.netE nq (fun j => tq (j + aq)) (fun j => vq (j + aq)) (fun j => gq (j + aq)) de) = 0
  · obtain ⟨v1, v2, v3⟩ := net_ok h0
    have hf := fail_len (n := nq)
    rw [if_pos h0]
    by_cases hs : 0 ≤ st ∧ st < (nq : Int)
    · have hm := s27' aq nq mq tq vq gq de st v1.2 _ ⟨rfl⟩ (S.failL nq) (by omega) rfl _ 0 [] (Nat.zero_add _) (Nat.zero_le _)
      have h3 : S.all (fun j => decide (0 ≤ S.lit [st] 0 j ∧ S.lit [st] 0 j < (nq : Int))) 1 = true := all_iff.mpr fun j hj => by
        obtain rfl : j = 0 := by omega
        exact decide_eq_true hs
      obtain ⟨hp1, hp2⟩ := hp
      rw [if_pos hs]
      unfold p27
      simp only [h0, h3, eq_self, and_true]
      show Goes _ _ _
      repeat' first
        | with_reducible refine goes_if (fun h => ?_) (fun h => ?_) <;> (try simp only [lim64, imp_false, decide_eq_true_eq, decide_eq_false_iff_not, Int.toNat_natCast, toNat_pred, toNat_succ, Option.getD_some, Option.getD_none, Bool.not_eq_true', Bool.not_eq_false', Bool.and_eq_true, Bool.or_eq_true, Bool.and_eq_false_iff, Bool.or_eq_false_iff, bne_iff_ne, beq_iff_eq, bne_eq_false_iff_eq, beq_eq_false_iff_ne, ne_eq, not_and, Int.not_le, Int.not_lt, ge_iff_le, gt_iff_lt, Nat.not_lt, Nat.not_le, Bool.not_eq_true, Bool.not_eq_false, Bool.true_eq_false, Bool.false_eq_true, not_false_eq_true, not_true_eq_false] at h)
        | exact goes_none.mpr (by omega)
      all_goals first | (exfalso; omega) | exact hm | (exfalso; simp_all; done)
    · obtain ⟨hp1, hp2⟩ := hp
      rw [if_neg hs]
      unfold p27
      simp only [h0]
      show Goes _ _ _
      repeat' first
        | with_reducible refine goes_if (fun h => ?_) (fun h => ?_) <;> (try simp only [lim64, imp_false, decide_eq_true_eq, decide_eq_false_iff_not, Int.toNat_natCast, toNat_pred, toNat_succ, Option.getD_some, Option.getD_none, Bool.not_eq_true', Bool.not_eq_false', Bool.and_eq_true, Bool.or_eq_true, Bool.and_eq_false_iff, Bool.or_eq_false_iff, bne_iff_ne, beq_iff_eq, bne_eq_false_iff_eq, beq_eq_false_iff_ne, ne_eq, not_and, Int.not_le, Int.not_lt, ge_iff_le, gt_iff_lt, Nat.not_lt, Nat.not_le, Bool.not_eq_true, Bool.not_eq_false, Bool.true_eq_false, Bool.false_eq_true, not_false_eq_true, not_true_eq_false] at h)
        | exact goes_none.mpr (by omega)
      all_goals first | (exfalso; omega) | exact goes_inr.mpr rfl | (exfalso; simp_all; done)
  · obtain ⟨hp1, hp2⟩ := hp
    rw [if_neg h0]
    show Goes _ _ _
    unfold p27
    repeat' first
      | with_reducible refine goes_if (fun h => ?_) (fun h => ?_) <;> (try simp only [lim64, imp_false, decide_eq_true_eq, decide_eq_false_iff_not, Int.toNat_natCast, toNat_pred, toNat_succ, Option.getD_some, Option.getD_none, Bool.not_eq_true', Bool.not_eq_false', Bool.and_eq_true, Bool.or_eq_true, Bool.and_eq_false_iff, Bool.or_eq_false_iff, bne_iff_ne, beq_iff_eq, bne_eq_false_iff_eq, beq_eq_false_iff_ne, ne_eq, not_and, Int.not_le, Int.not_lt, ge_iff_le, gt_iff_lt, Nat.not_lt, Nat.not_le, Bool.not_eq_true, Bool.not_eq_false, Bool.true_eq_false, Bool.false_eq_true, not_false_eq_true, not_true_eq_false] at h)
      | exact goes_none.mpr (by omega)
    all_goals first | (exfalso; omega) | exact goes_inr.mpr rfl | (exfalso; simp_all; done)
theorem k27_ok : k27.ok Try.prog := by
  intro x hx
  obtain ⟨⟨⟨aq, nq, mq, tq, vq, gq, _⟩, de, _⟩, st, _⟩ := x
  obtain ⟨h1, h2⟩ := a27 aq nq mq tq vq gq de st (s27 aq nq mq tq vq gq de st (of_dec hx rfl))
  exact ⟨⟨400, (by decide : 1 + 1 + 1 ≤ 400), h1⟩, h2⟩
inductive St28 where
  | h0 (x0 : Int) (x1 : List (Int × Int × Int)) (x2 : List (Int × Int × Int × Int × Int × Int))
  | h1 (x0 : Int) (x1 : Int) (x2 : List (Int × Int × Int)) (x3 : List (Int × Int × Int × Int × Int × Int))
abbrev Rt28 := Int × List (Int × Int × Int × Int × Int × Int)
noncomputable def V28 (aq nq mq : Nat) (tq : Nat → ByteArray) (vq : Nat → Int) (gq : Nat → Int) (de : Int) (st : Int) (r : Rt28) : PV := PV.tup [PV.own (2) (6) (List.length r.2), PV.int IntKind.i64 r.1]
noncomputable def N28 (aq nq mq : Nat) (tq : Nat → ByteArray) (vq : Nat → Int) (gq : Nat → Int) (de : Int) (st : Int) (r : Rt28) : List Blk := [Blk.cols (List.length r.2)
 [Col.int IntKind.i64 fun j => (S.at' r.2 j).1,
 Col.int IntKind.i64 fun j => (S.at' r.2 j).2.1,
 Col.int IntKind.i64 fun j => (S.at' r.2 j).2.2.1,
 Col.int IntKind.i64 fun j => (S.at' r.2 j).2.2.2.1,
 Col.int IntKind.i64 fun j =>
 (S.at' r.2 j).2.2.2.2.1,
 Col.int IntKind.i64 fun j =>
 (S.at' r.2 j).2.2.2.2.2]]
noncomputable def I28 (aq nq mq : Nat) (tq : Nat → ByteArray) (vq : Nat → Int) (gq : Nat → Int) (de : Int) (st : Int) : St28 → Hd
  | .h0 x0 x1 x2 => ⟨hd Try.f28 0, [PV.int IntKind.i64 st, PV.ptr (PA.mk (1) (0) (0) (0)),
 PV.own (2) (3) (List.length x1), PV.own (3) (6) (List.length x2),
 PV.int IntKind.i64 x0, PV.unk], [[(1, (true, Blk.cells [PV.loose (PA.mk (0) (3) aq (0)) nq, PV.int IntKind.i64 de])), (2, (true, Blk.cols (List.length x1)
 [Col.int IntKind.i64 fun j => (S.at' x1 j).1,
 Col.int IntKind.i64 fun j => (S.at' x1 j).2.1,
 Col.int IntKind.i64 fun j => (S.at' x1 j).2.2])), (3, (true, Blk.cols (List.length x2)
 [Col.int IntKind.i64 fun j => (S.at' x2 j).1,
 Col.int IntKind.i64 fun j => (S.at' x2 j).2.1,
 Col.int IntKind.i64 fun j => (S.at' x2 j).2.2.1,
 Col.int IntKind.i64 fun j => (S.at' x2 j).2.2.2.1,
 Col.int IntKind.i64 fun j =>
 (S.at' x2 j).2.2.2.2.1,
 Col.int IntKind.i64 fun j =>
 (S.at' x2 j).2.2.2.2.2]))], [(0, (false, .cols mq [.str tq, .int .i64 vq, .int .i64 gq]))]], 4⟩
  | .h1 x0 x1 x2 x3 => ⟨hd Try.f28 1, [PV.int IntKind.i64 st, PV.ptr (PA.mk (1) (0) (0) (0)),
 PV.own (2) (3) (List.length x2), PV.own (3) (6) (List.length x3),
 PV.int IntKind.i64 x0, PV.int IntKind.i64 x1], [[(1, (true, Blk.cells [PV.loose (PA.mk (0) (3) aq (0)) nq, PV.int IntKind.i64 de])), (2, (true, Blk.cols (List.length x2)
 [Col.int IntKind.i64 fun j => (S.at' x2 j).1,
 Col.int IntKind.i64 fun j => (S.at' x2 j).2.1,
 Col.int IntKind.i64 fun j => (S.at' x2 j).2.2])), (3, (true, Blk.cols (List.length x3)
 [Col.int IntKind.i64 fun j => (S.at' x3 j).1,
 Col.int IntKind.i64 fun j => (S.at' x3 j).2.1,
 Col.int IntKind.i64 fun j => (S.at' x3 j).2.2.1,
 Col.int IntKind.i64 fun j => (S.at' x3 j).2.2.2.1,
 Col.int IntKind.i64 fun j =>
 (S.at' x3 j).2.2.2.2.1,
 Col.int IntKind.i64 fun j =>
 (S.at' x3 j).2.2.2.2.2]))], [(0, (false, .cols mq [.str tq, .int .i64 vq, .int .i64 gq]))]], 4⟩
noncomputable def q28 (aq nq mq : Nat) (tq : Nat → ByteArray) (vq : Nat → Int) (gq : Nat → Int) (de : Int) (st : Int) : St28 → Option (St28 ⊕ Rt28)
  | .h0 x0 x1 x2 => bif (decide (x0 < (↑(List.length x1) : Int)))
 then (bif (lim IntKind.i64 (x0 + (1 : Int)))
 then (some (.inl (.h1 (x0) (x0 + (1 : Int)) (x1) (x2))))
 else (none))
 else (some (.inr ((0 : Int), x2)))
  | .h1 x0 x1 x2 x3 => bif (decide (x1 < (↑(List.length x2) : Int)))
 then (bif (decide ((0 : Int) ≤ x0 ∧ x0 < (↑(List.length x2) : Int)))
 then (bif (decide (Int.toNat x0 < List.length x2))
 then (bif (decide ((0 : Int) ≤ x1 ∧ x1 < (↑(List.length x2) : Int)))
 then (bif (decide (Int.toNat x1 < List.length x2))
 then (bif (decide
 ((2 ≤ 2 ∧ 2 ≤ 1000000) ∧
 (1 ≤ 1 ∧ 1 ≤ 1000000) ∧
 nq ≤ 1000 ∧
 S.all
 (fun j =>
 decide ((0 : Int) ≤ S.lit [st] (0 : Int) j ∧ S.lit [st] (0 : Int) j < (↑nq : Int)))
 (1) =
 true))
 then (bif (S.safB nq
 (fun (r : Nat) =>
 !S.any (fun j => decide (S.lit [st] (0 : Int) j = (↑r : Int))) (1))
 (2)
 (fun j =>
 S.lit [(S.at' x2 (Int.toNat x0)).1, (S.at' x2 (Int.toNat x1)).1] (0 : Int) j)
 (fun j =>
 S.lit
 [(S.at' x2 (Int.toNat x0)).2.1, (S.at' x2 (Int.toNat x1)).2.1]
 (0 : Int) j)
 fun j =>
 S.lit [(S.at' x2 (Int.toNat x0)).2.2, (S.at' x2 (Int.toNat x1)).2.2]
 (0 : Int) j)
 then (bif (lim IntKind.i64 (x1 + (1 : Int)))
 then (some (.inl (.h1 (x0) (x1 + (1 : Int)) (x2) (x3))))
 else (none))
 else (bif (decide (List.length x3 + 1 ≤ 1000000))
 then (bif (decide (List.length x3 ≤ List.length x3))
 then (bif (lim IntKind.i64 (x1 + (1 : Int)))
 then (some (.inl (.h1 (x0) (x1 + (1 : Int)) (x2) (S.snoc x3
 ((S.at' x2 (Int.toNat x0)).1, (S.at' x2 (Int.toNat x0)).2.1,
 (S.at' x2 (Int.toNat x0)).2.2, (S.at' x2 (Int.toNat x1)).1,
 (S.at' x2 (Int.toNat x1)).2.1, (S.at' x2 (Int.toNat x1)).2.2)))))
 else (none))
 else (none))
 else (none)))
 else (none))
 else (none))
 else (none))
 else (none))
 else (none))
 else (bif (lim IntKind.i64 (x0 + (1 : Int)))
 then (some (.inl (.h0 (x0 + (1 : Int)) (x2) (x3))))
 else (none))
noncomputable def p28 (aq nq mq : Nat) (tq : Nat → ByteArray) (vq : Nat → Int) (gq : Nat → Int) (de : Int) (st : Int) : Option (St28 ⊕ Rt28) := bif (decide (aq + nq ≤ mq ∧ nq ≤ 1000000))
 then (bif (S.netE nq (fun j => tq (j + aq)) (fun j => vq (j + aq)) (fun j => gq (j + aq)) de !=
 (0 : Int))
 then (some (.inr (S.netE nq (fun j => tq (j + aq)) (fun j => vq (j + aq)) (fun j => gq (j + aq)) de, [])))
 else (bif (decide (st < (0 : Int)))
 then (some (.inr ((6 : Int), [])))
 else (bif (decide (st ≥ (↑nq : Int)))
 then (some (.inr ((6 : Int), [])))
 else (bif (decide (nq ≤ 100000))
 then (some (.inl (.h0 ((0 : Int)) (S.failL nq) ([]))))
 else (none)))))
 else (none)
noncomputable def Te28 (test : Bool → Prop → Prop → Prop) (Kst : KS) (Kret : KR) (aq nq mq : Nat) (tq : Nat → ByteArray) (vq : Nat → Int) (gq : Nat → Int) (de : Int) (st : Int) : Prop :=
  test (decide (aq + nq ≤ mq ∧ nq ≤ 1000000))
 (test (S.netE nq (fun j => tq (j + aq)) (fun j => vq (j + aq)) (fun j => gq (j + aq)) de !=
 (0 : Int))
 (Kret (PV.tup
 [PV.nils,
 PV.int IntKind.i64
 (S.netE nq (fun j => tq (j + aq)) (fun j => vq (j + aq)) (fun j => gq (j + aq)) de)]) ([[(0, false,
 Blk.cols mq [Col.str tq, Col.int IntKind.i64 vq, Col.int IntKind.i64 gq])]]) (3))
 (test (decide (st < (0 : Int)))
 (Kret (PV.tup [PV.nils, PV.int IntKind.i64 (6 : Int)]) ([[(0, false,
 Blk.cols mq [Col.str tq, Col.int IntKind.i64 vq, Col.int IntKind.i64 gq])]]) (3))
 (test (decide (st ≥ (↑nq : Int)))
 (Kret (PV.tup [PV.nils, PV.int IntKind.i64 (6 : Int)]) ([[(0, false,
 Blk.cols mq [Col.str tq, Col.int IntKind.i64 vq, Col.int IntKind.i64 gq])]]) (3))
 (test (decide (nq ≤ 100000))
 (Kst (hd Try.f28 0) ([PV.int IntKind.i64 st, PV.ptr (PA.mk (1) (0) (0) (0)),
 PV.own (4) (3) (List.length (S.failL nq)), PV.nils,
 PV.int IntKind.i64 (0 : Int), PV.unk]) ([[(0, false,
 Blk.cols mq [Col.str tq, Col.int IntKind.i64 vq, Col.int IntKind.i64 gq]),
 (4, true,
 Blk.cols (List.length (S.failL nq))
 [Col.int IntKind.i64 fun j => (S.at' (S.failL nq) j).1,
 Col.int IntKind.i64 fun j => (S.at' (S.failL nq) j).2.1,
 Col.int IntKind.i64 fun j => (S.at' (S.failL nq) j).2.2]),
 (1, true,
 Blk.cells
 [PV.loose (PA.mk (0) (3) aq (0)) nq, PV.int IntKind.i64 de])]]) (5))
 (False)))))
 (False)
theorem te28 (test : Bool → Prop → Prop → Prop) (Kst : KS) (Kret : KR) (aq nq mq : Nat) (tq : Nat → ByteArray) (vq : Nat → Int) (gq : Nat → Int) (de : Int) (st : Int) : run test Try.env true (xZ test) true 400 ⟨28, [.cd (mkFn Try.f28).body], argT 0 [.agg [.loose ⟨0, 3, aq, 0⟩ nq, .int .i64 de], .int .i64 st], [[], [(0, (false, .cols mq [.str tq, .int .i64 vq, .int .i64 gq]))]], 1⟩ (proj 1 [1, 2, 7, 8, 9, 10] Kst Kret) =
  Te28 test Kst Kret aq nq mq tq vq gq de st := by kernel_rfl
noncomputable def T28_0 (test : Bool → Prop → Prop → Prop) (Kst : KS) (Kret : KR) (aq nq mq : Nat) (tq : Nat → ByteArray) (vq : Nat → Int) (gq : Nat → Int) (de : Int) (st : Int) (x0 : Int) (x1 : List (Int × Int × Int)) (x2 : List (Int × Int × Int × Int × Int × Int)) : Prop :=
  test (decide (x0 < (↑(List.length x1) : Int)))
 (test (lim IntKind.i64 (x0 + (1 : Int)))
 (Kst (hd Try.f28 1) ([PV.int IntKind.i64 st, PV.ptr (PA.mk (1) (0) (0) (0)),
 PV.own (2) (3) (List.length x1), PV.own (3) (6) (List.length x2),
 PV.int IntKind.i64 x0, PV.int IntKind.i64 (x0 + (1 : Int))]) ([[(0, false,
 Blk.cols mq [Col.str tq, Col.int IntKind.i64 vq, Col.int IntKind.i64 gq]),
 (3, true,
 Blk.cols (List.length x2)
 [Col.int IntKind.i64 fun j => (S.at' x2 j).1,
 Col.int IntKind.i64 fun j => (S.at' x2 j).2.1,
 Col.int IntKind.i64 fun j => (S.at' x2 j).2.2.1,
 Col.int IntKind.i64 fun j => (S.at' x2 j).2.2.2.1,
 Col.int IntKind.i64 fun j =>
 (S.at' x2 j).2.2.2.2.1,
 Col.int IntKind.i64 fun j =>
 (S.at' x2 j).2.2.2.2.2]),
 (2, true,
 Blk.cols (List.length x1)
 [Col.int IntKind.i64 fun j => (S.at' x1 j).1,
 Col.int IntKind.i64 fun j => (S.at' x1 j).2.1,
 Col.int IntKind.i64 fun j => (S.at' x1 j).2.2]),
 (1, true,
 Blk.cells
 [PV.loose (PA.mk (0) (3) aq (0)) nq, PV.int IntKind.i64 de])]]) (4))
 (False))
 (Kret (PV.tup [PV.own (3) (6) (List.length x2), PV.int IntKind.i64 (0 : Int)]) ([[(0, false,
 Blk.cols mq [Col.str tq, Col.int IntKind.i64 vq, Col.int IntKind.i64 gq]),
 (3, true,
 Blk.cols (List.length x2)
 [Col.int IntKind.i64 fun j => (S.at' x2 j).1,
 Col.int IntKind.i64 fun j => (S.at' x2 j).2.1,
 Col.int IntKind.i64 fun j => (S.at' x2 j).2.2.1,
 Col.int IntKind.i64 fun j => (S.at' x2 j).2.2.2.1,
 Col.int IntKind.i64 fun j =>
 (S.at' x2 j).2.2.2.2.1,
 Col.int IntKind.i64 fun j =>
 (S.at' x2 j).2.2.2.2.2])]]) (4))
theorem t28_0 (test : Bool → Prop → Prop → Prop) (Kst : KS) (Kret : KR) (aq nq mq : Nat) (tq : Nat → ByteArray) (vq : Nat → Int) (gq : Nat → Int) (de : Int) (st : Int) (x0 : Int) (x1 : List (Int × Int × Int)) (x2 : List (Int × Int × Int × Int × Int × Int)) : run test Try.env true (xZ test) true 400 ⟨28, hd Try.f28 0, zipT [1, 2, 7, 8, 9, 10] [PV.int IntKind.i64 st, PV.ptr (PA.mk (1) (0) (0) (0)),
 PV.own (2) (3) (List.length x1), PV.own (3) (6) (List.length x2),
 PV.int IntKind.i64 x0, PV.unk], [[(1, (true, Blk.cells [PV.loose (PA.mk (0) (3) aq (0)) nq, PV.int IntKind.i64 de])), (2, (true, Blk.cols (List.length x1)
 [Col.int IntKind.i64 fun j => (S.at' x1 j).1,
 Col.int IntKind.i64 fun j => (S.at' x1 j).2.1,
 Col.int IntKind.i64 fun j => (S.at' x1 j).2.2])), (3, (true, Blk.cols (List.length x2)
 [Col.int IntKind.i64 fun j => (S.at' x2 j).1,
 Col.int IntKind.i64 fun j => (S.at' x2 j).2.1,
 Col.int IntKind.i64 fun j => (S.at' x2 j).2.2.1,
 Col.int IntKind.i64 fun j => (S.at' x2 j).2.2.2.1,
 Col.int IntKind.i64 fun j =>
 (S.at' x2 j).2.2.2.2.1,
 Col.int IntKind.i64 fun j =>
 (S.at' x2 j).2.2.2.2.2]))], [(0, (false, .cols mq [.str tq, .int .i64 vq, .int .i64 gq]))]], 4⟩ (proj 1 [1, 2, 7, 8, 9, 10] Kst Kret) =
  T28_0 test Kst Kret aq nq mq tq vq gq de st x0 x1 x2 := by kernel_rfl
noncomputable def T28_1 (test : Bool → Prop → Prop → Prop) (Kst : KS) (Kret : KR) (aq nq mq : Nat) (tq : Nat → ByteArray) (vq : Nat → Int) (gq : Nat → Int) (de : Int) (st : Int) (x0 : Int) (x1 : Int) (x2 : List (Int × Int × Int)) (x3 : List (Int × Int × Int × Int × Int × Int)) : Prop :=
  test (decide (x1 < (↑(List.length x2) : Int)))
 (test (decide ((0 : Int) ≤ x0 ∧ x0 < (↑(List.length x2) : Int)))
 (test (decide (Int.toNat x0 < List.length x2))
 (test (decide (Int.toNat x0 < List.length x2))
 (test (decide (Int.toNat x0 < List.length x2))
 (test (decide ((0 : Int) ≤ x1 ∧ x1 < (↑(List.length x2) : Int)))
 (test (decide (Int.toNat x1 < List.length x2))
 (test (decide (Int.toNat x1 < List.length x2))
 (test (decide (Int.toNat x1 < List.length x2))
 (test (decide
 ((2 ≤ 2 ∧ 2 ≤ 1000000) ∧
 (1 ≤ 1 ∧ 1 ≤ 1000000) ∧
 nq ≤ 1000 ∧
 S.all
 (fun j =>
 decide ((0 : Int) ≤ S.lit [st] (0 : Int) j ∧ S.lit [st] (0 : Int) j < (↑nq : Int)))
 (1) =
 true))
 (test (S.safB nq
 (fun (r : Nat) =>
 !S.any (fun j => decide (S.lit [st] (0 : Int) j = (↑r : Int))) (1))
 (2)
 (fun j =>
 S.lit [(S.at' x2 (Int.toNat x0)).1, (S.at' x2 (Int.toNat x1)).1] (0 : Int) j)
 (fun j =>
 S.lit
 [(S.at' x2 (Int.toNat x0)).2.1, (S.at' x2 (Int.toNat x1)).2.1]
 (0 : Int) j)
 fun j =>
 S.lit [(S.at' x2 (Int.toNat x0)).2.2, (S.at' x2 (Int.toNat x1)).2.2]
 (0 : Int) j)
 (test (lim IntKind.i64 (x1 + (1 : Int)))
 (Kst (hd Try.f28 1) ([PV.int IntKind.i64 st, PV.ptr (PA.mk (1) (0) (0) (0)),
 PV.own (2) (3) (List.length x2), PV.own (3) (6) (List.length x3),
 PV.int IntKind.i64 x0, PV.int IntKind.i64 (x1 + (1 : Int))]) ([[(0, false,
 Blk.cols mq [Col.str tq, Col.int IntKind.i64 vq, Col.int IntKind.i64 gq]),
 (3, true,
 Blk.cols (List.length x3)
 [Col.int IntKind.i64 fun j => (S.at' x3 j).1,
 Col.int IntKind.i64 fun j => (S.at' x3 j).2.1,
 Col.int IntKind.i64 fun j => (S.at' x3 j).2.2.1,
 Col.int IntKind.i64 fun j => (S.at' x3 j).2.2.2.1,
 Col.int IntKind.i64 fun j =>
 (S.at' x3 j).2.2.2.2.1,
 Col.int IntKind.i64 fun j =>
 (S.at' x3 j).2.2.2.2.2]),
 (2, true,
 Blk.cols (List.length x2)
 [Col.int IntKind.i64 fun j => (S.at' x2 j).1,
 Col.int IntKind.i64 fun j => (S.at' x2 j).2.1,
 Col.int IntKind.i64 fun j => (S.at' x2 j).2.2]),
 (1, true,
 Blk.cells
 [PV.loose (PA.mk (0) (3) aq (0)) nq, PV.int IntKind.i64 de])]]) (7))
 (False))
 (test (decide ((0 : Int) ≤ x0 ∧ x0 < (↑(List.length x2) : Int)))
 (test (decide (Int.toNat x0 < List.length x2))
 (test (decide (Int.toNat x0 < List.length x2))
 (test (decide (Int.toNat x0 < List.length x2))
 (test (decide ((0 : Int) ≤ x1 ∧ x1 < (↑(List.length x2) : Int)))
 (test (decide (Int.toNat x1 < List.length x2))
 (test (decide (Int.toNat x1 < List.length x2))
 (test (decide (Int.toNat x1 < List.length x2))
 (test (decide (List.length x3 + 1 ≤ 1000000))
 (test (decide (List.length x3 ≤ List.length x3))
 (test (true)
 (test (lim IntKind.i64 (x1 + (1 : Int)))
 (Kst (hd Try.f28 1) ([PV.int IntKind.i64 st, PV.ptr (PA.mk (1) (0) (0) (0)),
 PV.own (2) (3) (List.length x2),
 PV.own (8) (6) (List.length x3 + 1), PV.int IntKind.i64 x0,
 PV.int IntKind.i64 (x1 + (1 : Int))]) ([[(0, false,
 Blk.cols mq [Col.str tq, Col.int IntKind.i64 vq, Col.int IntKind.i64 gq]),
 (8, true,
 Blk.cols (List.length x3 + 1)
 [Col.int IntKind.i64 fun j =>
 bif Nat.blt j (List.length x3) then (S.at' x3 j).1
 else (S.at' x2 (Int.toNat x0)).1,
 Col.int IntKind.i64 fun j =>
 bif Nat.blt j (List.length x3) then (S.at' x3 j).2.1
 else (S.at' x2 (Int.toNat x0)).2.1,
 Col.int IntKind.i64 fun j =>
 bif Nat.blt j (List.length x3) then (S.at' x3 j).2.2.1
 else (S.at' x2 (Int.toNat x0)).2.2,
 Col.int IntKind.i64 fun j =>
 bif Nat.blt j (List.length x3) then (S.at' x3 j).2.2.2.1
 else (S.at' x2 (Int.toNat x1)).1,
 Col.int IntKind.i64 fun j =>
 bif Nat.blt j (List.length x3) then (S.at' x3 j).2.2.2.2.1
 else (S.at' x2 (Int.toNat x1)).2.1,
 Col.int IntKind.i64 fun j =>
 bif Nat.blt j (List.length x3) then (S.at' x3 j).2.2.2.2.2
 else (S.at' x2 (Int.toNat x1)).2.2]),
 (2, true,
 Blk.cols (List.length x2)
 [Col.int IntKind.i64 fun j => (S.at' x2 j).1,
 Col.int IntKind.i64 fun j => (S.at' x2 j).2.1,
 Col.int IntKind.i64 fun j => (S.at' x2 j).2.2]),
 (1, true,
 Blk.cells
 [PV.loose (PA.mk (0) (3) aq (0)) nq, PV.int IntKind.i64 de])]]) (9))
 (False))
 (False))
 (False))
 (False))
 (False))
 (False))
 (False))
 (False))
 (False))
 (False))
 (False))
 (False)))
 (False))
 (False))
 (False))
 (False))
 (False))
 (False))
 (False))
 (False))
 (False))
 (test (lim IntKind.i64 (x0 + (1 : Int)))
 (Kst (hd Try.f28 0) ([PV.int IntKind.i64 st, PV.ptr (PA.mk (1) (0) (0) (0)),
 PV.own (2) (3) (List.length x2), PV.own (3) (6) (List.length x3),
 PV.int IntKind.i64 (x0 + (1 : Int)), PV.int IntKind.i64 x1]) ([[(0, false,
 Blk.cols mq [Col.str tq, Col.int IntKind.i64 vq, Col.int IntKind.i64 gq]),
 (3, true,
 Blk.cols (List.length x3)
 [Col.int IntKind.i64 fun j => (S.at' x3 j).1,
 Col.int IntKind.i64 fun j => (S.at' x3 j).2.1,
 Col.int IntKind.i64 fun j => (S.at' x3 j).2.2.1,
 Col.int IntKind.i64 fun j => (S.at' x3 j).2.2.2.1,
 Col.int IntKind.i64 fun j =>
 (S.at' x3 j).2.2.2.2.1,
 Col.int IntKind.i64 fun j =>
 (S.at' x3 j).2.2.2.2.2]),
 (2, true,
 Blk.cols (List.length x2)
 [Col.int IntKind.i64 fun j => (S.at' x2 j).1,
 Col.int IntKind.i64 fun j => (S.at' x2 j).2.1,
 Col.int IntKind.i64 fun j => (S.at' x2 j).2.2]),
 (1, true,
 Blk.cells
 [PV.loose (PA.mk (0) (3) aq (0)) nq, PV.int IntKind.i64 de])]]) (4))
 (False))
theorem t28_1 (test : Bool → Prop → Prop → Prop) (Kst : KS) (Kret : KR) (aq nq mq : Nat) (tq : Nat → ByteArray) (vq : Nat → Int) (gq : Nat → Int) (de : Int) (st : Int) (x0 : Int) (x1 : Int) (x2 : List (Int × Int × Int)) (x3 : List (Int × Int × Int × Int × Int × Int)) : run test Try.env true (xZ test) true 400 ⟨28, hd Try.f28 1, zipT [1, 2, 7, 8, 9, 10] [PV.int IntKind.i64 st, PV.ptr (PA.mk (1) (0) (0) (0)),
 PV.own (2) (3) (List.length x2), PV.own (3) (6) (List.length x3),
 PV.int IntKind.i64 x0, PV.int IntKind.i64 x1], [[(1, (true, Blk.cells [PV.loose (PA.mk (0) (3) aq (0)) nq, PV.int IntKind.i64 de])), (2, (true, Blk.cols (List.length x2)
 [Col.int IntKind.i64 fun j => (S.at' x2 j).1,
 Col.int IntKind.i64 fun j => (S.at' x2 j).2.1,
 Col.int IntKind.i64 fun j => (S.at' x2 j).2.2])), (3, (true, Blk.cols (List.length x3)
 [Col.int IntKind.i64 fun j => (S.at' x3 j).1,
 Col.int IntKind.i64 fun j => (S.at' x3 j).2.1,
 Col.int IntKind.i64 fun j => (S.at' x3 j).2.2.1,
 Col.int IntKind.i64 fun j => (S.at' x3 j).2.2.2.1,
 Col.int IntKind.i64 fun j =>
 (S.at' x3 j).2.2.2.2.1,
 Col.int IntKind.i64 fun j =>
 (S.at' x3 j).2.2.2.2.2]))], [(0, (false, .cols mq [.str tq, .int .i64 vq, .int .i64 gq]))]], 4⟩ (proj 1 [1, 2, 7, 8, 9, 10] Kst Kret) =
  T28_1 test Kst Kret aq nq mq tq vq gq de st x0 x1 x2 x3 := by kernel_rfl
theorem be28 (aq nq mq : Nat) (tq : Nat → ByteArray) (vq : Nat → Int) (gq : Nat → Int) (de : Int) (st : Int) (Kst : KS) (Kret : KR) (x : St28 ⊕ Rt28) (hS : HS 1 400 ((I28 aq nq mq tq vq gq de st)) Kst x) (hR : HR 1 400 ((V28 aq nq mq tq vq gq de st)) (fun r => [newL (1 + 1) ((N28 aq nq mq tq vq gq de st) r) ++ [(0, (false, .cols mq [.str tq, .int .i64 vq, .int .i64 gq]))]]) Kret x) (h : (bif (decide (aq + nq ≤ mq ∧ nq ≤ 1000000))
 then (bif (S.netE nq (fun j => tq (j + aq)) (fun j => vq (j + aq)) (fun j => gq (j + aq)) de !=
 (0 : Int))
 then (some (.inr (S.netE nq (fun j => tq (j + aq)) (fun j => vq (j + aq)) (fun j => gq (j + aq)) de, [])))
 else (bif (decide (st < (0 : Int)))
 then (some (.inr ((6 : Int), [])))
 else (bif (decide (st ≥ (↑nq : Int)))
 then (some (.inr ((6 : Int), [])))
 else (bif (decide (nq ≤ 100000))
 then (some (.inl (.h0 ((0 : Int)) (S.failL nq) ([]))))
 else (none)))))
 else (none) : Option (St28 ⊕ Rt28)) = some x) : Te28 cond Kst Kret aq nq mq tq vq gq de st := by
  unfold Te28
  exact bif_split h
   (fun c0 h => bif_split h
   (fun c1 h => ret_at hR _ h (fun n => bif Nat.beq n 2 then 399 else n) rfl rfl rfl (rn_tup ⟨(rn_own_nils rfl), (rn_int rfl), trivial⟩) rfl (entl_fresh (use_own rfl) (fresh_ok rfl) (entl_bor (use_lo rfl) rfl rfl entl_nil)))
   (fun c1 h => bif_split h
   (fun c2 h => ret_at hR _ h (fun n => bif Nat.beq n 2 then 399 else n) rfl rfl rfl (rn_tup ⟨(rn_own_nils rfl), (rn_int rfl), trivial⟩) rfl (entl_fresh (use_own rfl) (fresh_ok rfl) (entl_bor (use_lo rfl) rfl rfl entl_nil)))
   (fun c2 h => bif_split h
   (fun c3 h => ret_at hR _ h (fun n => bif Nat.beq n 2 then 399 else n) rfl rfl rfl (rn_tup ⟨(rn_own_nils rfl), (rn_int rfl), trivial⟩) rfl (entl_fresh (use_own rfl) (fresh_ok rfl) (entl_bor (use_lo rfl) rfl rfl entl_nil)))
   (fun c3 h => bif_split h
   (fun c4 h => stop_at hS _ h (fun n => bif Nat.beq n 1 then 1 else bif Nat.beq n 2 then 4 else bif Nat.beq n 3 then 399 else n) rfl rfl rfl ⟨(rn_int rfl), ⟨(rn_ptr (use_own rfl) rfl rfl), ⟨(rn_own (use_own rfl) rfl rfl), ⟨(rn_own_nils rfl), ⟨(rn_int rfl), ⟨(rn_unk _), trivial⟩⟩⟩⟩⟩⟩ rfl (entl_b (use_own rfl) rfl (by simp) (rb_cells ⟨(rn_loose (use_lo rfl) rfl rfl rfl), (rn_int rfl), trivial⟩) (entl_new (use_own rfl) rfl (Nat.le_of_eq rfl) (rcs_int (fun _ _ => rfl) (rcs_int (fun _ _ => rfl) (rcs_int (fun _ _ => rfl) rcs_nil))) (entl_fresh (use_own rfl) (fresh_ok rfl) (entl_bor (use_lo rfl) rfl rfl entl_nil)))))
   (fun c4 h => no_some h)))))
   (fun c0 h => no_some h)
theorem b28_0 (aq nq mq : Nat) (tq : Nat → ByteArray) (vq : Nat → Int) (gq : Nat → Int) (de : Int) (st : Int) (Kst : KS) (Kret : KR) (x : St28 ⊕ Rt28) (hS : HS 1 400 ((I28 aq nq mq tq vq gq de st)) Kst x) (hR : HR 1 400 ((V28 aq nq mq tq vq gq de st)) (fun r => [newL (1 + 1) ((N28 aq nq mq tq vq gq de st) r) ++ [(0, (false, .cols mq [.str tq, .int .i64 vq, .int .i64 gq]))]]) Kret x) (x0 : Int) (x1 : List (Int × Int × Int)) (x2 : List (Int × Int × Int × Int × Int × Int)) (h : (bif (decide (x0 < (↑(List.length x1) : Int)))
 then (bif (lim IntKind.i64 (x0 + (1 : Int)))
 then (some (.inl (.h1 (x0) (x0 + (1 : Int)) (x1) (x2))))
 else (none))
 else (some (.inr ((0 : Int), x2))) : Option (St28 ⊕ Rt28)) = some x) : T28_0 cond Kst Kret aq nq mq tq vq gq de st x0 x1 x2 := by
  unfold T28_0
  exact bif_split h
   (fun c0 h => bif_split h
   (fun c1 h => stop_at hS _ h (fun n => bif Nat.beq n 1 then 1 else bif Nat.beq n 2 then 2 else bif Nat.beq n 3 then 3 else n) rfl rfl rfl ⟨(rn_int rfl), ⟨(rn_ptr (use_own rfl) rfl rfl), ⟨(rn_own (use_own rfl) rfl rfl), ⟨(rn_own (use_own rfl) rfl rfl), ⟨(rn_int rfl), ⟨(rn_int rfl), trivial⟩⟩⟩⟩⟩⟩ rfl (entl_b (use_own rfl) rfl (by simp) (rb_cells ⟨(rn_loose (use_lo rfl) rfl rfl rfl), (rn_int rfl), trivial⟩) (entl_new (use_own rfl) rfl (Nat.le_of_eq rfl) (rcs_int (fun _ _ => rfl) (rcs_int (fun _ _ => rfl) (rcs_int (fun _ _ => rfl) rcs_nil))) (entl_new (use_own rfl) rfl (Nat.le_of_eq rfl) (rcs_int (fun _ _ => rfl) (rcs_int (fun _ _ => rfl) (rcs_int (fun _ _ => rfl) (rcs_int (fun _ _ => rfl) (rcs_int (fun _ _ => rfl) (rcs_int (fun _ _ => rfl) rcs_nil)))))) (entl_bor (use_lo rfl) rfl rfl entl_nil)))))
   (fun c1 h => no_some h))
   (fun c0 h => ret_at hR _ h (fun n => bif Nat.beq n 2 then 3 else n) rfl rfl rfl (rn_tup ⟨(rn_own (use_own rfl) rfl rfl), (rn_int rfl), trivial⟩) rfl (entl_new (use_own rfl) rfl (Nat.le_of_eq rfl) (rcs_int (fun _ _ => rfl) (rcs_int (fun _ _ => rfl) (rcs_int (fun _ _ => rfl) (rcs_int (fun _ _ => rfl) (rcs_int (fun _ _ => rfl) (rcs_int (fun _ _ => rfl) rcs_nil)))))) (entl_bor (use_lo rfl) rfl rfl entl_nil)))
theorem b28_1 (aq nq mq : Nat) (tq : Nat → ByteArray) (vq : Nat → Int) (gq : Nat → Int) (de : Int) (st : Int) (Kst : KS) (Kret : KR) (x : St28 ⊕ Rt28) (hS : HS 1 400 ((I28 aq nq mq tq vq gq de st)) Kst x) (hR : HR 1 400 ((V28 aq nq mq tq vq gq de st)) (fun r => [newL (1 + 1) ((N28 aq nq mq tq vq gq de st) r) ++ [(0, (false, .cols mq [.str tq, .int .i64 vq, .int .i64 gq]))]]) Kret x) (x0 : Int) (x1 : Int) (x2 : List (Int × Int × Int)) (x3 : List (Int × Int × Int × Int × Int × Int)) (h : (bif (decide (x1 < (↑(List.length x2) : Int)))
 then (bif (decide ((0 : Int) ≤ x0 ∧ x0 < (↑(List.length x2) : Int)))
 then (bif (decide (Int.toNat x0 < List.length x2))
 then (bif (decide ((0 : Int) ≤ x1 ∧ x1 < (↑(List.length x2) : Int)))
 then (bif (decide (Int.toNat x1 < List.length x2))
 then (bif (decide
 ((2 ≤ 2 ∧ 2 ≤ 1000000) ∧
 (1 ≤ 1 ∧ 1 ≤ 1000000) ∧
 nq ≤ 1000 ∧
 S.all
 (fun j =>
 decide ((0 : Int) ≤ S.lit [st] (0 : Int) j ∧ S.lit [st] (0 : Int) j < (↑nq : Int)))
 (1) =
 true))
 then (bif (S.safB nq
 (fun (r : Nat) =>
 !S.any (fun j => decide (S.lit [st] (0 : Int) j = (↑r : Int))) (1))
 (2)
 (fun j =>
 S.lit [(S.at' x2 (Int.toNat x0)).1, (S.at' x2 (Int.toNat x1)).1] (0 : Int) j)
 (fun j =>
 S.lit
 [(S.at' x2 (Int.toNat x0)).2.1, (S.at' x2 (Int.toNat x1)).2.1]
 (0 : Int) j)
 fun j =>
 S.lit [(S.at' x2 (Int.toNat x0)).2.2, (S.at' x2 (Int.toNat x1)).2.2]
 (0 : Int) j)
 then (bif (lim IntKind.i64 (x1 + (1 : Int)))
 then (some (.inl (.h1 (x0) (x1 + (1 : Int)) (x2) (x3))))
 else (none))
 else (bif (decide (List.length x3 + 1 ≤ 1000000))
 then (bif (decide (List.length x3 ≤ List.length x3))
 then (bif (lim IntKind.i64 (x1 + (1 : Int)))
 then (some (.inl (.h1 (x0) (x1 + (1 : Int)) (x2) (S.snoc x3
 ((S.at' x2 (Int.toNat x0)).1, (S.at' x2 (Int.toNat x0)).2.1,
 (S.at' x2 (Int.toNat x0)).2.2, (S.at' x2 (Int.toNat x1)).1,
 (S.at' x2 (Int.toNat x1)).2.1, (S.at' x2 (Int.toNat x1)).2.2)))))
 else (none))
 else (none))
 else (none)))
 else (none))
 else (none))
 else (none))
 else (none))
 else (none))
 else (bif (lim IntKind.i64 (x0 + (1 : Int)))
 then (some (.inl (.h0 (x0 + (1 : Int)) (x2) (x3))))
 else (none)) : Option (St28 ⊕ Rt28)) = some x) : T28_1 cond Kst Kret aq nq mq tq vq gq de st x0 x1 x2 x3 := by
  unfold T28_1
  exact bif_split h
   (fun c0 h => bif_split h
   (fun c1 h => bif_split h
   (fun c2 h => cond_yes c2 (cond_yes c2 (bif_split h
   (fun c3 h => bif_split h
   (fun c4 h => cond_yes c4 (cond_yes c4 (bif_split h
   (fun c5 h => bif_split h
   (fun c6 h => bif_split h
   (fun c7 h => stop_at hS _ h (fun n => bif Nat.beq n 1 then 1 else bif Nat.beq n 2 then 2 else bif Nat.beq n 3 then 3 else n) rfl rfl rfl ⟨(rn_int rfl), ⟨(rn_ptr (use_own rfl) rfl rfl), ⟨(rn_own (use_own rfl) rfl rfl), ⟨(rn_own (use_own rfl) rfl rfl), ⟨(rn_int rfl), ⟨(rn_int rfl), trivial⟩⟩⟩⟩⟩⟩ rfl (entl_b (use_own rfl) rfl (by simp) (rb_cells ⟨(rn_loose (use_lo rfl) rfl rfl rfl), (rn_int rfl), trivial⟩) (entl_new (use_own rfl) rfl (Nat.le_of_eq rfl) (rcs_int (fun _ _ => rfl) (rcs_int (fun _ _ => rfl) (rcs_int (fun _ _ => rfl) rcs_nil))) (entl_new (use_own rfl) rfl (Nat.le_of_eq rfl) (rcs_int (fun _ _ => rfl) (rcs_int (fun _ _ => rfl) (rcs_int (fun _ _ => rfl) (rcs_int (fun _ _ => rfl) (rcs_int (fun _ _ => rfl) (rcs_int (fun _ _ => rfl) rcs_nil)))))) (entl_bor (use_lo rfl) rfl rfl entl_nil)))))
   (fun c7 h => no_some h))
   (fun c6 h => cond_yes c1 (cond_yes c2 (cond_yes c2 (cond_yes c2 (cond_yes c3 (cond_yes c4 (cond_yes c4 (cond_yes c4 (bif_split h
   (fun c7 h => bif_split h
   (fun c8 h => cond_yes rfl (bif_split h
   (fun c9 h => stop_at hS _ h (fun n => bif Nat.beq n 1 then 1 else bif Nat.beq n 2 then 2 else bif Nat.beq n 3 then 8 else n) rfl rfl rfl ⟨(rn_int rfl), ⟨(rn_ptr (use_own rfl) rfl rfl), ⟨(rn_own (use_own rfl) rfl rfl), ⟨(rn_own (use_own rfl) rfl (snoc_len' rfl)), ⟨(rn_int rfl), ⟨(rn_int rfl), trivial⟩⟩⟩⟩⟩⟩ rfl (entl_b (use_own rfl) rfl (by simp) (rb_cells ⟨(rn_loose (use_lo rfl) rfl rfl rfl), (rn_int rfl), trivial⟩) (entl_new (use_own rfl) rfl (Nat.le_of_eq rfl) (rcs_int (fun _ _ => rfl) (rcs_int (fun _ _ => rfl) (rcs_int (fun _ _ => rfl) rcs_nil))) (entl_new (use_own rfl) rfl (Nat.le_of_eq (snoc_len' rfl)) (rcs_int (col_snoc' (fun (t : Int × Int × Int × Int × Int × Int) => t.1) rfl (fun _ _ => rfl)) (rcs_int (col_snoc' (fun (t : Int × Int × Int × Int × Int × Int) => t.2.1) rfl (fun _ _ => rfl)) (rcs_int (col_snoc' (fun (t : Int × Int × Int × Int × Int × Int) => t.2.2.1) rfl (fun _ _ => rfl)) (rcs_int (col_snoc' (fun (t : Int × Int × Int × Int × Int × Int) => t.2.2.2.1) rfl (fun _ _ => rfl)) (rcs_int (col_snoc' (fun (t : Int × Int × Int × Int × Int × Int) => t.2.2.2.2.1) rfl (fun _ _ => rfl)) (rcs_int (col_snoc' (fun (t : Int × Int × Int × Int × Int × Int) => t.2.2.2.2.2) rfl (fun _ _ => rfl)) rcs_nil)))))) (entl_bor (use_lo rfl) rfl rfl entl_nil)))))
   (fun c9 h => no_some h)))
   (fun c8 h => no_some h))
   (fun c7 h => no_some h)))))))))))
   (fun c5 h => no_some h))))
   (fun c4 h => no_some h))
   (fun c3 h => no_some h))))
   (fun c2 h => no_some h))
   (fun c1 h => no_some h))
   (fun c0 h => bif_split h
   (fun c1 h => stop_at hS _ h (fun n => bif Nat.beq n 1 then 1 else bif Nat.beq n 2 then 2 else bif Nat.beq n 3 then 3 else n) rfl rfl rfl ⟨(rn_int rfl), ⟨(rn_ptr (use_own rfl) rfl rfl), ⟨(rn_own (use_own rfl) rfl rfl), ⟨(rn_own (use_own rfl) rfl rfl), ⟨(rn_int rfl), ⟨(rn_unk _), trivial⟩⟩⟩⟩⟩⟩ rfl (entl_b (use_own rfl) rfl (by simp) (rb_cells ⟨(rn_loose (use_lo rfl) rfl rfl rfl), (rn_int rfl), trivial⟩) (entl_new (use_own rfl) rfl (Nat.le_of_eq rfl) (rcs_int (fun _ _ => rfl) (rcs_int (fun _ _ => rfl) (rcs_int (fun _ _ => rfl) rcs_nil))) (entl_new (use_own rfl) rfl (Nat.le_of_eq rfl) (rcs_int (fun _ _ => rfl) (rcs_int (fun _ _ => rfl) (rcs_int (fun _ _ => rfl) (rcs_int (fun _ _ => rfl) (rcs_int (fun _ _ => rfl) (rcs_int (fun _ _ => rfl) rcs_nil)))))) (entl_bor (use_lo rfl) rfl rfl entl_nil)))))
   (fun c1 h => no_some h))
theorem a28 (aq nq mq : Nat) (tq : Nat → ByteArray) (vq : Nat → Int) (gq : Nat → Int) (de : Int) (st : Int) {r : Rt28} (h : Goes ((q28 aq nq mq tq vq gq de st)) ((p28 aq nq mq tq vq gq de st)) r) : CallR Try.prog 28 [.agg [.loose ⟨0, 3, aq, 0⟩ nq, .int .i64 de], .int .i64 st] [[(0, (false, .cols mq [.str tq, .int .i64 vq, .int .i64 gq]))]] 1 ((V28 aq nq mq tq vq gq de st) r) ((fun r => [newL (1 + 1) ((N28 aq nq mq tq vq gq de st) r) ++ [(0, (false, .cols mq [.str tq, .int .i64 vq, .int .i64 gq]))]]) r) 400 ∧ ∃ F, Try.prog.funcs[28]? = some F ∧ F.body.isSome = true ∧ (F.name == "runtime.NumGoroutine") = false := by
  refine dec_calls (f := 28) (lo := 1) (hi := 400) (H := [[(0, (false, .cols mq [.str tq, .int .i64 vq, .int .i64 gq]))]]) (args := [.agg [.loose ⟨0, 3, aq, 0⟩ nq, .int .i64 de], .int .i64 st]) Try.envOk Try.mixed xZ_ok ((I28 aq nq mq tq vq gq de st)) ((V28 aq nq mq tq vq gq de st)) (fun r => [newL (1 + 1) ((N28 aq nq mq tq vq gq de st) r) ++ [(0, (false, .cols mq [.str tq, .int .i64 vq, .int .i64 gq]))]]) (fn := mkFn Try.f28) (ts := [1, 2, 7, 8, 9, 10]) (n := 400) rfl (by decide) (by simp) (names_of rfl) ?_ ?_ ?_ h
  · intro s; cases s <;> exact ⟨hd_ok _ _, by simp [I28], names_of rfl, Nat.le_of_ble_eq_true rfl⟩
  · intro Kst Kret x hS hR h
    exact Holds.eq (te28 cond Kst Kret aq nq mq tq vq gq de st) (be28 aq nq mq tq vq gq de st Kst Kret x hS hR h)
  · intro Kst Kret x hS hR s h
    cases s with
    | h0 x0 x1 x2 => exact Holds.eq (t28_0 cond Kst Kret aq nq mq tq vq gq de st x0 x1 x2) (b28_0 aq nq mq tq vq gq de st Kst Kret x hS hR x0 x1 x2 h)
    | h1 x0 x1 x2 x3 => exact Holds.eq (t28_1 cond Kst Kret aq nq mq tq vq gq de st x0 x1 x2 x3) (b28_1 aq nq mq tq vq gq de st Kst Kret x hS hR x0 x1 x2 x3 h)
noncomputable def k28 : Con := ⟨28, [.agg [.list [.str, .int .i64, .int .i64], .plain (.int .i64)], .one (.plain (.int .i64))], fun (x : ((Nat × Nat × Nat × (Nat → ByteArray) × (Nat → Int) × (Nat → Int) × Unit) × Int × Unit) × Int × Unit) => (fun (aq nq mq : Nat) (tq : Nat → ByteArray) (vq : Nat → Int) (gq : Nat → Int) (de : Int) (st : Int) => decide (aq + nq ≤ mq ∧ nq ≤ 1000000)) x.1.1.1 x.1.1.2.1 x.1.1.2.2.1 x.1.1.2.2.2.1 x.1.1.2.2.2.2.1 x.1.1.2.2.2.2.2.1 x.1.2.1 x.2.1, fun (x : ((Nat × Nat × Nat × (Nat → ByteArray) × (Nat → Int) × (Nat → Int) × Unit) × Int × Unit) × Int × Unit) => (fun (aq nq mq : Nat) (tq : Nat → ByteArray) (vq : Nat → Int) (gq : Nat → Int) (de : Int) (st : Int) => (V28 aq nq mq tq vq gq de st) (S.dblE nq (S.netE nq (fun j => tq (j + aq)) (fun j => vq (j + aq)) (fun j => gq (j + aq)) de) st)) x.1.1.1 x.1.1.2.1 x.1.1.2.2.1 x.1.1.2.2.2.1 x.1.1.2.2.2.2.1 x.1.1.2.2.2.2.2.1 x.1.2.1 x.2.1, fun (x : ((Nat × Nat × Nat × (Nat → ByteArray) × (Nat → Int) × (Nat → Int) × Unit) × Int × Unit) × Int × Unit) => (fun (aq nq mq : Nat) (tq : Nat → ByteArray) (vq : Nat → Int) (gq : Nat → Int) (de : Int) (st : Int) => (N28 aq nq mq tq vq gq de st) (S.dblE nq (S.netE nq (fun j => tq (j + aq)) (fun j => vq (j + aq)) (fun j => gq (j + aq)) de) st)) x.1.1.1 x.1.1.2.1 x.1.1.2.2.1 x.1.1.2.2.2.1 x.1.1.2.2.2.2.1 x.1.1.2.2.2.2.2.1 x.1.2.1 x.2.1, fun _ _ => .dead⟩
theorem s28i (aq nq mq : Nat) (tq : Nat → ByteArray) (vq : Nat → Int) (gq : Nat → Int) (de : Int) (st : Int) (hn : nq ≤ 12) (h3 : S.all (fun j => decide (0 ≤ S.lit [st] 0 j ∧ S.lit [st] 0 j < (nq : Int))) 1 = true) (L : List (Int × Int × Int)) (hL : L.length ≤ 62) (i : Nat) (hi : i < L.length) (R : Rt28) : ∀ (c j : Nat) (D : List S.P6), j + c = L.length - (i + 1) → D.length ≤ 62 * i + j → Comes (q28 aq nq mq tq vq gq de st) (.h0 (((i + 1 : Nat)) : Int) L (S.fold (S.dblT nq st L i) (j + (i + 1)) c D)) R → Comes (q28 aq nq mq tq vq gq de st) (.h1 (i : Int) (((j + (i + 1) : Nat)) : Int) L D) R := by
  have htw : ∀ x y : Int × Int × Int, S.safB nq (fun (r : Nat) => !S.any (fun j => decide (S.lit [st] 0 j = (r : Int))) 1) 2 (fun j => S.lit [x.1, y.1] 0 j) (fun j => S.lit [x.2.1, y.2.1] 0 j) (fun j => S.lit [x.2.2, y.2.2] 0 j) = S.twoB nq st x y := fun x y => two_eq (fun r _ => lost_eq r)
  intro c
  induction c with
  | zero =>
    intro j D hj hD hm
    rw [Int.natCast_add, Int.natCast_one] at hm
    apply Comes.of
    show Goes _ _ _
    (first | rw [q28] | unfold q28)
    repeat' first
      | with_reducible refine goes_if (fun h => ?_) (fun h => ?_) <;> (try simp only [lim64, imp_false, decide_eq_true_eq, decide_eq_false_iff_not, Int.toNat_natCast, toNat_pred, toNat_succ, Option.getD_some, Option.getD_none, Bool.not_eq_true', Bool.not_eq_false', Bool.and_eq_true, Bool.or_eq_true, Bool.and_eq_false_iff, Bool.or_eq_false_iff, bne_iff_ne, beq_iff_eq, bne_eq_false_iff_eq, beq_eq_false_iff_ne, ne_eq, not_and, Int.not_le, Int.not_lt, ge_iff_le, gt_iff_lt, Nat.not_lt, Nat.not_le, Bool.not_eq_true, Bool.not_eq_false, Bool.true_eq_false, Bool.false_eq_true, not_false_eq_true, not_true_eq_false] at h)
      | exact goes_none.mpr (by omega)
    all_goals first | (exfalso; omega) | exact hm
  | succ c ih =>
    intro j D hj hD hm
    simp only [S.fold] at hm
    rw [show j + (i + 1) + 1 = j + 1 + (i + 1) by omega] at hm
    have eD : S.dblT nq st L i D (j + (i + 1)) = if S.twoB nq st (S.at' L i) (S.at' L (j + (i + 1))) = true then D else S.snoc D ((S.at' L i).1, (S.at' L i).2.1, (S.at' L i).2.2, (S.at' L (j + (i + 1))).1, (S.at' L (j + (i + 1))).2.1, (S.at' L (j + (i + 1))).2.2) := rfl
    rw [eD] at hm
    have ej : (((j + 1 + (i + 1) : Nat)) : Int) = (((j + (i + 1) : Nat)) : Int) + 1 := by omega
    by_cases ht : S.twoB nq st (S.at' L i) (S.at' L (j + (i + 1))) = true
    · rw [if_pos ht] at hm
      have ih := ih (j + 1) D (by omega) (by omega) hm
      rw [ej] at ih
      clear hm
      apply Comes.of
      show Goes _ _ _
      (first | rw [q28] | unfold q28)
      try simp only [Int.toNat_natCast, htw, ht, h3, eq_self, and_true]
      try show Goes _ _ _
      repeat' first
        | with_reducible refine goes_if (fun h => ?_) (fun h => ?_) <;> (try simp only [lim64, imp_false, decide_eq_true_eq, decide_eq_false_iff_not, Int.toNat_natCast, toNat_pred, toNat_succ, Option.getD_some, Option.getD_none, Bool.not_eq_true', Bool.not_eq_false', Bool.and_eq_true, Bool.or_eq_true, Bool.and_eq_false_iff, Bool.or_eq_false_iff, bne_iff_ne, beq_iff_eq, bne_eq_false_iff_eq, beq_eq_false_iff_ne, ne_eq, not_and, Int.not_le, Int.not_lt, ge_iff_le, gt_iff_lt, Nat.not_lt, Nat.not_le, Bool.not_eq_true, Bool.not_eq_false, Bool.true_eq_false, Bool.false_eq_true, not_false_eq_true, not_true_eq_false] at h)
        | exact goes_none.mpr (by omega)
      all_goals first | (exfalso; omega) | exact ih | (exfalso; simp_all; done)
    · rw [if_neg ht] at hm
      rw [Bool.not_eq_true] at ht
      have ih := ih (j + 1) _ (by omega) (by rw [snoc_len]; omega) hm
      rw [ej] at ih
      clear hm
      apply Comes.of
      show Goes _ _ _
      (first | rw [q28] | unfold q28)
      try simp only [Int.toNat_natCast, htw, ht, h3, eq_self, and_true]
      try show Goes _ _ _
      repeat' first
        | with_reducible refine goes_if (fun h => ?_) (fun h => ?_) <;> (try simp only [lim64, imp_false, decide_eq_true_eq, decide_eq_false_iff_not, Int.toNat_natCast, toNat_pred, toNat_succ, Option.getD_some, Option.getD_none, Bool.not_eq_true', Bool.not_eq_false', Bool.and_eq_true, Bool.or_eq_true, Bool.and_eq_false_iff, Bool.or_eq_false_iff, bne_iff_ne, beq_iff_eq, bne_eq_false_iff_eq, beq_eq_false_iff_ne, ne_eq, not_and, Int.not_le, Int.not_lt, ge_iff_le, gt_iff_lt, Nat.not_lt, Nat.not_le, Bool.not_eq_true, Bool.not_eq_false, Bool.true_eq_false, Bool.false_eq_true, not_false_eq_true, not_true_eq_false] at h)
        | exact goes_none.mpr (by omega)
      all_goals first | (exfalso; omega) | exact ih | (exfalso; simp_all; done)
theorem s28' (aq nq mq : Nat) (tq : Nat → ByteArray) (vq : Nat → Int) (gq : Nat → Int) (de : Int) (st : Int) (hn : nq ≤ 12) (h3 : S.all (fun j => decide (0 ≤ S.lit [st] 0 j ∧ S.lit [st] 0 j < (nq : Int))) 1 = true) (L : List (Int × Int × Int)) (hL : L.length ≤ 62) : ∀ (c i : Nat) (D : List S.P6), i + c = L.length → D.length ≤ 62 * i → Comes (q28 aq nq mq tq vq gq de st) (.h0 (i : Int) L D) (0, S.fold (fun D i => S.fold (S.dblT nq st L i) (i + 1) (L.length - (i + 1)) D) i c D) := by
  intro c
  induction c with
  | zero =>
    intro i D hi hD
    apply Comes.of
    show Goes _ _ _
    (first | rw [q28] | unfold q28)
    repeat' first
      | with_reducible refine goes_if (fun h => ?_) (fun h => ?_) <;> (try simp only [lim64, imp_false, decide_eq_true_eq, decide_eq_false_iff_not, Int.toNat_natCast, toNat_pred, toNat_succ, Option.getD_some, Option.getD_none, Bool.not_eq_true', Bool.not_eq_false', Bool.and_eq_true, Bool.or_eq_true, Bool.and_eq_false_iff, Bool.or_eq_false_iff, bne_iff_ne, beq_iff_eq, bne_eq_false_iff_eq, beq_eq_false_iff_ne, ne_eq, not_and, Int.not_le, Int.not_lt, ge_iff_le, gt_iff_lt, Nat.not_lt, Nat.not_le, Bool.not_eq_true, Bool.not_eq_false, Bool.true_eq_false, Bool.false_eq_true, not_false_eq_true, not_true_eq_false] at h)
      | exact goes_none.mpr (by omega)
    all_goals first | (exfalso; omega) | exact goes_inr.mpr rfl
  | succ c ih =>
    intro i D hi hD
    have hm := s28i aq nq mq tq vq gq de st hn h3 L hL i (by omega) _ (L.length - (i + 1)) 0 D (Nat.zero_add _) (by omega) (by
      rw [Nat.zero_add]
      exact ih (i + 1) _ (by omega) (by have := dbl_len (n := nq) (st := st) (L := L) (i := i) (c := L.length - (i + 1)) (k := i + 1) (D := D); omega))
    rw [Nat.zero_add, Int.natCast_add, Int.natCast_one] at hm
    apply Comes.of
    show Goes _ _ _
    (first | rw [q28] | unfold q28)
    repeat' first
      | with_reducible refine goes_if (fun h => ?_) (fun h => ?_) <;> (try simp only [lim64, imp_false, decide_eq_true_eq, decide_eq_false_iff_not, Int.toNat_natCast, toNat_pred, toNat_succ, Option.getD_some, Option.getD_none, Bool.not_eq_true', Bool.not_eq_false', Bool.and_eq_true, Bool.or_eq_true, Bool.and_eq_false_iff, Bool.or_eq_false_iff, bne_iff_ne, beq_iff_eq, bne_eq_false_iff_eq, beq_eq_false_iff_ne, ne_eq, not_and, Int.not_le, Int.not_lt, ge_iff_le, gt_iff_lt, Nat.not_lt, Nat.not_le, Bool.not_eq_true, Bool.not_eq_false, Bool.true_eq_false, Bool.false_eq_true, not_false_eq_true, not_true_eq_false] at h)
      | exact goes_none.mpr (by omega)
    all_goals first | (exfalso; omega) | exact hm
theorem s28 (aq nq mq : Nat) (tq : Nat → ByteArray) (vq : Nat → Int) (gq : Nat → Int) (de : Int) (st : Int) (hp : aq + nq ≤ mq ∧ nq ≤ 1000000) : Goes ((q28 aq nq mq tq vq gq de st)) ((p28 aq nq mq tq vq gq de st)) (S.dblE nq (S.netE nq (fun j => tq (j + aq)) (fun j => vq (j + aq)) (fun j => gq (j + aq)) de) st) := by
  unfold S.dblE
  by_cases h0 : (S.netE nq (fun j => tq (j + aq)) (fun j => vq (j + aq)) (fun j => gq (j + aq)) de) = 0
  · obtain ⟨v1, v2, v3⟩ := net_ok h0
    have hf := fail_len (n := nq)
    rw [if_pos h0]
    by_cases hs : 0 ≤ st ∧ st < (nq : Int)
    · have h3 : S.all (fun j => decide (0 ≤ S.lit [st] 0 j ∧ S.lit [st] 0 j < (nq : Int))) 1 = true := all_iff.mpr fun j hj => by
        obtain rfl : j = 0 := by omega
        exact decide_eq_true hs
      have hm := s28' aq nq mq tq vq gq de st v1.2 h3 (S.failL nq) (by omega) _ 0 [] (Nat.zero_add _) (Nat.zero_le _)
      obtain ⟨hp1, hp2⟩ := hp
      rw [if_pos hs]
      unfold p28
      simp only [h0]
      show Goes _ _ _
      repeat' first
        | with_reducible refine goes_if (fun h => ?_) (fun h => ?_) <;> (try simp only [lim64, imp_false, decide_eq_true_eq, decide_eq_false_iff_not, Int.toNat_natCast, toNat_pred, toNat_succ, Option.getD_some, Option.getD_none, Bool.not_eq_true', Bool.not_eq_false', Bool.and_eq_true, Bool.or_eq_true, Bool.and_eq_false_iff, Bool.or_eq_false_iff, bne_iff_ne, beq_iff_eq, bne_eq_false_iff_eq, beq_eq_false_iff_ne, ne_eq, not_and, Int.not_le, Int.not_lt, ge_iff_le, gt_iff_lt, Nat.not_lt, Nat.not_le, Bool.not_eq_true, Bool.not_eq_false, Bool.true_eq_false, Bool.false_eq_true, not_false_eq_true, not_true_eq_false] at h)
        | exact goes_none.mpr (by omega)
      all_goals first | (exfalso; omega) | exact hm | (exfalso; simp_all; done)
    · obtain ⟨hp1, hp2⟩ := hp
      rw [if_neg hs]
      unfold p28
      simp only [h0]
      show Goes _ _ _
      repeat' first
        | with_reducible refine goes_if (fun h => ?_) (fun h => ?_) <;> (try simp only [lim64, imp_false, decide_eq_true_eq, decide_eq_false_iff_not, Int.toNat_natCast, toNat_pred, toNat_succ, Option.getD_some, Option.getD_none, Bool.not_eq_true', Bool.not_eq_false', Bool.and_eq_true, Bool.or_eq_true, Bool.and_eq_false_iff, Bool.or_eq_false_iff, bne_iff_ne, beq_iff_eq, bne_eq_false_iff_eq, beq_eq_false_iff_ne, ne_eq, not_and, Int.not_le, Int.not_lt, ge_iff_le, gt_iff_lt, Nat.not_lt, Nat.not_le, Bool.not_eq_true, Bool.not_eq_false, Bool.true_eq_false, Bool.false_eq_true, not_false_eq_true, not_true_eq_false] at h)
        | exact goes_none.mpr (by omega)
      all_goals first | (exfalso; omega) | exact goes_inr.mpr rfl | (exfalso; simp_all; done)
  · obtain ⟨hp1, hp2⟩ := hp
    rw [if_neg h0]
    show Goes _ _ _
    unfold p28
    repeat' first
      | with_reducible refine goes_if (fun h => ?_) (fun h => ?_) <;> (try simp only [lim64, imp_false, decide_eq_true_eq, decide_eq_false_iff_not, Int.toNat_natCast, toNat_pred, toNat_succ, Option.getD_some, Option.getD_none, Bool.not_eq_true', Bool.not_eq_false', Bool.and_eq_true, Bool.or_eq_true, Bool.and_eq_false_iff, Bool.or_eq_false_iff, bne_iff_ne, beq_iff_eq, bne_eq_false_iff_eq, beq_eq_false_iff_ne, ne_eq, not_and, Int.not_le, Int.not_lt, ge_iff_le, gt_iff_lt, Nat.not_lt, Nat.not_le, Bool.not_eq_true, Bool.not_eq_false, Bool.true_eq_false, Bool.false_eq_true, not_false_eq_true, not_true_eq_false] at h)
      | exact goes_none.mpr (by omega)
    all_goals first | (exfalso; omega) | exact goes_inr.mpr rfl | (exfalso; simp_all; done)
theorem k28_ok : k28.ok Try.prog := by
  intro x hx
  obtain ⟨⟨⟨aq, nq, mq, tq, vq, gq, _⟩, de, _⟩, st, _⟩ := x
  obtain ⟨h1, h2⟩ := a28 aq nq mq tq vq gq de st (s28 aq nq mq tq vq gq de st (of_dec hx rfl))
  exact ⟨⟨400, (by decide : 1 + 1 + 1 ≤ 400), h1⟩, h2⟩
namespace S
def abc : ByteArray := ByteArray.mk #[97, 98, 99, 100, 101, 102, 103, 104]
def nameI (i : Nat) : ByteArray := subS abc i (i + 1)
def madeL (n : Nat) (t v : Nat → Int) : List (ByteArray × Int × Int) := if n = 0 then [(nameI 0, 1, 1)] else mkl (min n 8) fun i => (nameI i, t i, v i)
def byB (t : Nat → Int) (n : Nat) : Bool := all (fun j => decide (0 ≤ t j ∧ t j ≤ 255)) n
end S
inductive St38 where
  | h0 (x0 : Int) (x1 : List (Int × Int)) (x2 : List (ByteArray × Int × Int))
  | h1 (x0 : Int) (x1 : List (ByteArray × Int × Int))
abbrev Rt38 := List (ByteArray × Int × Int)
noncomputable def V38 (al nl ml : Nat) (tl : Nat → Int) (vl : Nat → Int) (de : Int) (r : Rt38) : PV := PV.agg [PV.own (2) (3) (List.length r), PV.int IntKind.i64 de]
noncomputable def N38 (al nl ml : Nat) (tl : Nat → Int) (vl : Nat → Int) (de : Int) (r : Rt38) : List Blk := [Blk.cols (List.length r)
 [Col.str fun j => (S.at' r j).1,
 Col.int IntKind.i64 fun j => (S.at' r j).2.1,
 Col.int IntKind.i64 fun j => (S.at' r j).2.2]]
noncomputable def I38 (al nl ml : Nat) (tl : Nat → Int) (vl : Nat → Int) (de : Int) : St38 → Hd
  | .h0 x0 x1 x2 => ⟨hd Try.f38 0, [PV.own (1) (2) (List.length x1),
 PV.ptr (PA.mk (2) (0) (0) (0)),
 PV.ptr (PA.mk (3) (0) (0) (0)), PV.int IntKind.i64 x0], [[(1, (true, Blk.cols (List.length x1)
 [Col.int IntKind.u8 fun j => (S.at' x1 j).1,
 Col.int IntKind.u8 fun j => (S.at' x1 j).2])), (2, (true, Blk.cells [PV.nils, PV.int IntKind.i64 (0 : Int)])), (3, (true, Blk.cells [PV.own (4) (3) (List.length x2), PV.int IntKind.i64 de])), (4, (true, Blk.cols (List.length x2)
 [Col.str fun j => (S.at' x2 j).1,
 Col.int IntKind.i64 fun j => (S.at' x2 j).2.1,
 Col.int IntKind.i64 fun j => (S.at' x2 j).2.2]))], [(0, (false, .cols ml [.int .u8 tl, .int .u8 vl]))]], 5⟩
  | .h1 x0 x1 => ⟨hd Try.f38 0, [PV.loose (PA.mk (0) (2) al (0)) nl,
 PV.ptr (PA.mk (1) (0) (0) (0)),
 PV.ptr (PA.mk (2) (0) (0) (0)), PV.int IntKind.i64 x0], [[(1, (true, Blk.cells [PV.nils, PV.int IntKind.i64 (0 : Int)])), (2, (true, Blk.cells [PV.own (3) (3) (List.length x1), PV.int IntKind.i64 de])), (3, (true, Blk.cols (List.length x1)
 [Col.str fun j => (S.at' x1 j).1,
 Col.int IntKind.i64 fun j => (S.at' x1 j).2.1,
 Col.int IntKind.i64 fun j => (S.at' x1 j).2.2]))], [(0, (false, .cols ml [.int .u8 tl, .int .u8 vl]))]], 4⟩
noncomputable def q38 (al nl ml : Nat) (tl : Nat → Int) (vl : Nat → Int) (de : Int) : St38 → Option (St38 ⊕ Rt38)
  | .h0 x0 x1 x2 => bif (decide (x0 < (↑(List.length x1) : Int)))
 then (bif (decide (x0 < (8 : Int)))
 then (bif (lim IntKind.i64 (x0 + (1 : Int)))
 then (bif (decide ((0 : Int) ≤ x0 ∧ x0 ≤ x0 + (1 : Int) ∧ x0 + (1 : Int) ≤ (8 : Int)))
 then (bif (decide ((0 : Int) ≤ x0 ∧ x0 < (↑(List.length x1) : Int)))
 then (bif (decide (Int.toNat x0 < List.length x1))
 then (bif (lim IntKind.i64 ((S.at' x1 (Int.toNat x0)).1))
 then (bif (lim IntKind.i64 ((S.at' x1 (Int.toNat x0)).2))
 then (bif (decide (List.length x2 + 1 ≤ 1000000))
 then (bif (decide (List.length x2 ≤ List.length x2))
 then (some (.inl (.h0 (x0 + (1 : Int)) (x1) (S.snoc x2
 (S.subS
 (ByteArray.mk
 #[(97 : UInt8), (98 : UInt8), (99 : UInt8), (100 : UInt8), (101 : UInt8), (102 : UInt8), (103 : UInt8),
 (104 : UInt8)])
 (Int.toNat x0) (Int.toNat (x0 + (1 : Int))),
 (S.at' x1 (Int.toNat x0)).1, (S.at' x1 (Int.toNat x0)).2)))))
 else (none))
 else (none))
 else (none))
 else (none))
 else (none))
 else (none))
 else (none))
 else (none))
 else (some (.inr (x2))))
 else (some (.inr (x2)))
  | .h1 x0 x1 => bif (decide (x0 < (↑nl : Int)))
 then (bif (decide (x0 < (8 : Int)))
 then (bif (lim IntKind.i64 (x0 + (1 : Int)))
 then (bif (decide ((0 : Int) ≤ x0 ∧ x0 ≤ x0 + (1 : Int) ∧ x0 + (1 : Int) ≤ (8 : Int)))
 then (bif (decide ((0 : Int) ≤ x0 ∧ x0 < (↑nl : Int)))
 then (bif (decide (Int.toNat x0 + al < ml))
 then (bif (lim IntKind.i64 (tl (Int.toNat x0 + al)))
 then (bif (lim IntKind.i64 (vl (Int.toNat x0 + al)))
 then (bif (decide (List.length x1 + 1 ≤ 1000000))
 then (bif (decide (List.length x1 ≤ List.length x1))
 then (some (.inl (.h1 (x0 + (1 : Int)) (S.snoc x1
 (S.subS
 (ByteArray.mk
 #[(97 : UInt8), (98 : UInt8), (99 : UInt8), (100 : UInt8), (101 : UInt8), (102 : UInt8), (103 : UInt8),
 (104 : UInt8)])
 (Int.toNat x0) (Int.toNat (x0 + (1 : Int))),
 tl (Int.toNat x0 + al), vl (Int.toNat x0 + al))))))
 else (none))
 else (none))
 else (none))
 else (none))
 else (none))
 else (none))
 else (none))
 else (none))
 else (some (.inr (x1))))
 else (some (.inr (x1)))
noncomputable def p38 (al nl ml : Nat) (tl : Nat → Int) (vl : Nat → Int) (de : Int) : Option (St38 ⊕ Rt38) := bif (lim IntKind.i64 de)
 then (bif ((↑nl : Int) == (0 : Int))
 then (some (.inl (.h0 ((0 : Int)) ([((1 : Int), (1 : Int))]) ([]))))
 else (some (.inl (.h1 ((0 : Int)) ([])))))
 else (none)
noncomputable def Te38 (test : Bool → Prop → Prop → Prop) (Kst : KS) (Kret : KR) (al nl ml : Nat) (tl : Nat → Int) (vl : Nat → Int) (de : Int) : Prop :=
  test (lim IntKind.i64 de)
 (test ((↑nl : Int) == (0 : Int))
 (Kst (hd Try.f38 0) ([PV.own (3) (2) (1),
 PV.ptr (PA.mk (1) (0) (0) (0)),
 PV.ptr (PA.mk (2) (0) (0) (0)), PV.int IntKind.i64 (0 : Int)]) ([[(0, false, Blk.cols ml [Col.int IntKind.u8 tl, Col.int IntKind.u8 vl]),
 (2, true, Blk.cells [PV.nils, PV.int IntKind.i64 de]),
 (1, true, Blk.cells [PV.nils, PV.int IntKind.i64 (0 : Int)]),
 (3, true,
 Blk.cells [PV.int IntKind.u8 (1 : Int), PV.int IntKind.u8 (1 : Int)])]]) (4))
 (Kst (hd Try.f38 0) ([PV.loose (PA.mk (0) (2) al (0)) nl,
 PV.ptr (PA.mk (1) (0) (0) (0)),
 PV.ptr (PA.mk (2) (0) (0) (0)), PV.int IntKind.i64 (0 : Int)]) ([[(0, false, Blk.cols ml [Col.int IntKind.u8 tl, Col.int IntKind.u8 vl]),
 (2, true, Blk.cells [PV.nils, PV.int IntKind.i64 de]),
 (1, true, Blk.cells [PV.nils, PV.int IntKind.i64 (0 : Int)])]]) (3)))
 (False)
theorem te38 (test : Bool → Prop → Prop → Prop) (Kst : KS) (Kret : KR) (al nl ml : Nat) (tl : Nat → Int) (vl : Nat → Int) (de : Int) : run test Try.env true noX true 400 ⟨38, [.cd (mkFn Try.f38).body], argT 0 [.loose ⟨0, 2, al, 0⟩ nl, .int .u8 de], [[], [(0, (false, .cols ml [.int .u8 tl, .int .u8 vl]))]], 1⟩ (proj 1 [0, 4, 5, 6] Kst Kret) =
  Te38 test Kst Kret al nl ml tl vl de := by kernel_rfl
noncomputable def T38_0 (test : Bool → Prop → Prop → Prop) (Kst : KS) (Kret : KR) (al nl ml : Nat) (tl : Nat → Int) (vl : Nat → Int) (de : Int) (x0 : Int) (x1 : List (Int × Int)) (x2 : List (ByteArray × Int × Int)) : Prop :=
  test (decide (x0 < (↑(List.length x1) : Int)))
 (test (decide (x0 < (8 : Int)))
 (test (lim IntKind.i64 (x0 + (1 : Int)))
 (test (decide ((0 : Int) ≤ x0 ∧ x0 ≤ x0 + (1 : Int) ∧ x0 + (1 : Int) ≤ (8 : Int)))
 (test (decide ((0 : Int) ≤ x0 ∧ x0 < (↑(List.length x1) : Int)))
 (test (true)
 (test (decide (Int.toNat x0 < List.length x1))
 (test (lim IntKind.i64 ((S.at' x1 (Int.toNat x0)).1))
 (test (decide ((0 : Int) ≤ x0 ∧ x0 < (↑(List.length x1) : Int)))
 (test (true)
 (test (decide (Int.toNat x0 < List.length x1))
 (test (lim IntKind.i64 ((S.at' x1 (Int.toNat x0)).2))
 (test (decide (List.length x2 + 1 ≤ 1000000))
 (test (decide (List.length x2 ≤ List.length x2))
 (test (true)
 (test (lim IntKind.i64 (x0 + (1 : Int)))
 (Kst (hd Try.f38 0) ([PV.own (1) (2) (List.length x1),
 PV.ptr (PA.mk (2) (0) (0) (0)),
 PV.ptr (PA.mk (3) (0) (0) (0)),
 PV.int IntKind.i64 (x0 + (1 : Int))]) ([[(0, false, Blk.cols ml [Col.int IntKind.u8 tl, Col.int IntKind.u8 vl]),
 (3, true,
 Blk.cells
 [PV.own (6) (3) (List.length x2 + 1), PV.int IntKind.i64 de]),
 (2, true, Blk.cells [PV.nils, PV.int IntKind.i64 (0 : Int)]),
 (1, true,
 Blk.cols (List.length x1)
 [Col.int IntKind.u8 fun j => (S.at' x1 j).1,
 Col.int IntKind.u8 fun j => (S.at' x1 j).2]),
 (6, true,
 Blk.cols (List.length x2 + 1)
 [Col.str fun j =>
 bif Nat.blt j (List.length x2) then (S.at' x2 j).1
 else
 S.subS
 (ByteArray.mk
 #[(97 : UInt8), (98 : UInt8), (99 : UInt8), (100 : UInt8), (101 : UInt8), (102 : UInt8),
 (103 : UInt8), (104 : UInt8)])
 (Int.toNat x0) (Int.toNat (x0 + (1 : Int))),
 Col.int IntKind.i64 fun j =>
 bif Nat.blt j (List.length x2) then (S.at' x2 j).2.1
 else (S.at' x1 (Int.toNat x0)).1,
 Col.int IntKind.i64 fun j =>
 bif Nat.blt j (List.length x2) then (S.at' x2 j).2.2
 else (S.at' x1 (Int.toNat x0)).2])]]) (7))
 (False))
 (False))
 (False))
 (False))
 (False))
 (False))
 (False))
 (False))
 (False))
 (False))
 (False))
 (False))
 (False))
 (False))
 (Kret (PV.agg [PV.own (4) (3) (List.length x2), PV.int IntKind.i64 de]) ([[(0, false, Blk.cols ml [Col.int IntKind.u8 tl, Col.int IntKind.u8 vl]),
 (4, true,
 Blk.cols (List.length x2)
 [Col.str fun j => (S.at' x2 j).1,
 Col.int IntKind.i64 fun j => (S.at' x2 j).2.1,
 Col.int IntKind.i64 fun j => (S.at' x2 j).2.2])]]) (5)))
 (Kret (PV.agg [PV.own (4) (3) (List.length x2), PV.int IntKind.i64 de]) ([[(0, false, Blk.cols ml [Col.int IntKind.u8 tl, Col.int IntKind.u8 vl]),
 (4, true,
 Blk.cols (List.length x2)
 [Col.str fun j => (S.at' x2 j).1,
 Col.int IntKind.i64 fun j => (S.at' x2 j).2.1,
 Col.int IntKind.i64 fun j => (S.at' x2 j).2.2])]]) (5))
theorem t38_0 (test : Bool → Prop → Prop → Prop) (Kst : KS) (Kret : KR) (al nl ml : Nat) (tl : Nat → Int) (vl : Nat → Int) (de : Int) (x0 : Int) (x1 : List (Int × Int)) (x2 : List (ByteArray × Int × Int)) : run test Try.env true noX true 400 ⟨38, hd Try.f38 0, zipT [0, 4, 5, 6] [PV.own (1) (2) (List.length x1),
 PV.ptr (PA.mk (2) (0) (0) (0)),
 PV.ptr (PA.mk (3) (0) (0) (0)), PV.int IntKind.i64 x0], [[(1, (true, Blk.cols (List.length x1)
 [Col.int IntKind.u8 fun j => (S.at' x1 j).1,
 Col.int IntKind.u8 fun j => (S.at' x1 j).2])), (2, (true, Blk.cells [PV.nils, PV.int IntKind.i64 (0 : Int)])), (3, (true, Blk.cells [PV.own (4) (3) (List.length x2), PV.int IntKind.i64 de])), (4, (true, Blk.cols (List.length x2)
 [Col.str fun j => (S.at' x2 j).1,
 Col.int IntKind.i64 fun j => (S.at' x2 j).2.1,
 Col.int IntKind.i64 fun j => (S.at' x2 j).2.2]))], [(0, (false, .cols ml [.int .u8 tl, .int .u8 vl]))]], 5⟩ (proj 1 [0, 4, 5, 6] Kst Kret) =
  T38_0 test Kst Kret al nl ml tl vl de x0 x1 x2 := by kernel_rfl
noncomputable def T38_1 (test : Bool → Prop → Prop → Prop) (Kst : KS) (Kret : KR) (al nl ml : Nat) (tl : Nat → Int) (vl : Nat → Int) (de : Int) (x0 : Int) (x1 : List (ByteArray × Int × Int)) : Prop :=
  test (decide (x0 < (↑nl : Int)))
 (test (decide (x0 < (8 : Int)))
 (test (lim IntKind.i64 (x0 + (1 : Int)))
 (test (decide ((0 : Int) ≤ x0 ∧ x0 ≤ x0 + (1 : Int) ∧ x0 + (1 : Int) ≤ (8 : Int)))
 (test (decide ((0 : Int) ≤ x0 ∧ x0 < (↑nl : Int)))
 (test (true)
 (test (decide (Int.toNat x0 + al < ml))
 (test (lim IntKind.i64 (tl (Int.toNat x0 + al)))
 (test (decide ((0 : Int) ≤ x0 ∧ x0 < (↑nl : Int)))
 (test (true)
 (test (decide (Int.toNat x0 + al < ml))
 (test (lim IntKind.i64 (vl (Int.toNat x0 + al)))
 (test (decide (List.length x1 + 1 ≤ 1000000))
 (test (decide (List.length x1 ≤ List.length x1))
 (test (true)
 (test (lim IntKind.i64 (x0 + (1 : Int)))
 (Kst (hd Try.f38 0) ([PV.loose (PA.mk (0) (2) al (0)) nl,
 PV.ptr (PA.mk (1) (0) (0) (0)),
 PV.ptr (PA.mk (2) (0) (0) (0)),
 PV.int IntKind.i64 (x0 + (1 : Int))]) ([[(0, false, Blk.cols ml [Col.int IntKind.u8 tl, Col.int IntKind.u8 vl]),
 (2, true,
 Blk.cells
 [PV.own (5) (3) (List.length x1 + 1), PV.int IntKind.i64 de]),
 (1, true, Blk.cells [PV.nils, PV.int IntKind.i64 (0 : Int)]),
 (5, true,
 Blk.cols (List.length x1 + 1)
 [Col.str fun j =>
 bif Nat.blt j (List.length x1) then (S.at' x1 j).1
 else
 S.subS
 (ByteArray.mk
 #[(97 : UInt8), (98 : UInt8), (99 : UInt8), (100 : UInt8), (101 : UInt8), (102 : UInt8),
 (103 : UInt8), (104 : UInt8)])
 (Int.toNat x0) (Int.toNat (x0 + (1 : Int))),
 Col.int IntKind.i64 fun j =>
 bif Nat.blt j (List.length x1) then (S.at' x1 j).2.1 else tl (Int.toNat x0 + al),
 Col.int IntKind.i64 fun j =>
 bif Nat.blt j (List.length x1) then (S.at' x1 j).2.2 else vl (Int.toNat x0 + al)])]]) (6))
 (False))
 (False))
 (False))
 (False))
 (False))
 (False))
 (False))
 (False))
 (False))
 (False))
 (False))
 (False))
 (False))
 (False))
 (Kret (PV.agg [PV.own (3) (3) (List.length x1), PV.int IntKind.i64 de]) ([[(0, false, Blk.cols ml [Col.int IntKind.u8 tl, Col.int IntKind.u8 vl]),
 (3, true,
 Blk.cols (List.length x1)
 [Col.str fun j => (S.at' x1 j).1,
 Col.int IntKind.i64 fun j => (S.at' x1 j).2.1,
 Col.int IntKind.i64 fun j => (S.at' x1 j).2.2])]]) (4)))
 (Kret (PV.agg [PV.own (3) (3) (List.length x1), PV.int IntKind.i64 de]) ([[(0, false, Blk.cols ml [Col.int IntKind.u8 tl, Col.int IntKind.u8 vl]),
 (3, true,
 Blk.cols (List.length x1)
 [Col.str fun j => (S.at' x1 j).1,
 Col.int IntKind.i64 fun j => (S.at' x1 j).2.1,
 Col.int IntKind.i64 fun j => (S.at' x1 j).2.2])]]) (4))
theorem t38_1 (test : Bool → Prop → Prop → Prop) (Kst : KS) (Kret : KR) (al nl ml : Nat) (tl : Nat → Int) (vl : Nat → Int) (de : Int) (x0 : Int) (x1 : List (ByteArray × Int × Int)) : run test Try.env true noX true 400 ⟨38, hd Try.f38 0, zipT [0, 4, 5, 6] [PV.loose (PA.mk (0) (2) al (0)) nl,
 PV.ptr (PA.mk (1) (0) (0) (0)),
 PV.ptr (PA.mk (2) (0) (0) (0)), PV.int IntKind.i64 x0], [[(1, (true, Blk.cells [PV.nils, PV.int IntKind.i64 (0 : Int)])), (2, (true, Blk.cells [PV.own (3) (3) (List.length x1), PV.int IntKind.i64 de])), (3, (true, Blk.cols (List.length x1)
 [Col.str fun j => (S.at' x1 j).1,
 Col.int IntKind.i64 fun j => (S.at' x1 j).2.1,
 Col.int IntKind.i64 fun j => (S.at' x1 j).2.2]))], [(0, (false, .cols ml [.int .u8 tl, .int .u8 vl]))]], 4⟩ (proj 1 [0, 4, 5, 6] Kst Kret) =
  T38_1 test Kst Kret al nl ml tl vl de x0 x1 := by kernel_rfl
theorem be38 (al nl ml : Nat) (tl : Nat → Int) (vl : Nat → Int) (de : Int) (Kst : KS) (Kret : KR) (x : St38 ⊕ Rt38) (hS : HS 1 400 ((I38 al nl ml tl vl de)) Kst x) (hR : HR 1 400 ((V38 al nl ml tl vl de)) (fun r => [newL (1 + 1) ((N38 al nl ml tl vl de) r) ++ [(0, (false, .cols ml [.int .u8 tl, .int .u8 vl]))]]) Kret x) (h : (bif (lim IntKind.i64 de)
 then (bif ((↑nl : Int) == (0 : Int))
 then (some (.inl (.h0 ((0 : Int)) ([((1 : Int), (1 : Int))]) ([]))))
 else (some (.inl (.h1 ((0 : Int)) ([])))))
 else (none) : Option (St38 ⊕ Rt38)) = some x) : Te38 cond Kst Kret al nl ml tl vl de := by
  unfold Te38
  exact bif_split h
   (fun c0 h => bif_split h
   (fun c1 h => stop_at hS _ h (fun n => bif Nat.beq n 1 then 3 else bif Nat.beq n 2 then 1 else bif Nat.beq n 3 then 2 else bif Nat.beq n 4 then 399 else n) rfl rfl rfl ⟨(rn_own (use_own rfl) rfl rfl), ⟨(rn_ptr (use_own rfl) rfl rfl), ⟨(rn_ptr (use_own rfl) rfl rfl), ⟨(rn_int rfl), trivial⟩⟩⟩⟩ rfl (entl_b (use_own rfl) rfl (by simp) (rb_lit (fun j hj i hi => (match j, hj with | 0, _ => (match i, hi with | 0, _ => ⟨_, rfl, rn_int rfl⟩ | 1, _ => ⟨_, rfl, rn_int rfl⟩ | _ + 2, h => absurd h (by simp [lenc])) | _ + 1, h => absurd h (by simp)))) (entl_b (use_own rfl) rfl (by simp) (rb_cells ⟨rn_nils, (rn_int rfl), trivial⟩) (entl_b (use_own rfl) rfl (by simp) (rb_cells ⟨(rn_own_nils rfl), (rn_int rfl), trivial⟩) (entl_fresh (use_own rfl) (fresh_ok rfl) (entl_bor (use_lo rfl) rfl rfl entl_nil))))))
   (fun c1 h => stop_at hS _ h (fun n => bif Nat.beq n 1 then 1 else bif Nat.beq n 2 then 2 else bif Nat.beq n 3 then 399 else n) rfl rfl rfl ⟨(rn_loose (use_lo rfl) rfl rfl rfl), ⟨(rn_ptr (use_own rfl) rfl rfl), ⟨(rn_ptr (use_own rfl) rfl rfl), ⟨(rn_int rfl), trivial⟩⟩⟩⟩ rfl (entl_b (use_own rfl) rfl (by simp) (rb_cells ⟨rn_nils, (rn_int rfl), trivial⟩) (entl_b (use_own rfl) rfl (by simp) (rb_cells ⟨(rn_own_nils rfl), (rn_int rfl), trivial⟩) (entl_fresh (use_own rfl) (fresh_ok rfl) (entl_bor (use_lo rfl) rfl rfl entl_nil))))))
   (fun c0 h => no_some h)
theorem b38_0 (al nl ml : Nat) (tl : Nat → Int) (vl : Nat → Int) (de : Int) (Kst : KS) (Kret : KR) (x : St38 ⊕ Rt38) (hS : HS 1 400 ((I38 al nl ml tl vl de)) Kst x) (hR : HR 1 400 ((V38 al nl ml tl vl de)) (fun r => [newL (1 + 1) ((N38 al nl ml tl vl de) r) ++ [(0, (false, .cols ml [.int .u8 tl, .int .u8 vl]))]]) Kret x) (x0 : Int) (x1 : List (Int × Int)) (x2 : List (ByteArray × Int × Int)) (h : (bif (decide (x0 < (↑(List.length x1) : Int)))
 then (bif (decide (x0 < (8 : Int)))
 then (bif (lim IntKind.i64 (x0 + (1 : Int)))
 then (bif (decide ((0 : Int) ≤ x0 ∧ x0 ≤ x0 + (1 : Int) ∧ x0 + (1 : Int) ≤ (8 : Int)))
 then (bif (decide ((0 : Int) ≤ x0 ∧ x0 < (↑(List.length x1) : Int)))
 then (bif (decide (Int.toNat x0 < List.length x1))
 then (bif (lim IntKind.i64 ((S.at' x1 (Int.toNat x0)).1))
 then (bif (lim IntKind.i64 ((S.at' x1 (Int.toNat x0)).2))
 then (bif (decide (List.length x2 + 1 ≤ 1000000))
 then (bif (decide (List.length x2 ≤ List.length x2))
 then (some (.inl (.h0 (x0 + (1 : Int)) (x1) (S.snoc x2
 (S.subS
 (ByteArray.mk
 #[(97 : UInt8), (98 : UInt8), (99 : UInt8), (100 : UInt8), (101 : UInt8), (102 : UInt8), (103 : UInt8),
 (104 : UInt8)])
 (Int.toNat x0) (Int.toNat (x0 + (1 : Int))),
 (S.at' x1 (Int.toNat x0)).1, (S.at' x1 (Int.toNat x0)).2)))))
 else (none))
 else (none))
 else (none))
 else (none))
 else (none))
 else (none))
 else (none))
 else (none))
 else (some (.inr (x2))))
 else (some (.inr (x2))) : Option (St38 ⊕ Rt38)) = some x) : T38_0 cond Kst Kret al nl ml tl vl de x0 x1 x2 := by
  unfold T38_0
  exact bif_split h
   (fun c0 h => bif_split h
   (fun c1 h => bif_split h
   (fun c2 h => bif_split h
   (fun c3 h => bif_split h
   (fun c4 h => cond_yes rfl (bif_split h
   (fun c5 h => bif_split h
   (fun c6 h => cond_yes c4 (cond_yes rfl (cond_yes c5 (bif_split h
   (fun c7 h => bif_split h
   (fun c8 h => bif_split h
   (fun c9 h => cond_yes rfl (cond_yes c2 (stop_at hS _ h (fun n => bif Nat.beq n 1 then 1 else bif Nat.beq n 2 then 2 else bif Nat.beq n 3 then 3 else bif Nat.beq n 4 then 6 else n) rfl rfl rfl ⟨(rn_own (use_own rfl) rfl rfl), ⟨(rn_ptr (use_own rfl) rfl rfl), ⟨(rn_ptr (use_own rfl) rfl rfl), ⟨(rn_int rfl), trivial⟩⟩⟩⟩ rfl (entl_new (use_own rfl) rfl (Nat.le_of_eq rfl) (rcs_int (fun _ _ => rfl) (rcs_int (fun _ _ => rfl) rcs_nil)) (entl_b (use_own rfl) rfl (by simp) (rb_cells ⟨rn_nils, (rn_int rfl), trivial⟩) (entl_b (use_own rfl) rfl (by simp) (rb_cells ⟨(rn_own (use_own rfl) rfl (snoc_len' rfl)), (rn_int rfl), trivial⟩) (entl_new (use_own rfl) rfl (Nat.le_of_eq (snoc_len' rfl)) (rcs_str (col_snoc' (fun (t : ByteArray × Int × Int) => t.1) rfl (fun _ _ => rfl)) (rcs_int (col_snoc' (fun (t : ByteArray × Int × Int) => t.2.1) rfl (fun _ _ => rfl)) (rcs_int (col_snoc' (fun (t : ByteArray × Int × Int) => t.2.2) rfl (fun _ _ => rfl)) rcs_nil))) (entl_bor (use_lo rfl) rfl rfl entl_nil))))))))
   (fun c9 h => no_some h))
   (fun c8 h => no_some h))
   (fun c7 h => no_some h)))))
   (fun c6 h => no_some h))
   (fun c5 h => no_some h)))
   (fun c4 h => no_some h))
   (fun c3 h => no_some h))
   (fun c2 h => no_some h))
   (fun c1 h => ret_at hR _ h (fun n => bif Nat.beq n 2 then 4 else n) rfl rfl rfl (rn_agg ⟨(rn_own (use_own rfl) rfl rfl), (rn_int rfl), trivial⟩) rfl (entl_new (use_own rfl) rfl (Nat.le_of_eq rfl) (rcs_str (fun _ _ => rfl) (rcs_int (fun _ _ => rfl) (rcs_int (fun _ _ => rfl) rcs_nil))) (entl_bor (use_lo rfl) rfl rfl entl_nil))))
   (fun c0 h => ret_at hR _ h (fun n => bif Nat.beq n 2 then 4 else n) rfl rfl rfl (rn_agg ⟨(rn_own (use_own rfl) rfl rfl), (rn_int rfl), trivial⟩) rfl (entl_new (use_own rfl) rfl (Nat.le_of_eq rfl) (rcs_str (fun _ _ => rfl) (rcs_int (fun _ _ => rfl) (rcs_int (fun _ _ => rfl) rcs_nil))) (entl_bor (use_lo rfl) rfl rfl entl_nil)))
theorem b38_1 (al nl ml : Nat) (tl : Nat → Int) (vl : Nat → Int) (de : Int) (Kst : KS) (Kret : KR) (x : St38 ⊕ Rt38) (hS : HS 1 400 ((I38 al nl ml tl vl de)) Kst x) (hR : HR 1 400 ((V38 al nl ml tl vl de)) (fun r => [newL (1 + 1) ((N38 al nl ml tl vl de) r) ++ [(0, (false, .cols ml [.int .u8 tl, .int .u8 vl]))]]) Kret x) (x0 : Int) (x1 : List (ByteArray × Int × Int)) (h : (bif (decide (x0 < (↑nl : Int)))
 then (bif (decide (x0 < (8 : Int)))
 then (bif (lim IntKind.i64 (x0 + (1 : Int)))
 then (bif (decide ((0 : Int) ≤ x0 ∧ x0 ≤ x0 + (1 : Int) ∧ x0 + (1 : Int) ≤ (8 : Int)))
 then (bif (decide ((0 : Int) ≤ x0 ∧ x0 < (↑nl : Int)))
 then (bif (decide (Int.toNat x0 + al < ml))
 then (bif (lim IntKind.i64 (tl (Int.toNat x0 + al)))
 then (bif (lim IntKind.i64 (vl (Int.toNat x0 + al)))
 then (bif (decide (List.length x1 + 1 ≤ 1000000))
 then (bif (decide (List.length x1 ≤ List.length x1))
 then (some (.inl (.h1 (x0 + (1 : Int)) (S.snoc x1
 (S.subS
 (ByteArray.mk
 #[(97 : UInt8), (98 : UInt8), (99 : UInt8), (100 : UInt8), (101 : UInt8), (102 : UInt8), (103 : UInt8),
 (104 : UInt8)])
 (Int.toNat x0) (Int.toNat (x0 + (1 : Int))),
 tl (Int.toNat x0 + al), vl (Int.toNat x0 + al))))))
 else (none))
 else (none))
 else (none))
 else (none))
 else (none))
 else (none))
 else (none))
 else (none))
 else (some (.inr (x1))))
 else (some (.inr (x1))) : Option (St38 ⊕ Rt38)) = some x) : T38_1 cond Kst Kret al nl ml tl vl de x0 x1 := by
  unfold T38_1
  exact bif_split h
   (fun c0 h => bif_split h
   (fun c1 h => bif_split h
   (fun c2 h => bif_split h
   (fun c3 h => bif_split h
   (fun c4 h => cond_yes rfl (bif_split h
   (fun c5 h => bif_split h
   (fun c6 h => cond_yes c4 (cond_yes rfl (cond_yes c5 (bif_split h
   (fun c7 h => bif_split h
   (fun c8 h => bif_split h
   (fun c9 h => cond_yes rfl (cond_yes c2 (stop_at hS _ h (fun n => bif Nat.beq n 1 then 1 else bif Nat.beq n 2 then 2 else bif Nat.beq n 3 then 5 else n) rfl rfl rfl ⟨(rn_loose (use_lo rfl) rfl rfl rfl), ⟨(rn_ptr (use_own rfl) rfl rfl), ⟨(rn_ptr (use_own rfl) rfl rfl), ⟨(rn_int rfl), trivial⟩⟩⟩⟩ rfl (entl_b (use_own rfl) rfl (by simp) (rb_cells ⟨rn_nils, (rn_int rfl), trivial⟩) (entl_b (use_own rfl) rfl (by simp) (rb_cells ⟨(rn_own (use_own rfl) rfl (snoc_len' rfl)), (rn_int rfl), trivial⟩) (entl_new (use_own rfl) rfl (Nat.le_of_eq (snoc_len' rfl)) (rcs_str (col_snoc' (fun (t : ByteArray × Int × Int) => t.1) rfl (fun _ _ => rfl)) (rcs_int (col_snoc' (fun (t : ByteArray × Int × Int) => t.2.1) rfl (fun _ _ => rfl)) (rcs_int (col_snoc' (fun (t : ByteArray × Int × Int) => t.2.2) rfl (fun _ _ => rfl)) rcs_nil))) (entl_bor (use_lo rfl) rfl rfl entl_nil)))))))
   (fun c9 h => no_some h))
   (fun c8 h => no_some h))
   (fun c7 h => no_some h)))))
   (fun c6 h => no_some h))
   (fun c5 h => no_some h)))
   (fun c4 h => no_some h))
   (fun c3 h => no_some h))
   (fun c2 h => no_some h))
   (fun c1 h => ret_at hR _ h (fun n => bif Nat.beq n 2 then 3 else n) rfl rfl rfl (rn_agg ⟨(rn_own (use_own rfl) rfl rfl), (rn_int rfl), trivial⟩) rfl (entl_new (use_own rfl) rfl (Nat.le_of_eq rfl) (rcs_str (fun _ _ => rfl) (rcs_int (fun _ _ => rfl) (rcs_int (fun _ _ => rfl) rcs_nil))) (entl_bor (use_lo rfl) rfl rfl entl_nil))))
   (fun c0 h => ret_at hR _ h (fun n => bif Nat.beq n 2 then 3 else n) rfl rfl rfl (rn_agg ⟨(rn_own (use_own rfl) rfl rfl), (rn_int rfl), trivial⟩) rfl (entl_new (use_own rfl) rfl (Nat.le_of_eq rfl) (rcs_str (fun _ _ => rfl) (rcs_int (fun _ _ => rfl) (rcs_int (fun _ _ => rfl) rcs_nil))) (entl_bor (use_lo rfl) rfl rfl entl_nil)))
theorem a38 (al nl ml : Nat) (tl : Nat → Int) (vl : Nat → Int) (de : Int) {r : Rt38} (h : Goes ((q38 al nl ml tl vl de)) ((p38 al nl ml tl vl de)) r) : CallR Try.prog 38 [.loose ⟨0, 2, al, 0⟩ nl, .int .u8 de] [[(0, (false, .cols ml [.int .u8 tl, .int .u8 vl]))]] 1 ((V38 al nl ml tl vl de) r) ((fun r => [newL (1 + 1) ((N38 al nl ml tl vl de) r) ++ [(0, (false, .cols ml [.int .u8 tl, .int .u8 vl]))]]) r) 400 ∧ ∃ F, Try.prog.funcs[38]? = some F ∧ F.body.isSome = true ∧ (F.name == "runtime.NumGoroutine") = false := by
  refine dec_calls (f := 38) (lo := 1) (hi := 400) (H := [[(0, (false, .cols ml [.int .u8 tl, .int .u8 vl]))]]) (args := [.loose ⟨0, 2, al, 0⟩ nl, .int .u8 de]) Try.envOk Try.mixed noX_ok ((I38 al nl ml tl vl de)) ((V38 al nl ml tl vl de)) (fun r => [newL (1 + 1) ((N38 al nl ml tl vl de) r) ++ [(0, (false, .cols ml [.int .u8 tl, .int .u8 vl]))]]) (fn := mkFn Try.f38) (ts := [0, 4, 5, 6]) (n := 400) rfl (by decide) (by simp) (names_of rfl) ?_ ?_ ?_ h
  · intro s; cases s <;> exact ⟨hd_ok _ _, by simp [I38], names_of rfl, Nat.le_of_ble_eq_true rfl⟩
  · intro Kst Kret x hS hR h
    exact Holds.eq (te38 cond Kst Kret al nl ml tl vl de) (be38 al nl ml tl vl de Kst Kret x hS hR h)
  · intro Kst Kret x hS hR s h
    cases s with
    | h0 x0 x1 x2 => exact Holds.eq (t38_0 cond Kst Kret al nl ml tl vl de x0 x1 x2) (b38_0 al nl ml tl vl de Kst Kret x hS hR x0 x1 x2 h)
    | h1 x0 x1 => exact Holds.eq (t38_1 cond Kst Kret al nl ml tl vl de x0 x1) (b38_1 al nl ml tl vl de Kst Kret x hS hR x0 x1 h)
noncomputable def k38 : Con := ⟨38, [.one (.list [.int .u8, .int .u8]), .one (.plain (.int .u8))], fun (x : (Nat × Nat × Nat × (Nat → Int) × (Nat → Int) × Unit) × Int × Unit) => (fun (al nl ml : Nat) (tl : Nat → Int) (vl : Nat → Int) (de : Int) => decide ((al + nl ≤ ml ∧ nl ≤ 1000000) ∧ (0 ≤ de ∧ de ≤ 255) ∧ S.byB (fun j => tl (j + al)) nl = true ∧ S.byB (fun j => vl (j + al)) nl = true)) x.1.1 x.1.2.1 x.1.2.2.1 x.1.2.2.2.1 x.1.2.2.2.2.1 x.2.1, fun (x : (Nat × Nat × Nat × (Nat → Int) × (Nat → Int) × Unit) × Int × Unit) => (fun (al nl ml : Nat) (tl : Nat → Int) (vl : Nat → Int) (de : Int) => (V38 al nl ml tl vl de) (S.madeL nl (fun j => tl (j + al)) (fun j => vl (j + al)))) x.1.1 x.1.2.1 x.1.2.2.1 x.1.2.2.2.1 x.1.2.2.2.2.1 x.2.1, fun (x : (Nat × Nat × Nat × (Nat → Int) × (Nat → Int) × Unit) × Int × Unit) => (fun (al nl ml : Nat) (tl : Nat → Int) (vl : Nat → Int) (de : Int) => (N38 al nl ml tl vl de) (S.madeL nl (fun j => tl (j + al)) (fun j => vl (j + al)))) x.1.1 x.1.2.1 x.1.2.2.1 x.1.2.2.2.1 x.1.2.2.2.2.1 x.2.1, fun _ _ => .dead⟩
theorem s38' (al nl ml : Nat) (tl : Nat → Int) (vl : Nat → Int) (de : Int) (hp : (al + nl ≤ ml ∧ nl ≤ 1000000) ∧ (0 ≤ de ∧ de ≤ 255) ∧ S.byB (fun j => tl (j + al)) nl = true ∧ S.byB (fun j => vl (j + al)) nl = true) : ∀ (k i : Nat) (L : List (ByteArray × Int × Int)), i + k = min nl 8 → Holds (L = S.mkl (i) (fun i => (S.nameI i, tl (i + al), vl (i + al)))) → Comes (q38 al nl ml tl vl de) (.h1 (i : Int) L) (S.mkl (min nl 8) (fun i => (S.nameI i, tl (i + al), vl (i + al)))) := by
  obtain ⟨⟨hp1, hp2⟩, hp3, hp4, hp5⟩ := hp
  intro k
  induction k with
  | zero =>
    intro i L hi eL
    have e := eL.get
    rw [show i = min nl 8 by omega] at e
    apply Comes.of
    show Goes _ _ _
    (first | rw [q38] | unfold q38)
    repeat' first
      | with_reducible refine goes_if (fun h => ?_) (fun h => ?_) <;> (try simp only [lim64, imp_false, decide_eq_true_eq, decide_eq_false_iff_not, Int.toNat_natCast, toNat_pred, toNat_succ, Option.getD_some, Option.getD_none, Bool.not_eq_true', Bool.not_eq_false', Bool.and_eq_true, Bool.or_eq_true, Bool.and_eq_false_iff, Bool.or_eq_false_iff, bne_iff_ne, beq_iff_eq, bne_eq_false_iff_eq, beq_eq_false_iff_ne, ne_eq, not_and, Int.not_le, Int.not_lt, ge_iff_le, gt_iff_lt, Nat.not_lt, Nat.not_le, Bool.not_eq_true, Bool.not_eq_false, Bool.true_eq_false, Bool.false_eq_true, not_false_eq_true, not_true_eq_false] at h)
      | exact goes_none.mpr (by omega)
    all_goals first | (exfalso; omega) | exact goes_inr.mpr e
  | succ k ih =>
    intro i L hi eL
    have h1 := of_decide_eq_true (all_iff.mp hp4 i (by omega))
    have h2 := of_decide_eq_true (all_iff.mp hp5 i (by omega))
    try dsimp only at h1 h2
    have hL : L.length = i := by rw [eL.get, mkl_len]
    have ih := ih (i + 1) (S.snoc L (S.nameI i, tl (i + al), vl (i + al))) (by omega) ⟨by rw [mkl_succ, eL.get]⟩
    have e1 : ((i : Int) + 1).toNat = i + 1 := by omega
    apply Comes.of
    show Goes _ _ _
    (first | rw [q38] | unfold q38)
    try simp only [e1, Int.toNat_natCast]
    try show Goes _ _ _
    repeat' first
      | with_reducible refine goes_if (fun h => ?_) (fun h => ?_) <;> (try simp only [lim64, imp_false, decide_eq_true_eq, decide_eq_false_iff_not, Int.toNat_natCast, toNat_pred, toNat_succ, Option.getD_some, Option.getD_none, Bool.not_eq_true', Bool.not_eq_false', Bool.and_eq_true, Bool.or_eq_true, Bool.and_eq_false_iff, Bool.or_eq_false_iff, bne_iff_ne, beq_iff_eq, bne_eq_false_iff_eq, beq_eq_false_iff_ne, ne_eq, not_and, Int.not_le, Int.not_lt, ge_iff_le, gt_iff_lt, Nat.not_lt, Nat.not_le, Bool.not_eq_true, Bool.not_eq_false, Bool.true_eq_false, Bool.false_eq_true, not_false_eq_true, not_true_eq_false] at h)
      | exact goes_none.mpr (by omega)
    all_goals first | (exfalso; omega) | exact ih
theorem s38 (al nl ml : Nat) (tl : Nat → Int) (vl : Nat → Int) (de : Int) (hp : (al + nl ≤ ml ∧ nl ≤ 1000000) ∧ (0 ≤ de ∧ de ≤ 255) ∧ S.byB (fun j => tl (j + al)) nl = true ∧ S.byB (fun j => vl (j + al)) nl = true) : Goes ((q38 al nl ml tl vl de)) ((p38 al nl ml tl vl de)) (S.madeL nl (fun j => tl (j + al)) (fun j => vl (j + al))) := by
  unfold S.madeL
  by_cases h0 : nl = 0
  · have e : (q38 al nl ml tl vl de) (.h0 0 [(1, 1)] []) = some (.inl (.h0 1 [(1, 1)] [(S.nameI 0, 1, 1)])) := rfl
    have e2 : (q38 al nl ml tl vl de) (.h0 1 [(1, 1)] [(S.nameI 0, 1, 1)]) = some (.inr [(S.nameI 0, 1, 1)]) := rfl
    rw [if_pos h0]
    obtain ⟨⟨hp1, hp2⟩, hp3, hp4, hp5⟩ := hp
    show Goes _ _ _
    unfold p38
    repeat' first
      | with_reducible refine goes_if (fun h => ?_) (fun h => ?_) <;> (try simp only [lim64, imp_false, decide_eq_true_eq, decide_eq_false_iff_not, Int.toNat_natCast, toNat_pred, toNat_succ, Option.getD_some, Option.getD_none, Bool.not_eq_true', Bool.not_eq_false', Bool.and_eq_true, Bool.or_eq_true, Bool.and_eq_false_iff, Bool.or_eq_false_iff, bne_iff_ne, beq_iff_eq, bne_eq_false_iff_eq, beq_eq_false_iff_ne, ne_eq, not_and, Int.not_le, Int.not_lt, ge_iff_le, gt_iff_lt, Nat.not_lt, Nat.not_le, Bool.not_eq_true, Bool.not_eq_false, Bool.true_eq_false, Bool.false_eq_true, not_false_eq_true, not_true_eq_false] at h)
      | exact goes_none.mpr (by omega)
    all_goals first | (exfalso; omega) | exact Comes.next e (Comes.done e2)
  · rw [if_neg h0]
    have hm := s38' al nl ml tl vl de hp (min nl 8) 0 [] (Nat.zero_add _) ⟨rfl⟩
    obtain ⟨⟨hp1, hp2⟩, hp3, hp4, hp5⟩ := hp
    show Goes _ _ _
    unfold p38
    repeat' first
      | with_reducible refine goes_if (fun h => ?_) (fun h => ?_) <;> (try simp only [lim64, imp_false, decide_eq_true_eq, decide_eq_false_iff_not, Int.toNat_natCast, toNat_pred, toNat_succ, Option.getD_some, Option.getD_none, Bool.not_eq_true', Bool.not_eq_false', Bool.and_eq_true, Bool.or_eq_true, Bool.and_eq_false_iff, Bool.or_eq_false_iff, bne_iff_ne, beq_iff_eq, bne_eq_false_iff_eq, beq_eq_false_iff_ne, ne_eq, not_and, Int.not_le, Int.not_lt, ge_iff_le, gt_iff_lt, Nat.not_lt, Nat.not_le, Bool.not_eq_true, Bool.not_eq_false, Bool.true_eq_false, Bool.false_eq_true, not_false_eq_true, not_true_eq_false] at h)
      | exact goes_none.mpr (by omega)
    all_goals first | (exfalso; omega) | exact hm
theorem k38_ok : k38.ok Try.prog := by
  intro x hx
  obtain ⟨⟨al, nl, ml, tl, vl, _⟩, de, _⟩ := x
  obtain ⟨h1, h2⟩ := a38 al nl ml tl vl de (s38 al nl ml tl vl de (of_dec hx rfl))
  exact ⟨⟨400, (by decide : 1 + 1 + 1 ≤ 400), h1⟩, h2⟩
noncomputable def xM (test : Bool → Prop → Prop → Prop) : Ext := consX test [k38, k25, k17]
theorem xM_ok : ExtOk Try.prog (xM cond) := consX_ok ⟨k38_ok, k25_ok, k17_ok, trivial⟩
abbrev St12 := Empty
abbrev Rt12 := Bool
noncomputable def V12  (r : Rt12) : PV := PV.bool r
noncomputable def N12  (r : Rt12) : List Blk := []
noncomputable def I12  : St12 → Hd := fun s => s.elim
noncomputable def q12  : St12 → Option (St12 ⊕ Rt12) := fun s => s.elim
noncomputable def p12  : Option (St12 ⊕ Rt12) := some (.inr (true))
noncomputable def Te12 (test : Bool → Prop → Prop → Prop) (Kst : KS) (Kret : KR)  : Prop :=
  test (true)
 (test (true)
 (test (true)
 (test (true)
 (test (true)
 (test (true)
 (test (true)
 (test (true)
 (test (true)
 (test (true)
 (test (true)
 (test (true)
 (Kret (PV.tf true) ([[]]) (8))
 (Kret (PV.tf false) ([[]]) (8)))
 (Kret (PV.tf false) ([[]]) (8)))
 (Kret (PV.tf false) ([[]]) (8)))
 (Kret (PV.tf false) ([[]]) (8)))
 (Kret (PV.tf false) ([[]]) (8)))
 (Kret (PV.tf false) ([[]]) (8)))
 (Kret (PV.tf false) ([[]]) (8)))
 (Kret (PV.tf false) ([[]]) (8)))
 (False))
 (False))
 (False))
 (False)
theorem te12 (test : Bool → Prop → Prop → Prop) (Kst : KS) (Kret : KR)  : run test Try.env true (xM test) true 400 ⟨12, [.cd (mkFn Try.f12).body], argT 0 [], [[], []], 0⟩ (proj 0 [] Kst Kret) =
  Te12 test Kst Kret  := by kernel_rfl
theorem be12  (Kst : KS) (Kret : KR) (x : St12 ⊕ Rt12) (hS : HS 0 400 (I12) Kst x) (hR : HR 0 400 (V12) (fun r => [newL (0 + 1) (N12 r) ++ []]) Kret x) (h : (some (.inr (true)) : Option (St12 ⊕ Rt12)) = some x) : Te12 cond Kst Kret  := by
  unfold Te12
  exact cond_yes rfl (cond_yes rfl (cond_yes rfl (cond_yes rfl (cond_yes rfl (cond_yes rfl (cond_yes rfl (cond_yes rfl (cond_yes rfl (cond_yes rfl (cond_yes rfl (cond_yes rfl (ret_at hR _ h (fun n => n) rfl rfl rfl (rn_bool_tf rfl) rfl entl_nil))))))))))))
theorem a12  {r : Rt12} (h : Goes (q12) (p12) r) : CallR Try.prog 12 [] [[]] 0 (V12 r) ((fun r => [newL (0 + 1) (N12 r) ++ []]) r) 400 ∧ ∃ F, Try.prog.funcs[12]? = some F ∧ F.body.isSome = true ∧ (F.name == "runtime.NumGoroutine") = false := by
  refine dec_calls (f := 12) (lo := 0) (hi := 400) (H := [[]]) (args := []) Try.envOk Try.mixed xM_ok (I12) (V12) (fun r => [newL (0 + 1) (N12 r) ++ []]) (fn := mkFn Try.f12) (ts := []) (n := 400) rfl (by decide) (by simp) (names_of rfl) ?_ ?_ ?_ h
  · intro s; exact s.elim
  · intro Kst Kret x hS hR h
    exact Holds.eq (te12 cond Kst Kret ) (be12  Kst Kret x hS hR h)
  · intro Kst Kret x hS hR s h; exact s.elim
noncomputable def k12 : Con := ⟨12, [], fun (x : Unit) => decide (True), fun (x : Unit) => V12 (true), fun (x : Unit) => N12 (true), fun _ _ => .dead⟩
theorem s12  (hp : True) : Goes (q12) (p12) (true) := by
  exact goes_inr.mpr rfl
theorem k12_ok : k12.ok Try.prog := by
  intro x hx
  obtain _ := x
  obtain ⟨h1, h2⟩ := a12  (s12  (of_dec hx rfl))
  exact ⟨⟨400, (by decide : 0 + 1 + 0 ≤ 400), h1⟩, h2⟩
abbrev St15 := Empty
abbrev Rt15 := List (ByteArray × Int × Int)
noncomputable def V15 (aq nq mq : Nat) (tq : Nat → ByteArray) (vq : Nat → Int) (gq : Nat → Int) (de : Int) (r : Rt15) : PV := PV.agg [PV.own (2) (3) (List.length r), PV.int IntKind.i64 de]
noncomputable def N15 (aq nq mq : Nat) (tq : Nat → ByteArray) (vq : Nat → Int) (gq : Nat → Int) (de : Int) (r : Rt15) : List Blk := [Blk.cols (List.length r)
 [Col.str fun j => (S.at' r j).1,
 Col.int IntKind.i64 fun j => (S.at' r j).2.1,
 Col.int IntKind.i64 fun j => (S.at' r j).2.2]]
noncomputable def I15 (aq nq mq : Nat) (tq : Nat → ByteArray) (vq : Nat → Int) (gq : Nat → Int) (de : Int) : St15 → Hd := fun s => s.elim
noncomputable def q15 (aq nq mq : Nat) (tq : Nat → ByteArray) (vq : Nat → Int) (gq : Nat → Int) (de : Int) : St15 → Option (St15 ⊕ Rt15) := fun s => s.elim
noncomputable def p15 (aq nq mq : Nat) (tq : Nat → ByteArray) (vq : Nat → Int) (gq : Nat → Int) (de : Int) : Option (St15 ⊕ Rt15) := bif (decide (aq + nq ≤ mq ∧ nq ≤ 1000000))
 then (some (.inr (S.mkl nq fun j => (tq (j + aq), vq (j + aq), gq (j + aq)))))
 else (none)
noncomputable def Te15 (test : Bool → Prop → Prop → Prop) (Kst : KS) (Kret : KR) (aq nq mq : Nat) (tq : Nat → ByteArray) (vq : Nat → Int) (gq : Nat → Int) (de : Int) : Prop :=
  test (decide (aq + nq ≤ mq ∧ nq ≤ 1000000))
 (Kret (PV.agg [PV.own (4) (3) nq, PV.int IntKind.i64 de]) ([[(0, false,
 Blk.cols mq [Col.str tq, Col.int IntKind.i64 vq, Col.int IntKind.i64 gq]),
 (4, true,
 Blk.cols nq
 [Col.str fun j => tq (j + aq), Col.int IntKind.i64 fun j => vq (j + aq),
 Col.int IntKind.i64 fun j => gq (j + aq)])]]) (5))
 (False)
theorem te15 (test : Bool → Prop → Prop → Prop) (Kst : KS) (Kret : KR) (aq nq mq : Nat) (tq : Nat → ByteArray) (vq : Nat → Int) (gq : Nat → Int) (de : Int) : run test Try.env true (xD test) true 400 ⟨15, [.cd (mkFn Try.f15).body], argT 0 [.agg [.loose ⟨0, 3, aq, 0⟩ nq, .int .i64 de]], [[], [(0, (false, .cols mq [.str tq, .int .i64 vq, .int .i64 gq]))]], 1⟩ (proj 1 [] Kst Kret) =
  Te15 test Kst Kret aq nq mq tq vq gq de := by kernel_rfl
theorem be15 (aq nq mq : Nat) (tq : Nat → ByteArray) (vq : Nat → Int) (gq : Nat → Int) (de : Int) (Kst : KS) (Kret : KR) (x : St15 ⊕ Rt15) (hS : HS 1 400 ((I15 aq nq mq tq vq gq de)) Kst x) (hR : HR 1 400 ((V15 aq nq mq tq vq gq de)) (fun r => [newL (1 + 1) ((N15 aq nq mq tq vq gq de) r) ++ [(0, (false, .cols mq [.str tq, .int .i64 vq, .int .i64 gq]))]]) Kret x) (h : (bif (decide (aq + nq ≤ mq ∧ nq ≤ 1000000))
 then (some (.inr (S.mkl nq fun j => (tq (j + aq), vq (j + aq), gq (j + aq)))))
 else (none) : Option (St15 ⊕ Rt15)) = some x) : Te15 cond Kst Kret aq nq mq tq vq gq de := by
  unfold Te15
  exact bif_split h
   (fun c0 h => ret_at hR _ h (fun n => bif Nat.beq n 2 then 4 else n) rfl rfl rfl (rn_agg ⟨(rn_own (use_own rfl) rfl mkl_len), (rn_int rfl), trivial⟩) rfl (entl_new (use_own rfl) rfl (Nat.le_of_eq mkl_len) (rcs_str (fun _ hj => col_mkl (fun (t : ByteArray × Int × Int) => t.1) hj) (rcs_int (fun _ hj => col_mkl (fun (t : ByteArray × Int × Int) => t.2.1) hj) (rcs_int (fun _ hj => col_mkl (fun (t : ByteArray × Int × Int) => t.2.2) hj) rcs_nil))) (entl_bor (use_lo rfl) rfl rfl entl_nil)))
   (fun c0 h => no_some h)
theorem a15 (aq nq mq : Nat) (tq : Nat → ByteArray) (vq : Nat → Int) (gq : Nat → Int) (de : Int) {r : Rt15} (h : Goes ((q15 aq nq mq tq vq gq de)) ((p15 aq nq mq tq vq gq de)) r) : CallR Try.prog 15 [.agg [.loose ⟨0, 3, aq, 0⟩ nq, .int .i64 de]] [[(0, (false, .cols mq [.str tq, .int .i64 vq, .int .i64 gq]))]] 1 ((V15 aq nq mq tq vq gq de) r) ((fun r => [newL (1 + 1) ((N15 aq nq mq tq vq gq de) r) ++ [(0, (false, .cols mq [.str tq, .int .i64 vq, .int .i64 gq]))]]) r) 400 ∧ ∃ F, Try.prog.funcs[15]? = some F ∧ F.body.isSome = true ∧ (F.name == "runtime.NumGoroutine") = false := by
  refine dec_calls (f := 15) (lo := 1) (hi := 400) (H := [[(0, (false, .cols mq [.str tq, .int .i64 vq, .int .i64 gq]))]]) (args := [.agg [.loose ⟨0, 3, aq, 0⟩ nq, .int .i64 de]]) Try.envOk Try.mixed xD_ok ((I15 aq nq mq tq vq gq de)) ((V15 aq nq mq tq vq gq de)) (fun r => [newL (1 + 1) ((N15 aq nq mq tq vq gq de) r) ++ [(0, (false, .cols mq [.str tq, .int .i64 vq, .int .i64 gq]))]]) (fn := mkFn Try.f15) (ts := []) (n := 400) rfl (by decide) (by simp) (names_of rfl) ?_ ?_ ?_ h
  · intro s; exact s.elim
  · intro Kst Kret x hS hR h
    exact Holds.eq (te15 cond Kst Kret aq nq mq tq vq gq de) (be15 aq nq mq tq vq gq de Kst Kret x hS hR h)
  · intro Kst Kret x hS hR s h; exact s.elim
noncomputable def k15 : Con := ⟨15, [.agg [.list [.str, .int .i64, .int .i64], .plain (.int .i64)]], fun (x : ((Nat × Nat × Nat × (Nat → ByteArray) × (Nat → Int) × (Nat → Int) × Unit) × Int × Unit) × Unit) => (fun (aq nq mq : Nat) (tq : Nat → ByteArray) (vq : Nat → Int) (gq : Nat → Int) (de : Int) => decide (aq + nq ≤ mq ∧ nq ≤ 1000000)) x.1.1.1 x.1.1.2.1 x.1.1.2.2.1 x.1.1.2.2.2.1 x.1.1.2.2.2.2.1 x.1.1.2.2.2.2.2.1 x.1.2.1, fun (x : ((Nat × Nat × Nat × (Nat → ByteArray) × (Nat → Int) × (Nat → Int) × Unit) × Int × Unit) × Unit) => (fun (aq nq mq : Nat) (tq : Nat → ByteArray) (vq : Nat → Int) (gq : Nat → Int) (de : Int) => (V15 aq nq mq tq vq gq de) ((S.mkl nq fun j => (tq (j + aq), vq (j + aq), gq (j + aq))))) x.1.1.1 x.1.1.2.1 x.1.1.2.2.1 x.1.1.2.2.2.1 x.1.1.2.2.2.2.1 x.1.1.2.2.2.2.2.1 x.1.2.1, fun (x : ((Nat × Nat × Nat × (Nat → ByteArray) × (Nat → Int) × (Nat → Int) × Unit) × Int × Unit) × Unit) => (fun (aq nq mq : Nat) (tq : Nat → ByteArray) (vq : Nat → Int) (gq : Nat → Int) (de : Int) => (N15 aq nq mq tq vq gq de) ((S.mkl nq fun j => (tq (j + aq), vq (j + aq), gq (j + aq))))) x.1.1.1 x.1.1.2.1 x.1.1.2.2.1 x.1.1.2.2.2.1 x.1.1.2.2.2.2.1 x.1.1.2.2.2.2.2.1 x.1.2.1, fun _ _ => .dead⟩
theorem s15 (aq nq mq : Nat) (tq : Nat → ByteArray) (vq : Nat → Int) (gq : Nat → Int) (de : Int) (hp : aq + nq ≤ mq ∧ nq ≤ 1000000) : Goes ((q15 aq nq mq tq vq gq de)) ((p15 aq nq mq tq vq gq de)) ((S.mkl nq fun j => (tq (j + aq), vq (j + aq), gq (j + aq)))) := by
  obtain ⟨hp1, hp2⟩ := hp
  show Goes _ _ _
  unfold p15
  repeat' first
    | with_reducible refine goes_if (fun h => ?_) (fun h => ?_) <;> (try simp only [lim64, imp_false, decide_eq_true_eq, decide_eq_false_iff_not, Int.toNat_natCast, toNat_pred, toNat_succ, Option.getD_some, Option.getD_none, Bool.not_eq_true', Bool.not_eq_false', Bool.and_eq_true, Bool.or_eq_true, Bool.and_eq_false_iff, Bool.or_eq_false_iff, bne_iff_ne, beq_iff_eq, bne_eq_false_iff_eq, beq_eq_false_iff_ne, ne_eq, not_and, Int.not_le, Int.not_lt, ge_iff_le, gt_iff_lt, Nat.not_lt, Nat.not_le, Bool.not_eq_true, Bool.not_eq_false, Bool.true_eq_false, Bool.false_eq_true, not_false_eq_true, not_true_eq_false] at h)
    | exact goes_none.mpr (by omega)
  all_goals first | (exfalso; omega) | exact goes_inr.mpr rfl
theorem k15_ok : k15.ok Try.prog := by
  intro x hx
  obtain ⟨⟨⟨aq, nq, mq, tq, vq, gq, _⟩, de, _⟩, _⟩ := x
  obtain ⟨h1, h2⟩ := a15 aq nq mq tq vq gq de (s15 aq nq mq tq vq gq de (of_dec hx rfl))
  exact ⟨⟨400, (by decide : 1 + 1 + 1 ≤ 400), h1⟩, h2⟩
inductive St29 where
  | h0 (x0 : Int)
abbrev Rt29 := Bool
noncomputable def V29 (aa na ma : Nat) (ta : Nat → Int) (va : Nat → Int) (ga : Nat → Int) (wa : Nat → Int) (xa : Nat → Int) (ya : Nat → Int) (ab nb mb : Nat) (tb : Nat → Int) (vb : Nat → Int) (gb : Nat → Int) (wb : Nat → Int) (xb : Nat → Int) (yb : Nat → Int) (r : Rt29) : PV := PV.bool r
noncomputable def N29 (aa na ma : Nat) (ta : Nat → Int) (va : Nat → Int) (ga : Nat → Int) (wa : Nat → Int) (xa : Nat → Int) (ya : Nat → Int) (ab nb mb : Nat) (tb : Nat → Int) (vb : Nat → Int) (gb : Nat → Int) (wb : Nat → Int) (xb : Nat → Int) (yb : Nat → Int) (r : Rt29) : List Blk := []
noncomputable def I29 (aa na ma : Nat) (ta : Nat → Int) (va : Nat → Int) (ga : Nat → Int) (wa : Nat → Int) (xa : Nat → Int) (ya : Nat → Int) (ab nb mb : Nat) (tb : Nat → Int) (vb : Nat → Int) (gb : Nat → Int) (wb : Nat → Int) (xb : Nat → Int) (yb : Nat → Int) : St29 → Hd
  | .h0 x0 => ⟨hd Try.f29 0, [PV.loose (PA.mk (0) (6) aa (0)) na,
 PV.loose (PA.mk (1) (6) ab (0)) nb, PV.int IntKind.i64 (↑na : Int),
 PV.int IntKind.i64 x0], [[], [(0, (false, .cols ma [.int .i64 ta, .int .i64 va, .int .i64 ga, .int .i64 wa, .int .i64 xa, .int .i64 ya])), (1, (false, .cols mb [.int .i64 tb, .int .i64 vb, .int .i64 gb, .int .i64 wb, .int .i64 xb, .int .i64 yb]))]], 2⟩
noncomputable def q29 (aa na ma : Nat) (ta : Nat → Int) (va : Nat → Int) (ga : Nat → Int) (wa : Nat → Int) (xa : Nat → Int) (ya : Nat → Int) (ab nb mb : Nat) (tb : Nat → Int) (vb : Nat → Int) (gb : Nat → Int) (wb : Nat → Int) (xb : Nat → Int) (yb : Nat → Int) : St29 → Option (St29 ⊕ Rt29)
  | .h0 x0 => bif (decide (x0 < (↑na : Int)))
 then (bif (decide ((0 : Int) ≤ x0 ∧ x0 < (↑na : Int)))
 then (bif (decide (Int.toNat x0 + aa < ma))
 then (bif (decide ((0 : Int) ≤ x0 ∧ x0 < (↑nb : Int)))
 then (bif (decide (Int.toNat x0 + ab < mb))
 then (bif (!(ta (Int.toNat x0 + aa) == tb (Int.toNat x0 + ab) &&
 (va (Int.toNat x0 + aa) == vb (Int.toNat x0 + ab) &&
 (ga (Int.toNat x0 + aa) == gb (Int.toNat x0 + ab) && true)) &&
 (wa (Int.toNat x0 + aa) == wb (Int.toNat x0 + ab) &&
 (xa (Int.toNat x0 + aa) == xb (Int.toNat x0 + ab) &&
 (ya (Int.toNat x0 + aa) == yb (Int.toNat x0 + ab) && true)) &&
 true)))
 then (some (.inr (false)))
 else (bif (lim IntKind.i64 (x0 + (1 : Int)))
 then (some (.inl (.h0 (x0 + (1 : Int)))))
 else (none)))
 else (none))
 else (none))
 else (none))
 else (none))
 else (some (.inr (true)))
noncomputable def p29 (aa na ma : Nat) (ta : Nat → Int) (va : Nat → Int) (ga : Nat → Int) (wa : Nat → Int) (xa : Nat → Int) (ya : Nat → Int) (ab nb mb : Nat) (tb : Nat → Int) (vb : Nat → Int) (gb : Nat → Int) (wb : Nat → Int) (xb : Nat → Int) (yb : Nat → Int) : Option (St29 ⊕ Rt29) := bif ((↑na : Int) != (↑nb : Int))
 then (some (.inr (false)))
 else (some (.inl (.h0 ((0 : Int)))))
noncomputable def Te29 (test : Bool → Prop → Prop → Prop) (Kst : KS) (Kret : KR) (aa na ma : Nat) (ta : Nat → Int) (va : Nat → Int) (ga : Nat → Int) (wa : Nat → Int) (xa : Nat → Int) (ya : Nat → Int) (ab nb mb : Nat) (tb : Nat → Int) (vb : Nat → Int) (gb : Nat → Int) (wb : Nat → Int) (xb : Nat → Int) (yb : Nat → Int) : Prop :=
  test ((↑na : Int) != (↑nb : Int))
 (Kret (PV.tf false) ([[(1, false,
 Blk.cols mb
 [Col.int IntKind.i64 tb, Col.int IntKind.i64 vb, Col.int IntKind.i64 gb,
 Col.int IntKind.i64 wb, Col.int IntKind.i64 xb, Col.int IntKind.i64 yb]),
 (0, false,
 Blk.cols ma
 [Col.int IntKind.i64 ta, Col.int IntKind.i64 va, Col.int IntKind.i64 ga,
 Col.int IntKind.i64 wa, Col.int IntKind.i64 xa, Col.int IntKind.i64 ya])]]) (2))
 (Kst (hd Try.f29 0) ([PV.loose (PA.mk (0) (6) aa (0)) na,
 PV.loose (PA.mk (1) (6) ab (0)) nb, PV.int IntKind.i64 (↑na : Int),
 PV.int IntKind.i64 (0 : Int)]) ([[(1, false,
 Blk.cols mb
 [Col.int IntKind.i64 tb, Col.int IntKind.i64 vb, Col.int IntKind.i64 gb,
 Col.int IntKind.i64 wb, Col.int IntKind.i64 xb, Col.int IntKind.i64 yb]),
 (0, false,
 Blk.cols ma
 [Col.int IntKind.i64 ta, Col.int IntKind.i64 va, Col.int IntKind.i64 ga,
 Col.int IntKind.i64 wa, Col.int IntKind.i64 xa, Col.int IntKind.i64 ya])]]) (2))
theorem te29 (test : Bool → Prop → Prop → Prop) (Kst : KS) (Kret : KR) (aa na ma : Nat) (ta : Nat → Int) (va : Nat → Int) (ga : Nat → Int) (wa : Nat → Int) (xa : Nat → Int) (ya : Nat → Int) (ab nb mb : Nat) (tb : Nat → Int) (vb : Nat → Int) (gb : Nat → Int) (wb : Nat → Int) (xb : Nat → Int) (yb : Nat → Int) : run test Try.env true noX true 400 ⟨29, [.cd (mkFn Try.f29).body], argT 0 [.loose ⟨0, 6, aa, 0⟩ na, .loose ⟨1, 6, ab, 0⟩ nb], [[], [(0, (false, .cols ma [.int .i64 ta, .int .i64 va, .int .i64 ga, .int .i64 wa, .int .i64 xa, .int .i64 ya])), (1, (false, .cols mb [.int .i64 tb, .int .i64 vb, .int .i64 gb, .int .i64 wb, .int .i64 xb, .int .i64 yb]))]], 2⟩ (proj 2 [0, 1, 12, 13] Kst Kret) =
  Te29 test Kst Kret aa na ma ta va ga wa xa ya ab nb mb tb vb gb wb xb yb := by kernel_rfl
noncomputable def T29_0 (test : Bool → Prop → Prop → Prop) (Kst : KS) (Kret : KR) (aa na ma : Nat) (ta : Nat → Int) (va : Nat → Int) (ga : Nat → Int) (wa : Nat → Int) (xa : Nat → Int) (ya : Nat → Int) (ab nb mb : Nat) (tb : Nat → Int) (vb : Nat → Int) (gb : Nat → Int) (wb : Nat → Int) (xb : Nat → Int) (yb : Nat → Int) (x0 : Int) : Prop :=
  test (decide (x0 < (↑na : Int)))
 (test (decide ((0 : Int) ≤ x0 ∧ x0 < (↑na : Int)))
 (test (decide (Int.toNat x0 + aa < ma))
 (test (decide (Int.toNat x0 + aa < ma))
 (test (decide (Int.toNat x0 + aa < ma))
 (test (decide (Int.toNat x0 + aa < ma))
 (test (decide (Int.toNat x0 + aa < ma))
 (test (decide (Int.toNat x0 + aa < ma))
 (test (decide ((0 : Int) ≤ x0 ∧ x0 < (↑nb : Int)))
 (test (decide (Int.toNat x0 + ab < mb))
 (test (decide (Int.toNat x0 + ab < mb))
 (test (decide (Int.toNat x0 + ab < mb))
 (test (decide (Int.toNat x0 + ab < mb))
 (test (decide (Int.toNat x0 + ab < mb))
 (test (decide (Int.toNat x0 + ab < mb))
 (test (!(ta (Int.toNat x0 + aa) == tb (Int.toNat x0 + ab) &&
 (va (Int.toNat x0 + aa) == vb (Int.toNat x0 + ab) &&
 (ga (Int.toNat x0 + aa) == gb (Int.toNat x0 + ab) && true)) &&
 (wa (Int.toNat x0 + aa) == wb (Int.toNat x0 + ab) &&
 (xa (Int.toNat x0 + aa) == xb (Int.toNat x0 + ab) &&
 (ya (Int.toNat x0 + aa) == yb (Int.toNat x0 + ab) && true)) &&
 true)))
 (Kret (PV.tf false) ([[(1, false,
 Blk.cols mb
 [Col.int IntKind.i64 tb, Col.int IntKind.i64 vb, Col.int IntKind.i64 gb,
 Col.int IntKind.i64 wb, Col.int IntKind.i64 xb, Col.int IntKind.i64 yb]),
 (0, false,
 Blk.cols ma
 [Col.int IntKind.i64 ta, Col.int IntKind.i64 va, Col.int IntKind.i64 ga,
 Col.int IntKind.i64 wa, Col.int IntKind.i64 xa, Col.int IntKind.i64 ya])]]) (2))
 (test (lim IntKind.i64 (x0 + (1 : Int)))
 (Kst (hd Try.f29 0) ([PV.loose (PA.mk (0) (6) aa (0)) na,
 PV.loose (PA.mk (1) (6) ab (0)) nb, PV.int IntKind.i64 (↑na : Int),
 PV.int IntKind.i64 (x0 + (1 : Int))]) ([[(1, false,
 Blk.cols mb
 [Col.int IntKind.i64 tb, Col.int IntKind.i64 vb, Col.int IntKind.i64 gb,
 Col.int IntKind.i64 wb, Col.int IntKind.i64 xb, Col.int IntKind.i64 yb]),
 (0, false,
 Blk.cols ma
 [Col.int IntKind.i64 ta, Col.int IntKind.i64 va, Col.int IntKind.i64 ga,
 Col.int IntKind.i64 wa, Col.int IntKind.i64 xa, Col.int IntKind.i64 ya])]]) (2))
 (False)))
 (False))
 (False))
 (False))
 (False))
 (False))
 (False))
 (False))
 (False))
 (False))
 (False))
 (False))
 (False))
 (False))
 (False))
 (Kret (PV.tf true) ([[(1, false,
 Blk.cols mb
 [Col.int IntKind.i64 tb, Col.int IntKind.i64 vb, Col.int IntKind.i64 gb,
 Col.int IntKind.i64 wb, Col.int IntKind.i64 xb, Col.int IntKind.i64 yb]),
 (0, false,
 Blk.cols ma
 [Col.int IntKind.i64 ta, Col.int IntKind.i64 va, Col.int IntKind.i64 ga,
 Col.int IntKind.i64 wa, Col.int IntKind.i64 xa, Col.int IntKind.i64 ya])]]) (2))
theorem t29_0 (test : Bool → Prop → Prop → Prop) (Kst : KS) (Kret : KR) (aa na ma : Nat) (ta : Nat → Int) (va : Nat → Int) (ga : Nat → Int) (wa : Nat → Int) (xa : Nat → Int) (ya : Nat → Int) (ab nb mb : Nat) (tb : Nat → Int) (vb : Nat → Int) (gb : Nat → Int) (wb : Nat → Int) (xb : Nat → Int) (yb : Nat → Int) (x0 : Int) : run test Try.env true noX true 400 ⟨29, hd Try.f29 0, zipT [0, 1, 12, 13] [PV.loose (PA.mk (0) (6) aa (0)) na,
 PV.loose (PA.mk (1) (6) ab (0)) nb, PV.int IntKind.i64 (↑na : Int),
 PV.int IntKind.i64 x0], [[], [(0, (false, .cols ma [.int .i64 ta, .int .i64 va, .int .i64 ga, .int .i64 wa, .int .i64 xa, .int .i64 ya])), (1, (false, .cols mb [.int .i64 tb, .int .i64 vb, .int .i64 gb, .int .i64 wb, .int .i64 xb, .int .i64 yb]))]], 2⟩ (proj 2 [0, 1, 12, 13] Kst Kret) =
  T29_0 test Kst Kret aa na ma ta va ga wa xa ya ab nb mb tb vb gb wb xb yb x0 := by kernel_rfl
theorem be29 (aa na ma : Nat) (ta : Nat → Int) (va : Nat → Int) (ga : Nat → Int) (wa : Nat → Int) (xa : Nat → Int) (ya : Nat → Int) (ab nb mb : Nat) (tb : Nat → Int) (vb : Nat → Int) (gb : Nat → Int) (wb : Nat → Int) (xb : Nat → Int) (yb : Nat → Int) (Kst : KS) (Kret : KR) (x : St29 ⊕ Rt29) (hS : HS 2 400 ((I29 aa na ma ta va ga wa xa ya ab nb mb tb vb gb wb xb yb)) Kst x) (hR : HR 2 400 ((V29 aa na ma ta va ga wa xa ya ab nb mb tb vb gb wb xb yb)) (fun r => [newL (2 + 1) ((N29 aa na ma ta va ga wa xa ya ab nb mb tb vb gb wb xb yb) r) ++ [(0, (false, .cols ma [.int .i64 ta, .int .i64 va, .int .i64 ga, .int .i64 wa, .int .i64 xa, .int .i64 ya])), (1, (false, .cols mb [.int .i64 tb, .int .i64 vb, .int .i64 gb, .int .i64 wb, .int .i64 xb, .int .i64 yb]))]]) Kret x) (h : (bif ((↑na : Int) != (↑nb : Int))
 then (some (.inr (false)))
 else (some (.inl (.h0 ((0 : Int))))) : Option (St29 ⊕ Rt29)) = some x) : Te29 cond Kst Kret aa na ma ta va ga wa xa ya ab nb mb tb vb gb wb xb yb := by
  unfold Te29
  exact bif_split h
   (fun c0 h => ret_at hR _ h (fun n => n) rfl rfl rfl (rn_bool_tf rfl) rfl (entl_bor (use_lo rfl) rfl rfl (entl_bor (use_lo rfl) rfl rfl entl_nil)))
   (fun c0 h => stop_at hS _ h (fun n => n) rfl rfl rfl ⟨(rn_loose (use_lo rfl) rfl rfl rfl), ⟨(rn_loose (use_lo rfl) rfl rfl rfl), ⟨(rn_int rfl), ⟨(rn_int rfl), trivial⟩⟩⟩⟩ rfl (entl_bor (use_lo rfl) rfl rfl (entl_bor (use_lo rfl) rfl rfl entl_nil)))
theorem b29_0 (aa na ma : Nat) (ta : Nat → Int) (va : Nat → Int) (ga : Nat → Int) (wa : Nat → Int) (xa : Nat → Int) (ya : Nat → Int) (ab nb mb : Nat) (tb : Nat → Int) (vb : Nat → Int) (gb : Nat → Int) (wb : Nat → Int) (xb : Nat → Int) (yb : Nat → Int) (Kst : KS) (Kret : KR) (x : St29 ⊕ Rt29) (hS : HS 2 400 ((I29 aa na ma ta va ga wa xa ya ab nb mb tb vb gb wb xb yb)) Kst x) (hR : HR 2 400 ((V29 aa na ma ta va ga wa xa ya ab nb mb tb vb gb wb xb yb)) (fun r => [newL (2 + 1) ((N29 aa na ma ta va ga wa xa ya ab nb mb tb vb gb wb xb yb) r) ++ [(0, (false, .cols ma [.int .i64 ta, .int .i64 va, .int .i64 ga, .int .i64 wa, .int .i64 xa, .int .i64 ya])), (1, (false, .cols mb [.int .i64 tb, .int .i64 vb, .int .i64 gb, .int .i64 wb, .int .i64 xb, .int .i64 yb]))]]) Kret x) (x0 : Int) (h : (bif (decide (x0 < (↑na : Int)))
 then (bif (decide ((0 : Int) ≤ x0 ∧ x0 < (↑na : Int)))
 then (bif (decide (Int.toNat x0 + aa < ma))
 then (bif (decide ((0 : Int) ≤ x0 ∧ x0 < (↑nb : Int)))
 then (bif (decide (Int.toNat x0 + ab < mb))
 then (bif (!(ta (Int.toNat x0 + aa) == tb (Int.toNat x0 + ab) &&
 (va (Int.toNat x0 + aa) == vb (Int.toNat x0 + ab) &&
 (ga (Int.toNat x0 + aa) == gb (Int.toNat x0 + ab) && true)) &&
 (wa (Int.toNat x0 + aa) == wb (Int.toNat x0 + ab) &&
 (xa (Int.toNat x0 + aa) == xb (Int.toNat x0 + ab) &&
 (ya (Int.toNat x0 + aa) == yb (Int.toNat x0 + ab) && true)) &&
 true)))
 then (some (.inr (false)))
 else (bif (lim IntKind.i64 (x0 + (1 : Int)))
 then (some (.inl (.h0 (x0 + (1 : Int)))))
 else (none)))
 else (none))
 else (none))
 else (none))
 else (none))
 else (some (.inr (true))) : Option (St29 ⊕ Rt29)) = some x) : T29_0 cond Kst Kret aa na ma ta va ga wa xa ya ab nb mb tb vb gb wb xb yb x0 := by
  unfold T29_0
  exact bif_split h
   (fun c0 h => bif_split h
   (fun c1 h => bif_split h
   (fun c2 h => cond_yes c2 (cond_yes c2 (cond_yes c2 (cond_yes c2 (cond_yes c2 (bif_split h
   (fun c3 h => bif_split h
   (fun c4 h => cond_yes c4 (cond_yes c4 (cond_yes c4 (cond_yes c4 (cond_yes c4 (bif_split h
   (fun c5 h => ret_at hR _ h (fun n => n) rfl rfl rfl (rn_bool_tf rfl) rfl (entl_bor (use_lo rfl) rfl rfl (entl_bor (use_lo rfl) rfl rfl entl_nil)))
   (fun c5 h => bif_split h
   (fun c6 h => stop_at hS _ h (fun n => n) rfl rfl rfl ⟨(rn_loose (use_lo rfl) rfl rfl rfl), ⟨(rn_loose (use_lo rfl) rfl rfl rfl), ⟨(rn_int rfl), ⟨(rn_int rfl), trivial⟩⟩⟩⟩ rfl (entl_bor (use_lo rfl) rfl rfl (entl_bor (use_lo rfl) rfl rfl entl_nil)))
   (fun c6 h => no_some h))))))))
   (fun c4 h => no_some h))
   (fun c3 h => no_some h)))))))
   (fun c2 h => no_some h))
   (fun c1 h => no_some h))
   (fun c0 h => ret_at hR _ h (fun n => n) rfl rfl rfl (rn_bool_tf rfl) rfl (entl_bor (use_lo rfl) rfl rfl (entl_bor (use_lo rfl) rfl rfl entl_nil)))
theorem a29 (aa na ma : Nat) (ta : Nat → Int) (va : Nat → Int) (ga : Nat → Int) (wa : Nat → Int) (xa : Nat → Int) (ya : Nat → Int) (ab nb mb : Nat) (tb : Nat → Int) (vb : Nat → Int) (gb : Nat → Int) (wb : Nat → Int) (xb : Nat → Int) (yb : Nat → Int) {r : Rt29} (h : Goes ((q29 aa na ma ta va ga wa xa ya ab nb mb tb vb gb wb xb yb)) ((p29 aa na ma ta va ga wa xa ya ab nb mb tb vb gb wb xb yb)) r) : CallR Try.prog 29 [.loose ⟨0, 6, aa, 0⟩ na, .loose ⟨1, 6, ab, 0⟩ nb] [[(0, (false, .cols ma [.int .i64 ta, .int .i64 va, .int .i64 ga, .int .i64 wa, .int .i64 xa, .int .i64 ya])), (1, (false, .cols mb [.int .i64 tb, .int .i64 vb, .int .i64 gb, .int .i64 wb, .int .i64 xb, .int .i64 yb]))]] 2 ((V29 aa na ma ta va ga wa xa ya ab nb mb tb vb gb wb xb yb) r) ((fun r => [newL (2 + 1) ((N29 aa na ma ta va ga wa xa ya ab nb mb tb vb gb wb xb yb) r) ++ [(0, (false, .cols ma [.int .i64 ta, .int .i64 va, .int .i64 ga, .int .i64 wa, .int .i64 xa, .int .i64 ya])), (1, (false, .cols mb [.int .i64 tb, .int .i64 vb, .int .i64 gb, .int .i64 wb, .int .i64 xb, .int .i64 yb]))]]) r) 400 ∧ ∃ F, Try.prog.funcs[29]? = some F ∧ F.body.isSome = true ∧ (F.name == "runtime.NumGoroutine") = false := by
  refine dec_calls (f := 29) (lo := 2) (hi := 400) (H := [[(0, (false, .cols ma [.int .i64 ta, .int .i64 va, .int .i64 ga, .int .i64 wa, .int .i64 xa, .int .i64 ya])), (1, (false, .cols mb [.int .i64 tb, .int .i64 vb, .int .i64 gb, .int .i64 wb, .int .i64 xb, .int .i64 yb]))]]) (args := [.loose ⟨0, 6, aa, 0⟩ na, .loose ⟨1, 6, ab, 0⟩ nb]) Try.envOk Try.mixed noX_ok ((I29 aa na ma ta va ga wa xa ya ab nb mb tb vb gb wb xb yb)) ((V29 aa na ma ta va ga wa xa ya ab nb mb tb vb gb wb xb yb)) (fun r => [newL (2 + 1) ((N29 aa na ma ta va ga wa xa ya ab nb mb tb vb gb wb xb yb) r) ++ [(0, (false, .cols ma [.int .i64 ta, .int .i64 va, .int .i64 ga, .int .i64 wa, .int .i64 xa, .int .i64 ya])), (1, (false, .cols mb [.int .i64 tb, .int .i64 vb, .int .i64 gb, .int .i64 wb, .int .i64 xb, .int .i64 yb]))]]) (fn := mkFn Try.f29) (ts := [0, 1, 12, 13]) (n := 400) rfl (by decide) (by simp) (names_of rfl) ?_ ?_ ?_ h
  · intro s; cases s <;> exact ⟨hd_ok _ _, by simp [I29], names_of rfl, Nat.le_of_ble_eq_true rfl⟩
  · intro Kst Kret x hS hR h
    exact Holds.eq (te29 cond Kst Kret aa na ma ta va ga wa xa ya ab nb mb tb vb gb wb xb yb) (be29 aa na ma ta va ga wa xa ya ab nb mb tb vb gb wb xb yb Kst Kret x hS hR h)
  · intro Kst Kret x hS hR s h
    cases s with
    | h0 x0 => exact Holds.eq (t29_0 cond Kst Kret aa na ma ta va ga wa xa ya ab nb mb tb vb gb wb xb yb x0) (b29_0 aa na ma ta va ga wa xa ya ab nb mb tb vb gb wb xb yb Kst Kret x hS hR x0 h)
noncomputable def k29 : Con := ⟨29, [.one (.list [.int .i64, .int .i64, .int .i64, .int .i64, .int .i64, .int .i64]), .one (.list [.int .i64, .int .i64, .int .i64, .int .i64, .int .i64, .int .i64])], fun (x : (Nat × Nat × Nat × (Nat → Int) × (Nat → Int) × (Nat → Int) × (Nat → Int) × (Nat → Int) × (Nat → Int) × Unit) × (Nat × Nat × Nat × (Nat → Int) × (Nat → Int) × (Nat → Int) × (Nat → Int) × (Nat → Int) × (Nat → Int) × Unit) × Unit) => (fun (aa na ma : Nat) (ta : Nat → Int) (va : Nat → Int) (ga : Nat → Int) (wa : Nat → Int) (xa : Nat → Int) (ya : Nat → Int) (ab nb mb : Nat) (tb : Nat → Int) (vb : Nat → Int) (gb : Nat → Int) (wb : Nat → Int) (xb : Nat → Int) (yb : Nat → Int) => decide (aa + na ≤ ma ∧ na ≤ 1000000 ∧ ab + nb ≤ mb ∧ nb ≤ 1000000)) x.1.1 x.1.2.1 x.1.2.2.1 x.1.2.2.2.1 x.1.2.2.2.2.1 x.1.2.2.2.2.2.1 x.1.2.2.2.2.2.2.1 x.1.2.2.2.2.2.2.2.1 x.1.2.2.2.2.2.2.2.2.1 x.2.1.1 x.2.1.2.1 x.2.1.2.2.1 x.2.1.2.2.2.1 x.2.1.2.2.2.2.1 x.2.1.2.2.2.2.2.1 x.2.1.2.2.2.2.2.2.1 x.2.1.2.2.2.2.2.2.2.1 x.2.1.2.2.2.2.2.2.2.2.1, fun (x : (Nat × Nat × Nat × (Nat → Int) × (Nat → Int) × (Nat → Int) × (Nat → Int) × (Nat → Int) × (Nat → Int) × Unit) × (Nat × Nat × Nat × (Nat → Int) × (Nat → Int) × (Nat → Int) × (Nat → Int) × (Nat → Int) × (Nat → Int) × Unit) × Unit) => (fun (aa na ma : Nat) (ta : Nat → Int) (va : Nat → Int) (ga : Nat → Int) (wa : Nat → Int) (xa : Nat → Int) (ya : Nat → Int) (ab nb mb : Nat) (tb : Nat → Int) (vb : Nat → Int) (gb : Nat → Int) (wb : Nat → Int) (xb : Nat → Int) (yb : Nat → Int) => (V29 aa na ma ta va ga wa xa ya ab nb mb tb vb gb wb xb yb) (decide ((S.mkl na fun j => (ta (j + aa), va (j + aa), ga (j + aa), wa (j + aa), xa (j + aa), ya (j + aa))) = (S.mkl nb fun j => (tb (j + ab), vb (j + ab), gb (j + ab), wb (j + ab), xb (j + ab), yb (j + ab)))))) x.1.1 x.1.2.1 x.1.2.2.1 x.1.2.2.2.1 x.1.2.2.2.2.1 x.1.2.2.2.2.2.1 x.1.2.2.2.2.2.2.1 x.1.2.2.2.2.2.2.2.1 x.1.2.2.2.2.2.2.2.2.1 x.2.1.1 x.2.1.2.1 x.2.1.2.2.1 x.2.1.2.2.2.1 x.2.1.2.2.2.2.1 x.2.1.2.2.2.2.2.1 x.2.1.2.2.2.2.2.2.1 x.2.1.2.2.2.2.2.2.2.1 x.2.1.2.2.2.2.2.2.2.2.1, fun (x : (Nat × Nat × Nat × (Nat → Int) × (Nat → Int) × (Nat → Int) × (Nat → Int) × (Nat → Int) × (Nat → Int) × Unit) × (Nat × Nat × Nat × (Nat → Int) × (Nat → Int) × (Nat → Int) × (Nat → Int) × (Nat → Int) × (Nat → Int) × Unit) × Unit) => (fun (aa na ma : Nat) (ta : Nat → Int) (va : Nat → Int) (ga : Nat → Int) (wa : Nat → Int) (xa : Nat → Int) (ya : Nat → Int) (ab nb mb : Nat) (tb : Nat → Int) (vb : Nat → Int) (gb : Nat → Int) (wb : Nat → Int) (xb : Nat → Int) (yb : Nat → Int) => (N29 aa na ma ta va ga wa xa ya ab nb mb tb vb gb wb xb yb) (decide ((S.mkl na fun j => (ta (j + aa), va (j + aa), ga (j + aa), wa (j + aa), xa (j + aa), ya (j + aa))) = (S.mkl nb fun j => (tb (j + ab), vb (j + ab), gb (j + ab), wb (j + ab), xb (j + ab), yb (j + ab)))))) x.1.1 x.1.2.1 x.1.2.2.1 x.1.2.2.2.1 x.1.2.2.2.2.1 x.1.2.2.2.2.2.1 x.1.2.2.2.2.2.2.1 x.1.2.2.2.2.2.2.2.1 x.1.2.2.2.2.2.2.2.2.1 x.2.1.1 x.2.1.2.1 x.2.1.2.2.1 x.2.1.2.2.2.1 x.2.1.2.2.2.2.1 x.2.1.2.2.2.2.2.1 x.2.1.2.2.2.2.2.2.1 x.2.1.2.2.2.2.2.2.2.1 x.2.1.2.2.2.2.2.2.2.2.1, fun _ _ => .dead⟩
theorem e29 (aa na ma : Nat) (ta : Nat → Int) (va : Nat → Int) (ga : Nat → Int) (wa : Nat → Int) (xa : Nat → Int) (ya : Nat → Int) (ab nb mb : Nat) (tb : Nat → Int) (vb : Nat → Int) (gb : Nat → Int) (wb : Nat → Int) (xb : Nat → Int) (yb : Nat → Int) (h : na = nb) : decide ((S.mkl na fun j => (ta (j + aa), va (j + aa), ga (j + aa), wa (j + aa), xa (j + aa), ya (j + aa))) = (S.mkl nb fun j => (tb (j + ab), vb (j + ab), gb (j + ab), wb (j + ab), xb (j + ab), yb (j + ab)))) = true ↔ ∀ j, j < na → ta (j + aa) = tb (j + ab) ∧ va (j + aa) = vb (j + ab) ∧ ga (j + aa) = gb (j + ab) ∧ wa (j + aa) = wb (j + ab) ∧ xa (j + aa) = xb (j + ab) ∧ ya (j + aa) = yb (j + ab) := by
  rw [decide_eq_true_eq, mkl_inj]
  simp only [h, true_and, Prod.mk.injEq]
theorem s29' (aa na ma : Nat) (ta : Nat → Int) (va : Nat → Int) (ga : Nat → Int) (wa : Nat → Int) (xa : Nat → Int) (ya : Nat → Int) (ab nb mb : Nat) (tb : Nat → Int) (vb : Nat → Int) (gb : Nat → Int) (wb : Nat → Int) (xb : Nat → Int) (yb : Nat → Int) (hp : aa + na ≤ ma ∧ na ≤ 1000000 ∧ ab + nb ≤ mb ∧ nb ≤ 1000000) (he : na = nb) : ∀ k i : Nat, i + k = na → (∀ j, j < i → ta (j + aa) = tb (j + ab) ∧ va (j + aa) = vb (j + ab) ∧ ga (j + aa) = gb (j + ab) ∧ wa (j + aa) = wb (j + ab) ∧ xa (j + aa) = xb (j + ab) ∧ ya (j + aa) = yb (j + ab)) → Comes (q29 aa na ma ta va ga wa xa ya ab nb mb tb vb gb wb xb yb) (.h0 (i : Int)) (decide ((S.mkl na fun j => (ta (j + aa), va (j + aa), ga (j + aa), wa (j + aa), xa (j + aa), ya (j + aa))) = (S.mkl nb fun j => (tb (j + ab), vb (j + ab), gb (j + ab), wb (j + ab), xb (j + ab), yb (j + ab))))) := by
  obtain ⟨hp1, hp2, hp3, hp4⟩ := hp
  have hq := e29 aa na ma ta va ga wa xa ya ab nb mb tb vb gb wb xb yb he
  generalize decide ((S.mkl na fun j => (ta (j + aa), va (j + aa), ga (j + aa), wa (j + aa), xa (j + aa), ya (j + aa))) = (S.mkl nb fun j => (tb (j + ab), vb (j + ab), gb (j + ab), wb (j + ab), xb (j + ab), yb (j + ab)))) = R at hq ⊢
  intro k
  induction k with
  | zero =>
    intro i hi hj
    obtain rfl : na = i := by omega
    apply Comes.of
    show Goes _ _ _
    (first | rw [q29] | unfold q29)
    repeat' first
      | with_reducible refine goes_if (fun h => ?_) (fun h => ?_) <;> (try simp only [lim64, imp_false, decide_eq_true_eq, decide_eq_false_iff_not, Int.toNat_natCast, toNat_pred, toNat_succ, Option.getD_some, Option.getD_none, Bool.not_eq_true', Bool.not_eq_false', Bool.and_eq_true, Bool.or_eq_true, Bool.and_eq_false_iff, Bool.or_eq_false_iff, bne_iff_ne, beq_iff_eq, bne_eq_false_iff_eq, beq_eq_false_iff_ne, ne_eq, not_and, Int.not_le, Int.not_lt, ge_iff_le, gt_iff_lt, Nat.not_lt, Nat.not_le, Bool.not_eq_true, Bool.not_eq_false, Bool.true_eq_false, Bool.false_eq_true, not_false_eq_true, not_true_eq_false] at h)
      | exact goes_none.mpr (by omega)
    all_goals first | (exfalso; omega) | (exact goes_inr.mpr (hq.mpr hj).symm)
  | succ k ih =>
    intro i hi hj
    have hw : ∀ {P : Prop}, (R = true → P) → ¬ P → false = R := fun h1 h2 => by cases R; rfl; exact absurd (h1 rfl) h2
    apply Comes.of
    show Goes _ _ _
    (first | rw [q29] | unfold q29)
    repeat' first
      | with_reducible refine goes_if (fun h => ?_) (fun h => ?_) <;> (try simp only [lim64, imp_false, decide_eq_true_eq, decide_eq_false_iff_not, Int.toNat_natCast, toNat_pred, toNat_succ, Option.getD_some, Option.getD_none, Bool.not_eq_true', Bool.not_eq_false', Bool.and_eq_true, Bool.or_eq_true, Bool.and_eq_false_iff, Bool.or_eq_false_iff, bne_iff_ne, beq_iff_eq, bne_eq_false_iff_eq, beq_eq_false_iff_ne, ne_eq, not_and, Int.not_le, Int.not_lt, ge_iff_le, gt_iff_lt, Nat.not_lt, Nat.not_le, Bool.not_eq_true, Bool.not_eq_false, Bool.true_eq_false, Bool.false_eq_true, not_false_eq_true, not_true_eq_false] at h)
      | exact goes_none.mpr (by omega)
    all_goals first
      | (exfalso; omega)
      | (refine ih (i + 1) (by omega) fun j hlt => ?_
         rcases Nat.lt_or_eq_of_le (Nat.le_of_lt_succ hlt) with h1 | h1
         · exact hj j h1
         · subst h1; simp_all)
      | (refine goes_inr.mpr (hw (fun e => hq.mp e i (by omega)) fun e => ?_); simp_all)
theorem s29 (aa na ma : Nat) (ta : Nat → Int) (va : Nat → Int) (ga : Nat → Int) (wa : Nat → Int) (xa : Nat → Int) (ya : Nat → Int) (ab nb mb : Nat) (tb : Nat → Int) (vb : Nat → Int) (gb : Nat → Int) (wb : Nat → Int) (xb : Nat → Int) (yb : Nat → Int) (hp : aa + na ≤ ma ∧ na ≤ 1000000 ∧ ab + nb ≤ mb ∧ nb ≤ 1000000) : Goes ((q29 aa na ma ta va ga wa xa ya ab nb mb tb vb gb wb xb yb)) ((p29 aa na ma ta va ga wa xa ya ab nb mb tb vb gb wb xb yb)) (decide ((S.mkl na fun j => (ta (j + aa), va (j + aa), ga (j + aa), wa (j + aa), xa (j + aa), ya (j + aa))) = (S.mkl nb fun j => (tb (j + ab), vb (j + ab), gb (j + ab), wb (j + ab), xb (j + ab), yb (j + ab))))) := by
  by_cases he : na = nb
  · have hm := s29' aa na ma ta va ga wa xa ya ab nb mb tb vb gb wb xb yb hp he na 0 (by omega) (fun j hj => absurd hj (Nat.not_lt_zero j))
    show Goes _ _ _
    unfold p29
    repeat' first
      | with_reducible refine goes_if (fun h => ?_) (fun h => ?_) <;> (try simp only [lim64, imp_false, decide_eq_true_eq, decide_eq_false_iff_not, Int.toNat_natCast, toNat_pred, toNat_succ, Option.getD_some, Option.getD_none, Bool.not_eq_true', Bool.not_eq_false', Bool.and_eq_true, Bool.or_eq_true, Bool.and_eq_false_iff, Bool.or_eq_false_iff, bne_iff_ne, beq_iff_eq, bne_eq_false_iff_eq, beq_eq_false_iff_ne, ne_eq, not_and, Int.not_le, Int.not_lt, ge_iff_le, gt_iff_lt, Nat.not_lt, Nat.not_le, Bool.not_eq_true, Bool.not_eq_false, Bool.true_eq_false, Bool.false_eq_true, not_false_eq_true, not_true_eq_false] at h)
      | exact goes_none.mpr (by omega)
    all_goals first | (exfalso; omega) | exact hm
  · have hd : decide ((S.mkl na fun j => (ta (j + aa), va (j + aa), ga (j + aa), wa (j + aa), xa (j + aa), ya (j + aa))) = (S.mkl nb fun j => (tb (j + ab), vb (j + ab), gb (j + ab), wb (j + ab), xb (j + ab), yb (j + ab)))) = false := decide_eq_false (fun e => he (mkl_inj.mp e).1)
    rw [hd]
    show Goes _ _ _
    unfold p29
    repeat' first
      | with_reducible refine goes_if (fun h => ?_) (fun h => ?_) <;> (try simp only [lim64, imp_false, decide_eq_true_eq, decide_eq_false_iff_not, Int.toNat_natCast, toNat_pred, toNat_succ, Option.getD_some, Option.getD_none, Bool.not_eq_true', Bool.not_eq_false', Bool.and_eq_true, Bool.or_eq_true, Bool.and_eq_false_iff, Bool.or_eq_false_iff, bne_iff_ne, beq_iff_eq, bne_eq_false_iff_eq, beq_eq_false_iff_ne, ne_eq, not_and, Int.not_le, Int.not_lt, ge_iff_le, gt_iff_lt, Nat.not_lt, Nat.not_le, Bool.not_eq_true, Bool.not_eq_false, Bool.true_eq_false, Bool.false_eq_true, not_false_eq_true, not_true_eq_false] at h)
      | exact goes_none.mpr (by omega)
    all_goals first | (exfalso; omega) | rfl
theorem k29_ok : k29.ok Try.prog := by
  intro x hx
  obtain ⟨⟨aa, na, ma, ta, va, ga, wa, xa, ya, _⟩, ⟨ab, nb, mb, tb, vb, gb, wb, xb, yb, _⟩, _⟩ := x
  obtain ⟨h1, h2⟩ := a29 aa na ma ta va ga wa xa ya ab nb mb tb vb gb wb xb yb (s29 aa na ma ta va ga wa xa ya ab nb mb tb vb gb wb xb yb (of_dec hx rfl))
  exact ⟨⟨400, (by decide : 2 + 1 + 0 ≤ 400), h1⟩, h2⟩
noncomputable def xL3 (test : Bool → Prop → Prop → Prop) : Ext := consX test [k12, k13, k15, k25, k26, k27, k28, k29]
theorem xL3_ok : ExtOk Try.prog (xL3 cond) := consX_ok ⟨k12_ok, k13_ok, k15_ok, k25_ok, k26_ok, k27_ok, k28_ok, k29_ok, trivial⟩
theorem staE_congr {e : Int} {t t' : Nat → ByteArray} {v g v' g' : Nat → Int} : ∀ {k i n : Nat}, i + k ≤ n → (∀ j, j < n → t j = t' j ∧ v j = v' j ∧ g j = g' j) → S.staE e t v g i k = S.staE e t' v' g' i k
  | 0, i, n, _, _ => rfl
  | k + 1, i, n, hn, h => by
    simp only [S.staE]
    obtain ⟨h1, h2, h3⟩ := h i (by omega)
    rw [h1, h2, h3, staE_congr (k := k) (i := i + 1) (n := n) (by omega) h]
    have e2 : S.any (fun j => S.eqS (t j) (t' i)) i = S.any (fun j => S.eqS (t' j) (t' i)) i := any_congr fun j hj => by rw [(h j (by omega)).1]
    rw [e2]
theorem netE_congr {n : Nat} {t t' : Nat → ByteArray} {v g v' g' : Nat → Int} {de : Int} (h : ∀ j, j < n → t j = t' j ∧ v j = v' j ∧ g j = g' j) : S.netE n t v g de = S.netE n t' v' g' de := by
  unfold S.netE
  rw [staE_congr (n := n) (by omega) h]
theorem tA_congr {v g v' g' : Nat → Int} {de st : Int} : ∀ {n : Nat}, (∀ j, j < n → v j = v' j ∧ g j = g' j) → S.tA v g de st n = S.tA v' g' de st n
  | 0, _ => rfl
  | n + 1, h => by
    obtain ⟨h1, h2⟩ := h n (by omega)
    simp only [S.tA]
    rw [h1, h2, tA_congr fun j hj => h j (by omega)]
theorem tB_congr {v g v' g' : Nat → Int} {de st : Int} : ∀ {n : Nat}, (∀ j, j < n → v j = v' j ∧ g j = g' j) → S.tB v g de st n = S.tB v' g' de st n
  | 0, _ => rfl
  | n + 1, h => by
    obtain ⟨h1, h2⟩ := h n (by omega)
    simp only [S.tB, S.cB]
    rw [h1, h2, tB_congr fun j hj => h j (by omega)]
theorem latI_congr {n : Nat} {v g v' g' : Nat → Int} {de st k l p : Int} (h : ∀ j, j < n → v j = v' j ∧ g j = g' j) : S.latI n v g de st k l p = S.latI n v' g' de st k l p := by
  unfold S.latI
  rw [tA_congr h, tB_congr h]
theorem latS_congr {n : Nat} {e : Int} {v g v' g' : Nat → Int} {de st k l p : Int} (h : ∀ j, j < n → v j = v' j ∧ g j = g' j) : S.latS n v g de e st k l p = S.latS n v' g' de e st k l p := by
  unfold S.latS
  rw [latI_congr h]
section
variable {n : Nat} {t : Nat → ByteArray} {v g : Nat → Int} {de e st k l p : Int}
theorem net_mkl : S.netE n (fun j => (S.at' (S.mkl n fun j => (t j, v j, g j)) j).1) (fun j => (S.at' (S.mkl n fun j => (t j, v j, g j)) j).2.1) (fun j => (S.at' (S.mkl n fun j => (t j, v j, g j)) j).2.2) de = S.netE n t v g de :=
  netE_congr fun j hj => by rw [at_mkl hj]; exact ⟨rfl, rfl, rfl⟩
theorem lat_mkl : S.latS n (fun j => (S.at' (S.mkl n fun j => (t j, v j, g j)) j).2.1) (fun j => (S.at' (S.mkl n fun j => (t j, v j, g j)) j).2.2) de e st k l p = S.latS n v g de e st k l p :=
  latS_congr fun j hj => by rw [at_mkl hj]; exact ⟨rfl, rfl⟩
end
theorem dbs_len {n : Nat} {st : Int} {L : List (Int × Int × Int)} : ∀ {c i : Nat} {D : List S.P6}, (S.fold (fun D i => S.fold (S.dblT n st L i) (i + 1) (L.length - (i + 1)) D) i c D).length ≤ D.length + L.length * c
  | 0, i, D => Nat.le_refl _
  | c + 1, i, D => by
    simp only [S.fold]
    refine Nat.le_trans dbs_len ?_
    have := dbl_len (n := n) (st := st) (L := L) (i := i) (c := L.length - (i + 1)) (k := i + 1) (D := D)
    rw [Nat.mul_succ]
    omega
theorem dbe_len {n : Nat} {e st : Int} (h : n ≤ 20) : (S.dblE n e st).2.length ≤ 1000000 := by
  unfold S.dblE
  split
  · split
    · show (S.dblS n st (S.failL n)).length ≤ _
      unfold S.dblS
      refine Nat.le_trans dbs_len ?_
      rw [fail_len, List.length_nil]
      have : (5 * n + 2) * (5 * n + 2) ≤ 102 * 102 := Nat.mul_le_mul (by omega) (by omega)
      omega
    · exact Nat.zero_le _
  · exact Nat.zero_le _
abbrev LQ5 (aq nq : Nat) (tq : Nat → ByteArray) (vq gq : Nat → Int) : List (ByteArray × Int × Int) := S.mkl nq fun j => (tq (j + aq), vq (j + aq), gq (j + aq))
abbrev St5 := Empty
abbrev Rt5 := Bool
noncomputable def V5 (aq nq mq : Nat) (tq : Nat → ByteArray) (vq : Nat → Int) (gq : Nat → Int) (de : Int) (st : Int) (k1 : Int) (k2 : Int) (k3 : Int) (r : Rt5) : PV := PV.bool r
noncomputable def N5 (aq nq mq : Nat) (tq : Nat → ByteArray) (vq : Nat → Int) (gq : Nat → Int) (de : Int) (st : Int) (k1 : Int) (k2 : Int) (k3 : Int) (r : Rt5) : List Blk := []
noncomputable def I5 (aq nq mq : Nat) (tq : Nat → ByteArray) (vq : Nat → Int) (gq : Nat → Int) (de : Int) (st : Int) (k1 : Int) (k2 : Int) (k3 : Int) : St5 → Hd := fun s => s.elim
noncomputable def q5 (aq nq mq : Nat) (tq : Nat → ByteArray) (vq : Nat → Int) (gq : Nat → Int) (de : Int) (st : Int) (k1 : Int) (k2 : Int) (k3 : Int) : St5 → Option (St5 ⊕ Rt5) := fun s => s.elim
noncomputable def p5 (aq nq mq : Nat) (tq : Nat → ByteArray) (vq : Nat → Int) (gq : Nat → Int) (de : Int) (st : Int) (k1 : Int) (k2 : Int) (k3 : Int) : Option (St5 ⊕ Rt5) := bif (decide (aq + nq ≤ mq))
 then (bif (S.fewB nq fun j => tq (j + aq))
 then (bif (decide (aq + nq ≤ mq ∧ nq ≤ 1000000))
 then (bif (decide
 (0 + List.length (LQ5 aq nq tq vq gq) ≤
 List.length (LQ5 aq nq tq vq gq) ∧
 List.length (LQ5 aq nq tq vq gq) ≤ 1000000))
 then (bif (Prod.fst
 (S.latS (List.length (LQ5 aq nq tq vq gq))
 (fun j =>
 (S.at' (LQ5 aq nq tq vq gq) j).2.1)
 (fun j =>
 (S.at' (LQ5 aq nq tq vq gq) j).2.2)
 de
 (S.netE (List.length (LQ5 aq nq tq vq gq))
 (fun j =>
 (S.at' (LQ5 aq nq tq vq gq) j).1)
 (fun j =>
 (S.at' (LQ5 aq nq tq vq gq) j).2.1)
 (fun j =>
 (S.at' (LQ5 aq nq tq vq gq) j).2.2)
 de)
 st k1 k2 k3) ==
 Prod.fst
 (S.latS nq (fun j => vq (j + aq)) (fun j => gq (j + aq)) de
 (S.netE nq (fun j => tq (j + aq)) (fun j => vq (j + aq)) (fun j => gq (j + aq)) de)
 st k1 k2 k3))
 then (bif (Prod.snd
 (S.latS (List.length (LQ5 aq nq tq vq gq))
 (fun j =>
 (S.at' (LQ5 aq nq tq vq gq) j).2.1)
 (fun j =>
 (S.at' (LQ5 aq nq tq vq gq) j).2.2)
 de
 (S.netE (List.length (LQ5 aq nq tq vq gq))
 (fun j =>
 (S.at' (LQ5 aq nq tq vq gq) j).1)
 (fun j =>
 (S.at' (LQ5 aq nq tq vq gq) j).2.1)
 (fun j =>
 (S.at' (LQ5 aq nq tq vq gq) j).2.2)
 de)
 st k1 k2 k3) ==
 Prod.snd
 (S.latS nq (fun j => vq (j + aq)) (fun j => gq (j + aq)) de
 (S.netE nq (fun j => tq (j + aq)) (fun j => vq (j + aq)) (fun j => gq (j + aq)) de)
 st k1 k2 k3))
 then (bif (Prod.fst
 (S.dblE (List.length (LQ5 aq nq tq vq gq))
 (S.netE (List.length (LQ5 aq nq tq vq gq))
 (fun j =>
 (S.at' (LQ5 aq nq tq vq gq) j).1)
 (fun j =>
 (S.at' (LQ5 aq nq tq vq gq) j).2.1)
 (fun j =>
 (S.at' (LQ5 aq nq tq vq gq) j).2.2)
 de)
 st) ==
 Prod.fst
 (S.dblE nq
 (S.netE nq (fun j => tq (j + aq)) (fun j => vq (j + aq)) (fun j => gq (j + aq)) de)
 st))
 then (bif (decide
 (0 +
 List.length
 (Prod.snd
 (S.dblE (List.length (LQ5 aq nq tq vq gq))
 (S.netE (List.length (LQ5 aq nq tq vq gq))
 (fun j =>
 (S.at' (LQ5 aq nq tq vq gq) j).1)
 (fun j =>
 Prod.fst
 (Prod.snd
 (S.at' (LQ5 aq nq tq vq gq) j)))
 (fun j =>
 Prod.snd
 (Prod.snd
 (S.at' (LQ5 aq nq tq vq gq) j)))
 de)
 st)) ≤
 List.length
 (Prod.snd
 (S.dblE (List.length (LQ5 aq nq tq vq gq))
 (S.netE (List.length (LQ5 aq nq tq vq gq))
 (fun j =>
 (S.at' (LQ5 aq nq tq vq gq) j).1)
 (fun j =>
 Prod.fst
 ((S.at' (LQ5 aq nq tq vq gq) j).2))
 (fun j =>
 Prod.snd
 ((S.at' (LQ5 aq nq tq vq gq) j).2))
 de)
 st)) ∧
 List.length
 (Prod.snd
 (S.dblE (List.length (LQ5 aq nq tq vq gq))
 (S.netE (List.length (LQ5 aq nq tq vq gq))
 (fun j =>
 (S.at' (LQ5 aq nq tq vq gq) j).1)
 (fun j =>
 Prod.fst
 (Prod.snd
 (S.at' (LQ5 aq nq tq vq gq) j)))
 (fun j =>
 Prod.snd
 (Prod.snd
 (S.at' (LQ5 aq nq tq vq gq) j)))
 de)
 st)) ≤
 1000000 ∧
 0 +
 List.length
 (Prod.snd
 (S.dblE nq
 (S.netE nq (fun j => tq (j + aq)) (fun j => vq (j + aq))
 (fun j => gq (j + aq)) de)
 st)) ≤
 List.length
 (Prod.snd
 (S.dblE nq
 (S.netE nq (fun j => tq (j + aq)) (fun j => vq (j + aq))
 (fun j => gq (j + aq)) de)
 st)) ∧
 List.length
 (Prod.snd
 (S.dblE nq
 (S.netE nq (fun j => tq (j + aq)) (fun j => vq (j + aq))
 (fun j => gq (j + aq)) de)
 st)) ≤
 1000000))
 then (bif (decide
 ((S.mkl
 (List.length
 (Prod.snd
 (S.dblE (List.length (LQ5 aq nq tq vq gq))
 (S.netE (List.length (LQ5 aq nq tq vq gq))
 (fun j =>
 (S.at' (LQ5 aq nq tq vq gq) j).1)
 (fun j =>
 Prod.fst
 ((S.at' (LQ5 aq nq tq vq gq) j).2))
 (fun j =>
 Prod.snd
 ((S.at' (LQ5 aq nq tq vq gq) j).2))
 de)
 st)))
 fun j =>
 (Prod.fst
 (S.at'
 (Prod.snd
 (S.dblE (List.length (LQ5 aq nq tq vq gq))
 (S.netE (List.length (LQ5 aq nq tq vq gq))
 (fun j =>
 (S.at' (LQ5 aq nq tq vq gq) j).1)
 (fun j =>
 Prod.fst
 (Prod.snd
 (S.at' (LQ5 aq nq tq vq gq) j)))
 (fun j =>
 Prod.snd
 (Prod.snd
 (S.at' (LQ5 aq nq tq vq gq) j)))
 de)
 st))
 j),
 Prod.fst
 (Prod.snd
 (S.at'
 (Prod.snd
 (S.dblE (List.length (LQ5 aq nq tq vq gq))
 (S.netE (List.length (LQ5 aq nq tq vq gq))
 (fun j =>
 Prod.fst
 (S.at' (LQ5 aq nq tq vq gq) j))
 (fun j =>
 Prod.fst
 (Prod.snd
 (S.at' (LQ5 aq nq tq vq gq) j)))
 (fun j =>
 Prod.snd
 (Prod.snd
 (S.at' (LQ5 aq nq tq vq gq) j)))
 de)
 st))
 j)),
 Prod.fst
 (Prod.snd
 (Prod.snd
 (S.at'
 (Prod.snd
 (S.dblE (List.length (LQ5 aq nq tq vq gq))
 (S.netE
 (List.length (LQ5 aq nq tq vq gq))
 (fun j =>
 Prod.fst
 (S.at' (LQ5 aq nq tq vq gq) j))
 (fun j =>
 Prod.fst
 (Prod.snd
 (S.at' (LQ5 aq nq tq vq gq) j)))
 (fun j =>
 Prod.snd
 (Prod.snd
 (S.at' (LQ5 aq nq tq vq gq) j)))
 de)
 st))
 j))),
 Prod.fst
 (Prod.snd
 (Prod.snd
 (Prod.snd
 (S.at'
 (Prod.snd
 (S.dblE
 (List.length (LQ5 aq nq tq vq gq))
 (S.netE
 (List.length (LQ5 aq nq tq vq gq))
 (fun j =>
 Prod.fst
 (S.at' (LQ5 aq nq tq vq gq) j))
 (fun j =>
 Prod.fst
 (Prod.snd
 (S.at' (LQ5 aq nq tq vq gq)
 j)))
 (fun j =>
 Prod.snd
 (Prod.snd
 (S.at' (LQ5 aq nq tq vq gq)
 j)))
 de)
 st))
 j)))),
 Prod.fst
 (Prod.snd
 (Prod.snd
 (Prod.snd
 (Prod.snd
 (S.at'
 (Prod.snd
 (S.dblE
 (List.length (LQ5 aq nq tq vq gq))
 (S.netE
 (List.length (LQ5 aq nq tq vq gq))
 (fun j =>
 Prod.fst
 (S.at' (LQ5 aq nq tq vq gq) j))
 (fun j =>
 Prod.fst
 (Prod.snd
 (S.at' (LQ5 aq nq tq vq gq)
 j)))
 (fun j =>
 Prod.snd
 (Prod.snd
 (S.at' (LQ5 aq nq tq vq gq)
 j)))
 de)
 st))
 j))))),
 Prod.snd
 (Prod.snd
 (Prod.snd
 (Prod.snd
 (Prod.snd
 (S.at'
 (Prod.snd
 (S.dblE
 (List.length (LQ5 aq nq tq vq gq))
 (S.netE
 (List.length (LQ5 aq nq tq vq gq))
 (fun j =>
 Prod.fst
 (S.at' (LQ5 aq nq tq vq gq) j))
 (fun j =>
 Prod.fst
 (Prod.snd
 (S.at' (LQ5 aq nq tq vq gq)
 j)))
 (fun j =>
 Prod.snd
 (Prod.snd
 (S.at' (LQ5 aq nq tq vq gq)
 j)))
 de)
 st))
 j))))))) =
 S.mkl
 (List.length
 (Prod.snd
 (S.dblE nq
 (S.netE nq (fun j => tq (j + aq)) (fun j => vq (j + aq))
 (fun j => gq (j + aq)) de)
 st)))
 fun j =>
 (Prod.fst
 (S.at'
 (Prod.snd
 (S.dblE nq
 (S.netE nq (fun j => tq (j + aq)) (fun j => vq (j + aq))
 (fun j => gq (j + aq)) de)
 st))
 j),
 Prod.fst
 (Prod.snd
 (S.at'
 (Prod.snd
 (S.dblE nq
 (S.netE nq (fun j => tq (j + aq)) (fun j => vq (j + aq))
 (fun j => gq (j + aq)) de)
 st))
 j)),
 Prod.fst
 (Prod.snd
 (Prod.snd
 (S.at'
 (Prod.snd
 (S.dblE nq
 (S.netE nq (fun j => tq (j + aq)) (fun j => vq (j + aq))
 (fun j => gq (j + aq)) de)
 st))
 j))),
 Prod.fst
 (Prod.snd
 (Prod.snd
 (Prod.snd
 (S.at'
 (Prod.snd
 (S.dblE nq
 (S.netE nq (fun j => tq (j + aq)) (fun j => vq (j + aq))
 (fun j => gq (j + aq)) de)
 st))
 j)))),
 Prod.fst
 (Prod.snd
 (Prod.snd
 (Prod.snd
 (Prod.snd
 (S.at'
 (Prod.snd
 (S.dblE nq
 (S.netE nq (fun j => tq (j + aq)) (fun j => vq (j + aq))
 (fun j => gq (j + aq)) de)
 st))
 j))))),
 Prod.snd
 (Prod.snd
 (Prod.snd
 (Prod.snd
 (Prod.snd
 (S.at'
 (Prod.snd
 (S.dblE nq
 (S.netE nq (fun j => tq (j + aq)) (fun j => vq (j + aq))
 (fun j => gq (j + aq)) de)
 st))
 j))))))))
 then (some (.inr (true)))
 else (some (.inr (false))))
 else (none))
 else (some (.inr (false))))
 else (some (.inr (false))))
 else (some (.inr (false))))
 else (none))
 else (none))
 else (some (.inr (true))))
 else (none)
noncomputable def Te5 (test : Bool → Prop → Prop → Prop) (Kst : KS) (Kret : KR) (aq nq mq : Nat) (tq : Nat → ByteArray) (vq : Nat → Int) (gq : Nat → Int) (de : Int) (st : Int) (k1 : Int) (k2 : Int) (k3 : Int) : Prop :=
  test (true)
 (test (true)
 (test (decide (aq + nq ≤ mq))
 (test (S.fewB nq fun j => tq (j + aq))
 (test (decide (aq + nq ≤ mq ∧ nq ≤ 1000000))
 (test (decide
 (0 + List.length (LQ5 aq nq tq vq gq) ≤
 List.length (LQ5 aq nq tq vq gq) ∧
 List.length (LQ5 aq nq tq vq gq) ≤ 1000000))
 (test (decide (aq + nq ≤ mq ∧ nq ≤ 1000000))
 (test (decide (aq + nq ≤ mq ∧ nq ≤ 1000000))
 (test (decide
 (0 + List.length (LQ5 aq nq tq vq gq) ≤
 List.length (LQ5 aq nq tq vq gq) ∧
 List.length (LQ5 aq nq tq vq gq) ≤ 1000000))
 (test (decide (aq + nq ≤ mq ∧ nq ≤ 1000000))
 (test (Prod.fst
 (S.latS (List.length (LQ5 aq nq tq vq gq))
 (fun j =>
 (S.at' (LQ5 aq nq tq vq gq) j).2.1)
 (fun j =>
 (S.at' (LQ5 aq nq tq vq gq) j).2.2)
 de
 (S.netE (List.length (LQ5 aq nq tq vq gq))
 (fun j =>
 (S.at' (LQ5 aq nq tq vq gq) j).1)
 (fun j =>
 (S.at' (LQ5 aq nq tq vq gq) j).2.1)
 (fun j =>
 (S.at' (LQ5 aq nq tq vq gq) j).2.2)
 de)
 st k1 k2 k3) ==
 Prod.fst
 (S.latS nq (fun j => vq (j + aq)) (fun j => gq (j + aq)) de
 (S.netE nq (fun j => tq (j + aq)) (fun j => vq (j + aq)) (fun j => gq (j + aq)) de)
 st k1 k2 k3))
 (test (Prod.snd
 (S.latS (List.length (LQ5 aq nq tq vq gq))
 (fun j =>
 (S.at' (LQ5 aq nq tq vq gq) j).2.1)
 (fun j =>
 (S.at' (LQ5 aq nq tq vq gq) j).2.2)
 de
 (S.netE (List.length (LQ5 aq nq tq vq gq))
 (fun j =>
 (S.at' (LQ5 aq nq tq vq gq) j).1)
 (fun j =>
 (S.at' (LQ5 aq nq tq vq gq) j).2.1)
 (fun j =>
 (S.at' (LQ5 aq nq tq vq gq) j).2.2)
 de)
 st k1 k2 k3) ==
 Prod.snd
 (S.latS nq (fun j => vq (j + aq)) (fun j => gq (j + aq)) de
 (S.netE nq (fun j => tq (j + aq)) (fun j => vq (j + aq)) (fun j => gq (j + aq)) de)
 st k1 k2 k3))
 (test (Prod.fst
 (S.dblE (List.length (LQ5 aq nq tq vq gq))
 (S.netE (List.length (LQ5 aq nq tq vq gq))
 (fun j =>
 (S.at' (LQ5 aq nq tq vq gq) j).1)
 (fun j =>
 (S.at' (LQ5 aq nq tq vq gq) j).2.1)
 (fun j =>
 (S.at' (LQ5 aq nq tq vq gq) j).2.2)
 de)
 st) ==
 Prod.fst
 (S.dblE nq
 (S.netE nq (fun j => tq (j + aq)) (fun j => vq (j + aq)) (fun j => gq (j + aq)) de)
 st))
 (test (decide
 (0 +
 List.length
 (Prod.snd
 (S.dblE (List.length (LQ5 aq nq tq vq gq))
 (S.netE (List.length (LQ5 aq nq tq vq gq))
 (fun j =>
 (S.at' (LQ5 aq nq tq vq gq) j).1)
 (fun j =>
 Prod.fst
 (Prod.snd
 (S.at' (LQ5 aq nq tq vq gq) j)))
 (fun j =>
 Prod.snd
 (Prod.snd
 (S.at' (LQ5 aq nq tq vq gq) j)))
 de)
 st)) ≤
 List.length
 (Prod.snd
 (S.dblE (List.length (LQ5 aq nq tq vq gq))
 (S.netE (List.length (LQ5 aq nq tq vq gq))
 (fun j =>
 (S.at' (LQ5 aq nq tq vq gq) j).1)
 (fun j =>
 Prod.fst
 ((S.at' (LQ5 aq nq tq vq gq) j).2))
 (fun j =>
 Prod.snd
 ((S.at' (LQ5 aq nq tq vq gq) j).2))
 de)
 st)) ∧
 List.length
 (Prod.snd
 (S.dblE (List.length (LQ5 aq nq tq vq gq))
 (S.netE (List.length (LQ5 aq nq tq vq gq))
 (fun j =>
 (S.at' (LQ5 aq nq tq vq gq) j).1)
 (fun j =>
 Prod.fst
 (Prod.snd
 (S.at' (LQ5 aq nq tq vq gq) j)))
 (fun j =>
 Prod.snd
 (Prod.snd
 (S.at' (LQ5 aq nq tq vq gq) j)))
 de)
 st)) ≤
 1000000 ∧
 0 +
 List.length
 (Prod.snd
 (S.dblE nq
 (S.netE nq (fun j => tq (j + aq)) (fun j => vq (j + aq))
 (fun j => gq (j + aq)) de)
 st)) ≤
 List.length
 (Prod.snd
 (S.dblE nq
 (S.netE nq (fun j => tq (j + aq)) (fun j => vq (j + aq))
 (fun j => gq (j + aq)) de)
 st)) ∧
 List.length
 (Prod.snd
 (S.dblE nq
 (S.netE nq (fun j => tq (j + aq)) (fun j => vq (j + aq))
 (fun j => gq (j + aq)) de)
 st)) ≤
 1000000))
 (test (decide
 ((S.mkl
 (List.length
 (Prod.snd
 (S.dblE (List.length (LQ5 aq nq tq vq gq))
 (S.netE (List.length (LQ5 aq nq tq vq gq))
 (fun j =>
 (S.at' (LQ5 aq nq tq vq gq) j).1)
 (fun j =>
 Prod.fst
 ((S.at' (LQ5 aq nq tq vq gq) j).2))
 (fun j =>
 Prod.snd
 ((S.at' (LQ5 aq nq tq vq gq) j).2))
 de)
 st)))
 fun j =>
 (Prod.fst
 (S.at'
 (Prod.snd
 (S.dblE (List.length (LQ5 aq nq tq vq gq))
 (S.netE (List.length (LQ5 aq nq tq vq gq))
 (fun j =>
 (S.at' (LQ5 aq nq tq vq gq) j).1)
 (fun j =>
 Prod.fst
 (Prod.snd
 (S.at' (LQ5 aq nq tq vq gq) j)))
 (fun j =>
 Prod.snd
 (Prod.snd
 (S.at' (LQ5 aq nq tq vq gq) j)))
 de)
 st))
 j),
 Prod.fst
 (Prod.snd
 (S.at'
 (Prod.snd
 (S.dblE (List.length (LQ5 aq nq tq vq gq))
 (S.netE (List.length (LQ5 aq nq tq vq gq))
 (fun j =>
 Prod.fst
 (S.at' (LQ5 aq nq tq vq gq) j))
 (fun j =>
 Prod.fst
 (Prod.snd
 (S.at' (LQ5 aq nq tq vq gq) j)))
 (fun j =>
 Prod.snd
 (Prod.snd
 (S.at' (LQ5 aq nq tq vq gq) j)))
 de)
 st))
 j)),
 Prod.fst
 (Prod.snd
 (Prod.snd
 (S.at'
 (Prod.snd
 (S.dblE (List.length (LQ5 aq nq tq vq gq))
 (S.netE
 (List.length (LQ5 aq nq tq vq gq))
 (fun j =>
 Prod.fst
 (S.at' (LQ5 aq nq tq vq gq) j))
 (fun j =>
 Prod.fst
 (Prod.snd
 (S.at' (LQ5 aq nq tq vq gq) j)))
 (fun j =>
 Prod.snd
 (Prod.snd
 (S.at' (LQ5 aq nq tq vq gq) j)))
 de)
 st))
 j))),
 Prod.fst
 (Prod.snd
 (Prod.snd
 (Prod.snd
 (S.at'
 (Prod.snd
 (S.dblE
 (List.length (LQ5 aq nq tq vq gq))
 (S.netE
 (List.length (LQ5 aq nq tq vq gq))
 (fun j =>
 Prod.fst
 (S.at' (LQ5 aq nq tq vq gq) j))
 (fun j =>
 Prod.fst
 (Prod.snd
 (S.at' (LQ5 aq nq tq vq gq)
 j)))
 (fun j =>
 Prod.snd
 (Prod.snd
 (S.at' (LQ5 aq nq tq vq gq)
 j)))
 de)
 st))
 j)))),
 Prod.fst
 (Prod.snd
 (Prod.snd
 (Prod.snd
 (Prod.snd
 (S.at'
 (Prod.snd
 (S.dblE
 (List.length (LQ5 aq nq tq vq gq))
 (S.netE
 (List.length (LQ5 aq nq tq vq gq))
 (fun j =>
 Prod.fst
 (S.at' (LQ5 aq nq tq vq gq) j))
 (fun j =>
 Prod.fst
 (Prod.snd
 (S.at' (LQ5 aq nq tq vq gq)
 j)))
 (fun j =>
 Prod.snd
 (Prod.snd
 (S.at' (LQ5 aq nq tq vq gq)
 j)))
 de)
 st))
 j))))),
 Prod.snd
 (Prod.snd
 (Prod.snd
 (Prod.snd
 (Prod.snd
 (S.at'
 (Prod.snd
 (S.dblE
 (List.length (LQ5 aq nq tq vq gq))
 (S.netE
 (List.length (LQ5 aq nq tq vq gq))
 (fun j =>
 Prod.fst
 (S.at' (LQ5 aq nq tq vq gq) j))
 (fun j =>
 Prod.fst
 (Prod.snd
 (S.at' (LQ5 aq nq tq vq gq)
 j)))
 (fun j =>
 Prod.snd
 (Prod.snd
 (S.at' (LQ5 aq nq tq vq gq)
 j)))
 de)
 st))
 j))))))) =
 S.mkl
 (List.length
 (Prod.snd
 (S.dblE nq
 (S.netE nq (fun j => tq (j + aq)) (fun j => vq (j + aq))
 (fun j => gq (j + aq)) de)
 st)))
 fun j =>
 (Prod.fst
 (S.at'
 (Prod.snd
 (S.dblE nq
 (S.netE nq (fun j => tq (j + aq)) (fun j => vq (j + aq))
 (fun j => gq (j + aq)) de)
 st))
 j),
 Prod.fst
 (Prod.snd
 (S.at'
 (Prod.snd
 (S.dblE nq
 (S.netE nq (fun j => tq (j + aq)) (fun j => vq (j + aq))
 (fun j => gq (j + aq)) de)
 st))
 j)),
 Prod.fst
 (Prod.snd
 (Prod.snd
 (S.at'
 (Prod.snd
 (S.dblE nq
 (S.netE nq (fun j => tq (j + aq)) (fun j => vq (j + aq))
 (fun j => gq (j + aq)) de)
 st))
 j))),
 Prod.fst
 (Prod.snd
 (Prod.snd
 (Prod.snd
 (S.at'
 (Prod.snd
 (S.dblE nq
 (S.netE nq (fun j => tq (j + aq)) (fun j => vq (j + aq))
 (fun j => gq (j + aq)) de)
 st))
 j)))),
 Prod.fst
 (Prod.snd
 (Prod.snd
 (Prod.snd
 (Prod.snd
 (S.at'
 (Prod.snd
 (S.dblE nq
 (S.netE nq (fun j => tq (j + aq)) (fun j => vq (j + aq))
 (fun j => gq (j + aq)) de)
 st))
 j))))),
 Prod.snd
 (Prod.snd
 (Prod.snd
 (Prod.snd
 (Prod.snd
 (S.at'
 (Prod.snd
 (S.dblE nq
 (S.netE nq (fun j => tq (j + aq)) (fun j => vq (j + aq))
 (fun j => gq (j + aq)) de)
 st))
 j))))))))
 (Kret (PV.tf true) ([[(0, false,
 Blk.cols mq [Col.str tq, Col.int IntKind.i64 vq, Col.int IntKind.i64 gq])]]) (16))
 (Kret (PV.tf false) ([[(0, false,
 Blk.cols mq [Col.str tq, Col.int IntKind.i64 vq, Col.int IntKind.i64 gq])]]) (16)))
 (False))
 (Kret (PV.tf false) ([[(0, false,
 Blk.cols mq [Col.str tq, Col.int IntKind.i64 vq, Col.int IntKind.i64 gq])]]) (15)))
 (Kret (PV.tf false) ([[(0, false,
 Blk.cols mq [Col.str tq, Col.int IntKind.i64 vq, Col.int IntKind.i64 gq])]]) (15)))
 (Kret (PV.tf false) ([[(0, false,
 Blk.cols mq [Col.str tq, Col.int IntKind.i64 vq, Col.int IntKind.i64 gq])]]) (15)))
 (False))
 (False))
 (False))
 (False))
 (False))
 (False))
 (test (true)
 (test (true)
 (Kret (PV.tf true) ([[(0, false,
 Blk.cols mq [Col.str tq, Col.int IntKind.i64 vq, Col.int IntKind.i64 gq])]]) (6))
 (Kret (PV.tf false) ([[(0, false,
 Blk.cols mq [Col.str tq, Col.int IntKind.i64 vq, Col.int IntKind.i64 gq])]]) (6)))
 (False)))
 (False))
 (test (true)
 (test (true)
 (Kret (PV.tf true) ([[(0, false,
 Blk.cols mq [Col.str tq, Col.int IntKind.i64 vq, Col.int IntKind.i64 gq])]]) (5))
 (Kret (PV.tf false) ([[(0, false,
 Blk.cols mq [Col.str tq, Col.int IntKind.i64 vq, Col.int IntKind.i64 gq])]]) (5)))
 (False)))
 (False)
theorem te5 (test : Bool → Prop → Prop → Prop) (Kst : KS) (Kret : KR) (aq nq mq : Nat) (tq : Nat → ByteArray) (vq : Nat → Int) (gq : Nat → Int) (de : Int) (st : Int) (k1 : Int) (k2 : Int) (k3 : Int) : run test Try.env true (xL3 test) true 400 ⟨5, [.cd (mkFn Try.f5).body], argT 0 [.agg [.loose ⟨0, 3, aq, 0⟩ nq, .int .i64 de], .int .i64 st, .agg [.int .i64 k1, .int .i64 k2, .int .i64 k3]], [[], [(0, (false, .cols mq [.str tq, .int .i64 vq, .int .i64 gq]))]], 1⟩ (proj 1 [] Kst Kret) =
  Te5 test Kst Kret aq nq mq tq vq gq de st k1 k2 k3 := by kernel_rfl
theorem be5 (aq nq mq : Nat) (tq : Nat → ByteArray) (vq : Nat → Int) (gq : Nat → Int) (de : Int) (st : Int) (k1 : Int) (k2 : Int) (k3 : Int) (Kst : KS) (Kret : KR) (x : St5 ⊕ Rt5) (hS : HS 1 400 ((I5 aq nq mq tq vq gq de st k1 k2 k3)) Kst x) (hR : HR 1 400 ((V5 aq nq mq tq vq gq de st k1 k2 k3)) (fun r => [newL (1 + 1) ((N5 aq nq mq tq vq gq de st k1 k2 k3) r) ++ [(0, (false, .cols mq [.str tq, .int .i64 vq, .int .i64 gq]))]]) Kret x) (h : (bif (decide (aq + nq ≤ mq))
 then (bif (S.fewB nq fun j => tq (j + aq))
 then (bif (decide (aq + nq ≤ mq ∧ nq ≤ 1000000))
 then (bif (decide
 (0 + List.length (LQ5 aq nq tq vq gq) ≤
 List.length (LQ5 aq nq tq vq gq) ∧
 List.length (LQ5 aq nq tq vq gq) ≤ 1000000))
 then (bif (Prod.fst
 (S.latS (List.length (LQ5 aq nq tq vq gq))
 (fun j =>
 (S.at' (LQ5 aq nq tq vq gq) j).2.1)
 (fun j =>
 (S.at' (LQ5 aq nq tq vq gq) j).2.2)
 de
 (S.netE (List.length (LQ5 aq nq tq vq gq))
 (fun j =>
 (S.at' (LQ5 aq nq tq vq gq) j).1)
 (fun j =>
 (S.at' (LQ5 aq nq tq vq gq) j).2.1)
 (fun j =>
 (S.at' (LQ5 aq nq tq vq gq) j).2.2)
 de)
 st k1 k2 k3) ==
 Prod.fst
 (S.latS nq (fun j => vq (j + aq)) (fun j => gq (j + aq)) de
 (S.netE nq (fun j => tq (j + aq)) (fun j => vq (j + aq)) (fun j => gq (j + aq)) de)
 st k1 k2 k3))
 then (bif (Prod.snd
 (S.latS (List.length (LQ5 aq nq tq vq gq))
 (fun j =>
 (S.at' (LQ5 aq nq tq vq gq) j).2.1)
 (fun j =>
 (S.at' (LQ5 aq nq tq vq gq) j).2.2)
 de
 (S.netE (List.length (LQ5 aq nq tq vq gq))
 (fun j =>
 (S.at' (LQ5 aq nq tq vq gq) j).1)
 (fun j =>
 (S.at' (LQ5 aq nq tq vq gq) j).2.1)
 (fun j =>
 (S.at' (LQ5 aq nq tq vq gq) j).2.2)
 de)
 st k1 k2 k3) ==
 Prod.snd
 (S.latS nq (fun j => vq (j + aq)) (fun j => gq (j + aq)) de
 (S.netE nq (fun j => tq (j + aq)) (fun j => vq (j + aq)) (fun j => gq (j + aq)) de)
 st k1 k2 k3))
 then (bif (Prod.fst
 (S.dblE (List.length (LQ5 aq nq tq vq gq))
 (S.netE (List.length (LQ5 aq nq tq vq gq))
 (fun j =>
 (S.at' (LQ5 aq nq tq vq gq) j).1)
 (fun j =>
 (S.at' (LQ5 aq nq tq vq gq) j).2.1)
 (fun j =>
 (S.at' (LQ5 aq nq tq vq gq) j).2.2)
 de)
 st) ==
 Prod.fst
 (S.dblE nq
 (S.netE nq (fun j => tq (j + aq)) (fun j => vq (j + aq)) (fun j => gq (j + aq)) de)
 st))
 then (bif (decide
 (0 +
 List.length
 (Prod.snd
 (S.dblE (List.length (LQ5 aq nq tq vq gq))
 (S.netE (List.length (LQ5 aq nq tq vq gq))
 (fun j =>
 (S.at' (LQ5 aq nq tq vq gq) j).1)
 (fun j =>
 Prod.fst
 (Prod.snd
 (S.at' (LQ5 aq nq tq vq gq) j)))
 (fun j =>
 Prod.snd
 (Prod.snd
 (S.at' (LQ5 aq nq tq vq gq) j)))
 de)
 st)) ≤
 List.length
 (Prod.snd
 (S.dblE (List.length (LQ5 aq nq tq vq gq))
 (S.netE (List.length (LQ5 aq nq tq vq gq))
 (fun j =>
 (S.at' (LQ5 aq nq tq vq gq) j).1)
 (fun j =>
 Prod.fst
 ((S.at' (LQ5 aq nq tq vq gq) j).2))
 (fun j =>
 Prod.snd
 ((S.at' (LQ5 aq nq tq vq gq) j).2))
 de)
 st)) ∧
 List.length
 (Prod.snd
 (S.dblE (List.length (LQ5 aq nq tq vq gq))
 (S.netE (List.length (LQ5 aq nq tq vq gq))
 (fun j =>
 (S.at' (LQ5 aq nq tq vq gq) j).1)
 (fun j =>
 Prod.fst
 (Prod.snd
 (S.at' (LQ5 aq nq tq vq gq) j)))
 (fun j =>
 Prod.snd
 (Prod.snd
 (S.at' (LQ5 aq nq tq vq gq) j)))
 de)
 st)) ≤
 1000000 ∧
 0 +
 List.length
 (Prod.snd
 (S.dblE nq
 (S.netE nq (fun j => tq (j + aq)) (fun j => vq (j + aq))
 (fun j => gq (j + aq)) de)
 st)) ≤
 List.length
 (Prod.snd
 (S.dblE nq
 (S.netE nq (fun j => tq (j + aq)) (fun j => vq (j + aq))
 (fun j => gq (j + aq)) de)
 st)) ∧
 List.length
 (Prod.snd
 (S.dblE nq
 (S.netE nq (fun j => tq (j + aq)) (fun j => vq (j + aq))
 (fun j => gq (j + aq)) de)
 st)) ≤
 1000000))
 then (bif (decide
 ((S.mkl
 (List.length
 (Prod.snd
 (S.dblE (List.length (LQ5 aq nq tq vq gq))
 (S.netE (List.length (LQ5 aq nq tq vq gq))
 (fun j =>
 (S.at' (LQ5 aq nq tq vq gq) j).1)
 (fun j =>
 Prod.fst
 ((S.at' (LQ5 aq nq tq vq gq) j).2))
 (fun j =>
 Prod.snd
 ((S.at' (LQ5 aq nq tq vq gq) j).2))
 de)
 st)))
 fun j =>
 (Prod.fst
 (S.at'
 (Prod.snd
 (S.dblE (List.length (LQ5 aq nq tq vq gq))
 (S.netE (List.length (LQ5 aq nq tq vq gq))
 (fun j =>
 (S.at' (LQ5 aq nq tq vq gq) j).1)
 (fun j =>
 Prod.fst
 (Prod.snd
 (S.at' (LQ5 aq nq tq vq gq) j)))
 (fun j =>
 Prod.snd
 (Prod.snd
 (S.at' (LQ5 aq nq tq vq gq) j)))
 de)
 st))
 j),
 Prod.fst
 (Prod.snd
 (S.at'
 (Prod.snd
 (S.dblE (List.length (LQ5 aq nq tq vq gq))
 (S.netE (List.length (LQ5 aq nq tq vq gq))
 (fun j =>
 Prod.fst
 (S.at' (LQ5 aq nq tq vq gq) j))
 (fun j =>
 Prod.fst
 (Prod.snd
 (S.at' (LQ5 aq nq tq vq gq) j)))
 (fun j =>
 Prod.snd
 (Prod.snd
 (S.at' (LQ5 aq nq tq vq gq) j)))
 de)
 st))
 j)),
 Prod.fst
 (Prod.snd
 (Prod.snd
 (S.at'
 (Prod.snd
 (S.dblE (List.length (LQ5 aq nq tq vq gq))
 (S.netE
 (List.length (LQ5 aq nq tq vq gq))
 (fun j =>
 Prod.fst
 (S.at' (LQ5 aq nq tq vq gq) j))
 (fun j =>
 Prod.fst
 (Prod.snd
 (S.at' (LQ5 aq nq tq vq gq) j)))
 (fun j =>
 Prod.snd
 (Prod.snd
 (S.at' (LQ5 aq nq tq vq gq) j)))
 de)
 st))
 j))),
 Prod.fst
 (Prod.snd
 (Prod.snd
 (Prod.snd
 (S.at'
 (Prod.snd
 (S.dblE
 (List.length (LQ5 aq nq tq vq gq))
 (S.netE
 (List.length (LQ5 aq nq tq vq gq))
 (fun j =>
 Prod.fst
 (S.at' (LQ5 aq nq tq vq gq) j))
 (fun j =>
 Prod.fst
 (Prod.snd
 (S.at' (LQ5 aq nq tq vq gq)
 j)))
 (fun j =>
 Prod.snd
 (Prod.snd
 (S.at' (LQ5 aq nq tq vq gq)
 j)))
 de)
 st))
 j)))),
 Prod.fst
 (Prod.snd
 (Prod.snd
 (Prod.snd
 (Prod.snd
 (S.at'
 (Prod.snd
 (S.dblE
 (List.length (LQ5 aq nq tq vq gq))
 (S.netE
 (List.length (LQ5 aq nq tq vq gq))
 (fun j =>
 Prod.fst
 (S.at' (LQ5 aq nq tq vq gq) j))
 (fun j =>
 Prod.fst
 (Prod.snd
 (S.at' (LQ5 aq nq tq vq gq)
 j)))
 (fun j =>
 Prod.snd
 (Prod.snd
 (S.at' (LQ5 aq nq tq vq gq)
 j)))
 de)
 st))
 j))))),
 Prod.snd
 (Prod.snd
 (Prod.snd
 (Prod.snd
 (Prod.snd
 (S.at'
 (Prod.snd
 (S.dblE
 (List.length (LQ5 aq nq tq vq gq))
 (S.netE
 (List.length (LQ5 aq nq tq vq gq))
 (fun j =>
 Prod.fst
 (S.at' (LQ5 aq nq tq vq gq) j))
 (fun j =>
 Prod.fst
 (Prod.snd
 (S.at' (LQ5 aq nq tq vq gq)
 j)))
 (fun j =>
 Prod.snd
 (Prod.snd
 (S.at' (LQ5 aq nq tq vq gq)
 j)))
 de)
 st))
 j))))))) =
 S.mkl
 (List.length
 (Prod.snd
 (S.dblE nq
 (S.netE nq (fun j => tq (j + aq)) (fun j => vq (j + aq))
 (fun j => gq (j + aq)) de)
 st)))
 fun j =>
 (Prod.fst
 (S.at'
 (Prod.snd
 (S.dblE nq
 (S.netE nq (fun j => tq (j + aq)) (fun j => vq (j + aq))
 (fun j => gq (j + aq)) de)
 st))
 j),
 Prod.fst
 (Prod.snd
 (S.at'
 (Prod.snd
 (S.dblE nq
 (S.netE nq (fun j => tq (j + aq)) (fun j => vq (j + aq))
 (fun j => gq (j + aq)) de)
 st))
 j)),
 Prod.fst
 (Prod.snd
 (Prod.snd
 (S.at'
 (Prod.snd
 (S.dblE nq
 (S.netE nq (fun j => tq (j + aq)) (fun j => vq (j + aq))
 (fun j => gq (j + aq)) de)
 st))
 j))),
 Prod.fst
 (Prod.snd
 (Prod.snd
 (Prod.snd
 (S.at'
 (Prod.snd
 (S.dblE nq
 (S.netE nq (fun j => tq (j + aq)) (fun j => vq (j + aq))
 (fun j => gq (j + aq)) de)
 st))
 j)))),
 Prod.fst
 (Prod.snd
 (Prod.snd
 (Prod.snd
 (Prod.snd
 (S.at'
 (Prod.snd
 (S.dblE nq
 (S.netE nq (fun j => tq (j + aq)) (fun j => vq (j + aq))
 (fun j => gq (j + aq)) de)
 st))
 j))))),
 Prod.snd
 (Prod.snd
 (Prod.snd
 (Prod.snd
 (Prod.snd
 (S.at'
 (Prod.snd
 (S.dblE nq
 (S.netE nq (fun j => tq (j + aq)) (fun j => vq (j + aq))
 (fun j => gq (j + aq)) de)
 st))
 j))))))))
 then (some (.inr (true)))
 else (some (.inr (false))))
 else (none))
 else (some (.inr (false))))
 else (some (.inr (false))))
 else (some (.inr (false))))
 else (none))
 else (none))
 else (some (.inr (true))))
 else (none) : Option (St5 ⊕ Rt5)) = some x) : Te5 cond Kst Kret aq nq mq tq vq gq de st k1 k2 k3 := by
  unfold Te5
  exact cond_yes rfl (cond_yes rfl (bif_split h
   (fun c0 h => bif_split h
   (fun c1 h => bif_split h
   (fun c2 h => bif_split h
   (fun c3 h => cond_yes c2 (cond_yes c2 (cond_yes c3 (cond_yes c2 (bif_split h
   (fun c4 h => bif_split h
   (fun c5 h => bif_split h
   (fun c6 h => bif_split h
   (fun c7 h => bif_split h
   (fun c8 h => ret_at hR _ h (fun n => n) rfl rfl rfl (rn_bool_tf rfl) rfl (entl_bor (use_lo rfl) rfl rfl entl_nil))
   (fun c8 h => ret_at hR _ h (fun n => n) rfl rfl rfl (rn_bool_tf rfl) rfl (entl_bor (use_lo rfl) rfl rfl entl_nil)))
   (fun c7 h => no_some h))
   (fun c6 h => ret_at hR _ h (fun n => n) rfl rfl rfl (rn_bool_tf rfl) rfl (entl_bor (use_lo rfl) rfl rfl entl_nil)))
   (fun c5 h => ret_at hR _ h (fun n => n) rfl rfl rfl (rn_bool_tf rfl) rfl (entl_bor (use_lo rfl) rfl rfl entl_nil)))
   (fun c4 h => ret_at hR _ h (fun n => n) rfl rfl rfl (rn_bool_tf rfl) rfl (entl_bor (use_lo rfl) rfl rfl entl_nil)))))))
   (fun c3 h => no_some h))
   (fun c2 h => no_some h))
   (fun c1 h => cond_yes rfl (cond_yes rfl (ret_at hR _ h (fun n => n) rfl rfl rfl (rn_bool_tf rfl) rfl (entl_bor (use_lo rfl) rfl rfl entl_nil)))))
   (fun c0 h => no_some h)))
theorem a5 (aq nq mq : Nat) (tq : Nat → ByteArray) (vq : Nat → Int) (gq : Nat → Int) (de : Int) (st : Int) (k1 : Int) (k2 : Int) (k3 : Int) {r : Rt5} (h : Goes ((q5 aq nq mq tq vq gq de st k1 k2 k3)) ((p5 aq nq mq tq vq gq de st k1 k2 k3)) r) : CallR Try.prog 5 [.agg [.loose ⟨0, 3, aq, 0⟩ nq, .int .i64 de], .int .i64 st, .agg [.int .i64 k1, .int .i64 k2, .int .i64 k3]] [[(0, (false, .cols mq [.str tq, .int .i64 vq, .int .i64 gq]))]] 1 ((V5 aq nq mq tq vq gq de st k1 k2 k3) r) ((fun r => [newL (1 + 1) ((N5 aq nq mq tq vq gq de st k1 k2 k3) r) ++ [(0, (false, .cols mq [.str tq, .int .i64 vq, .int .i64 gq]))]]) r) 400 ∧ ∃ F, Try.prog.funcs[5]? = some F ∧ F.body.isSome = true ∧ (F.name == "runtime.NumGoroutine") = false := by
  refine dec_calls (f := 5) (lo := 1) (hi := 400) (H := [[(0, (false, .cols mq [.str tq, .int .i64 vq, .int .i64 gq]))]]) (args := [.agg [.loose ⟨0, 3, aq, 0⟩ nq, .int .i64 de], .int .i64 st, .agg [.int .i64 k1, .int .i64 k2, .int .i64 k3]]) Try.envOk Try.mixed xL3_ok ((I5 aq nq mq tq vq gq de st k1 k2 k3)) ((V5 aq nq mq tq vq gq de st k1 k2 k3)) (fun r => [newL (1 + 1) ((N5 aq nq mq tq vq gq de st k1 k2 k3) r) ++ [(0, (false, .cols mq [.str tq, .int .i64 vq, .int .i64 gq]))]]) (fn := mkFn Try.f5) (ts := []) (n := 400) rfl (by decide) (by simp) (names_of rfl) ?_ ?_ ?_ h
  · intro s; exact s.elim
  · intro Kst Kret x hS hR h
    exact Holds.eq (te5 cond Kst Kret aq nq mq tq vq gq de st k1 k2 k3) (be5 aq nq mq tq vq gq de st k1 k2 k3 Kst Kret x hS hR h)
  · intro Kst Kret x hS hR s h; exact s.elim
noncomputable def k5 : Con := ⟨5, [.agg [.list [.str, .int .i64, .int .i64], .plain (.int .i64)], .one (.plain (.int .i64)), .agg [.plain (.int .i64), .plain (.int .i64), .plain (.int .i64)]], fun (x : ((Nat × Nat × Nat × (Nat → ByteArray) × (Nat → Int) × (Nat → Int) × Unit) × Int × Unit) × Int × (Int × Int × Int × Unit) × Unit) => (fun (aq nq mq : Nat) (tq : Nat → ByteArray) (vq : Nat → Int) (gq : Nat → Int) (de : Int) (st : Int) (k1 : Int) (k2 : Int) (k3 : Int) => decide (aq + nq ≤ mq)) x.1.1.1 x.1.1.2.1 x.1.1.2.2.1 x.1.1.2.2.2.1 x.1.1.2.2.2.2.1 x.1.1.2.2.2.2.2.1 x.1.2.1 x.2.1 x.2.2.1.1 x.2.2.1.2.1 x.2.2.1.2.2.1, fun (x : ((Nat × Nat × Nat × (Nat → ByteArray) × (Nat → Int) × (Nat → Int) × Unit) × Int × Unit) × Int × (Int × Int × Int × Unit) × Unit) => (fun (aq nq mq : Nat) (tq : Nat → ByteArray) (vq : Nat → Int) (gq : Nat → Int) (de : Int) (st : Int) (k1 : Int) (k2 : Int) (k3 : Int) => (V5 aq nq mq tq vq gq de st k1 k2 k3) (true)) x.1.1.1 x.1.1.2.1 x.1.1.2.2.1 x.1.1.2.2.2.1 x.1.1.2.2.2.2.1 x.1.1.2.2.2.2.2.1 x.1.2.1 x.2.1 x.2.2.1.1 x.2.2.1.2.1 x.2.2.1.2.2.1, fun (x : ((Nat × Nat × Nat × (Nat → ByteArray) × (Nat → Int) × (Nat → Int) × Unit) × Int × Unit) × Int × (Int × Int × Int × Unit) × Unit) => (fun (aq nq mq : Nat) (tq : Nat → ByteArray) (vq : Nat → Int) (gq : Nat → Int) (de : Int) (st : Int) (k1 : Int) (k2 : Int) (k3 : Int) => (N5 aq nq mq tq vq gq de st k1 k2 k3) (true)) x.1.1.1 x.1.1.2.1 x.1.1.2.2.1 x.1.1.2.2.2.1 x.1.1.2.2.2.2.1 x.1.1.2.2.2.2.2.1 x.1.2.1 x.2.1 x.2.2.1.1 x.2.2.1.2.1 x.2.2.1.2.2.1, fun _ _ => .dead⟩
theorem s5 (aq nq mq : Nat) (tq : Nat → ByteArray) (vq : Nat → Int) (gq : Nat → Int) (de : Int) (st : Int) (k1 : Int) (k2 : Int) (k3 : Int) (hp : aq + nq ≤ mq) : Goes ((q5 aq nq mq tq vq gq de st k1 k2 k3)) ((p5 aq nq mq tq vq gq de st k1 k2 k3)) (true) := by
  have hfl := fun h => dbe_len (n := nq) (e := (S.netE nq (fun j => tq (j + aq)) (fun j => vq (j + aq)) (fun j => gq (j + aq)) de)) (st := st) h
  unfold p5
  simp only [LQ5]
  cases hf : S.fewB nq (fun j => tq (j + aq))
  · rw [decide_eq_true (show aq + nq ≤ mq by omega)]
    exact goes_inr.mpr rfl
  have hq : nq ≤ 20 := by
    unfold S.fewB at hf
    rw [Bool.and_eq_true, decide_eq_true_eq] at hf
    exact hf.1
  simp only [mkl_len, Nat.zero_add, net_mkl, lat_mkl, BEq.rfl]
  show Goes _ _ _
  
  all_goals
   repeat' first
    | with_reducible exact goes_inr.mpr rfl
    | with_reducible refine goes_if (fun h => ?_) (fun h => ?_) <;> (try simp only [lim64, imp_false, decide_eq_true_eq, decide_eq_false_iff_not, Int.toNat_natCast, toNat_pred, toNat_succ, Option.getD_some, Option.getD_none, Bool.not_eq_true', Bool.not_eq_false', Bool.and_eq_true, Bool.or_eq_true, Bool.and_eq_false_iff, Bool.or_eq_false_iff, bne_iff_ne, beq_iff_eq, bne_eq_false_iff_eq, beq_eq_false_iff_ne, ne_eq, not_and, Int.not_le, Int.not_lt, ge_iff_le, gt_iff_lt, Nat.not_lt, Nat.not_le, Bool.not_eq_true, Bool.not_eq_false, Bool.true_eq_false, Bool.false_eq_true, not_false_eq_true, not_true_eq_false] at h)
    | exact goes_none.mpr (by omega)
   all_goals first | (exfalso; omega) | exact goes_inr.mpr rfl | (exfalso; simp_all; done) | (exfalso; simp at h; done)
theorem k5_ok : k5.ok Try.prog := by
  intro x hx
  obtain ⟨⟨⟨aq, nq, mq, tq, vq, gq, _⟩, de, _⟩, st, ⟨k1, k2, k3, _⟩, _⟩ := x
  obtain ⟨h1, h2⟩ := a5 aq nq mq tq vq gq de st k1 k2 k3 (s5 aq nq mq tq vq gq de st k1 k2 k3 (of_dec hx rfl))
  exact ⟨⟨400, (by decide : 1 + 1 + 0 ≤ 400), h1⟩, h2⟩
end Go.Ev
