/-
  The parts that the statement needs, 3 of 3.
-/
import Derived.Test.YtpnklpakehlbeaaV92
namespace Go.Ev
open Go.Proofs
open Go.IntWalk
set_option linter.unusedVariables false
set_option linter.unusedSimpArgs false
set_option maxRecDepth 100000
theorem s17' (aq nq mq : Nat) (tq : Nat → ByteArray) (vq : Nat → Int) (gq : Nat → Int) (de : Int) (hp : aq + nq ≤ mq ∧ nq ≤ 1000000) (hv : (S.netE nq (fun j => tq (j + aq)) (fun j => vq (j + aq)) (fun j => gq (j + aq)) de) = 0) : ∀ (c i : Nat) (a : S.A5), i + c = nq → Comes (q17 aq nq mq tq vq gq de) (match a with | (be, at', k, l, p) => .h0 be at' (i : Int) k l p) (match S.fold (fun a st => S.fold (S.worT (S.latI nq (fun j => vq (j + aq)) (fun j => gq (j + aq)) de) (S.allF nq) st) 0 (S.allF nq).length a) i c a with | (be, at', k, l, p) => (be, at', k, l, p, 0)) := by
  have hf := fail_len (n := nq)
  intro c
  induction c with
  | zero =>
    rintro i ⟨be, ba, k, l, p⟩ hi
    show Comes (q17 aq nq mq tq vq gq de) (.h0 be ba (i : Int) k l p) (be, ba, k, l, p, 0)
    apply Comes.of
    show Goes _ _ _
    (first | rw [q17] | unfold q17)
    repeat' first
      | with_reducible refine goes_if (fun h => ?_) (fun h => ?_) <;> (try simp only [lim64, imp_false, decide_eq_true_eq, decide_eq_false_iff_not, Int.toNat_natCast, toNat_pred, toNat_succ, Option.getD_some, Option.getD_none, Bool.not_eq_true', Bool.not_eq_false', Bool.and_eq_true, Bool.or_eq_true, Bool.and_eq_false_iff, Bool.or_eq_false_iff, bne_iff_ne, beq_iff_eq, bne_eq_false_iff_eq, beq_eq_false_iff_ne, ne_eq, not_and, Int.not_le, Int.not_lt, ge_iff_le, gt_iff_lt, Nat.not_lt, Nat.not_le, Bool.not_eq_true, Bool.not_eq_false, Bool.true_eq_false, Bool.false_eq_true, not_false_eq_true, not_true_eq_false] at h)
      | exact goes_none.mpr (by omega)
    all_goals first | (exfalso; omega) | exact goes_inr.mpr rfl
  | succ c ih =>
    rintro i ⟨be, ba, k, l, p⟩ hi
    have hm := s17i aq nq mq tq vq gq de hp hv i (by omega) _ (S.allF nq) ⟨rfl⟩ (S.allF nq).length 0 (be, ba, k, l, p) (Nat.zero_add _) (ih (i + 1) _ (by omega))
    obtain ⟨v1, v2, v3⟩ := net_ok hv
    obtain ⟨hp1, hp2⟩ := hp
    have hm : Comes (q17 aq nq mq tq vq gq de) (.h1 be ba (i : Int) (i : Int) 0 k l p (S.allF nq)) _ := hm
    show Comes (q17 aq nq mq tq vq gq de) (.h0 be ba (i : Int) k l p) _
    apply Comes.of
    show Goes _ _ _
    (first | rw [q17] | unfold q17)
    try simp only [all_mkl]
    try show Goes _ _ _
    repeat' first
      | with_reducible refine goes_if (fun h => ?_) (fun h => ?_) <;> (try simp only [lim64, imp_false, decide_eq_true_eq, decide_eq_false_iff_not, Int.toNat_natCast, toNat_pred, toNat_succ, Option.getD_some, Option.getD_none, Bool.not_eq_true', Bool.not_eq_false', Bool.and_eq_true, Bool.or_eq_true, Bool.and_eq_false_iff, Bool.or_eq_false_iff, bne_iff_ne, beq_iff_eq, bne_eq_false_iff_eq, beq_eq_false_iff_ne, ne_eq, not_and, Int.not_le, Int.not_lt, ge_iff_le, gt_iff_lt, Nat.not_lt, Nat.not_le, Bool.not_eq_true, Bool.not_eq_false, Bool.true_eq_false, Bool.false_eq_true, not_false_eq_true, not_true_eq_false] at h)
      | exact goes_none.mpr (by omega)
    all_goals first | (exfalso; omega) | exact hm
theorem s17 (aq nq mq : Nat) (tq : Nat → ByteArray) (vq : Nat → Int) (gq : Nat → Int) (de : Int) (hp : aq + nq ≤ mq ∧ nq ≤ 1000000) : Goes ((q17 aq nq mq tq vq gq de)) ((p17 aq nq mq tq vq gq de)) (S.worE nq (S.netE nq (fun j => tq (j + aq)) (fun j => vq (j + aq)) (fun j => gq (j + aq)) de) (fun j => vq (j + aq)) (fun j => gq (j + aq)) de) := by
  unfold S.worE
  by_cases h0 : (S.netE nq (fun j => tq (j + aq)) (fun j => vq (j + aq)) (fun j => gq (j + aq)) de) = 0
  · have hm := s17' aq nq mq tq vq gq de hp h0 nq 0 (-1, 0, 0, 0, 0) (Nat.zero_add _)
    have hm : Comes (q17 aq nq mq tq vq gq de) (.h0 (-1) 0 0 0 0 0) _ := hm
    obtain ⟨hp1, hp2⟩ := hp
    rw [if_pos h0]
    unfold p17
    simp only [h0]
    show Goes _ _ _
    repeat' first
      | with_reducible refine goes_if (fun h => ?_) (fun h => ?_) <;> (try simp only [lim64, imp_false, decide_eq_true_eq, decide_eq_false_iff_not, Int.toNat_natCast, toNat_pred, toNat_succ, Option.getD_some, Option.getD_none, Bool.not_eq_true', Bool.not_eq_false', Bool.and_eq_true, Bool.or_eq_true, Bool.and_eq_false_iff, Bool.or_eq_false_iff, bne_iff_ne, beq_iff_eq, bne_eq_false_iff_eq, beq_eq_false_iff_ne, ne_eq, not_and, Int.not_le, Int.not_lt, ge_iff_le, gt_iff_lt, Nat.not_lt, Nat.not_le, Bool.not_eq_true, Bool.not_eq_false, Bool.true_eq_false, Bool.false_eq_true, not_false_eq_true, not_true_eq_false] at h)
      | exact goes_none.mpr (by omega)
    all_goals first | (exfalso; omega) | exact hm | (exfalso; simp_all; done)
  · obtain ⟨hp1, hp2⟩ := hp
    rw [if_neg h0]
    show Goes _ _ _
    unfold p17
    repeat' first
      | with_reducible refine goes_if (fun h => ?_) (fun h => ?_) <;> (try simp only [lim64, imp_false, decide_eq_true_eq, decide_eq_false_iff_not, Int.toNat_natCast, toNat_pred, toNat_succ, Option.getD_some, Option.getD_none, Bool.not_eq_true', Bool.not_eq_false', Bool.and_eq_true, Bool.or_eq_true, Bool.and_eq_false_iff, Bool.or_eq_false_iff, bne_iff_ne, beq_iff_eq, bne_eq_false_iff_eq, beq_eq_false_iff_ne, ne_eq, not_and, Int.not_le, Int.not_lt, ge_iff_le, gt_iff_lt, Nat.not_lt, Nat.not_le, Bool.not_eq_true, Bool.not_eq_false, Bool.true_eq_false, Bool.false_eq_true, not_false_eq_true, not_true_eq_false] at h)
      | exact goes_none.mpr (by omega)
    all_goals first | (exfalso; omega) | exact goes_inr.mpr rfl | (exfalso; simp_all; done)
theorem k17_ok : k17.ok Try.prog := by
  intro x hx
  obtain ⟨⟨⟨aq, nq, mq, tq, vq, gq, _⟩, de, _⟩, _⟩ := x
  obtain ⟨h1, h2⟩ := a17 aq nq mq tq vq gq de (s17 aq nq mq tq vq gq de (of_dec hx rfl))
  exact ⟨⟨400, (by decide : 1 + 1 + 0 ≤ 400), h1⟩, h2⟩
theorem lost_eq {st : Int} (r : Nat) : (!S.any (fun j => decide (S.lit [st] 0 j = (r : Int))) 1) = decide ((r : Int) ≠ st) := by
  rw [any_one]
  show (!decide (st = (r : Int))) = decide ((r : Int) ≠ st)
  rw [← decide_not]
  exact decide_eq_decide.mpr ⟨fun h e => h e.symm, fun h e => h e.symm⟩
inductive St27 where
  | h0 (x0 : Int) (x1 : List (Int × Int × Int)) (x2 : List Bool) (x3 : List (Int × Int × Int × Int × Int × Int))
  | h1 (x0 : Int) (x1 : Nat) (x2 : Nat) (x3 : Int) (x4 : Int) (x5 : List (Int × Int × Int)) (x6 : List Bool) (x7 : Int) (x8 : Int) (x9 : Int) (x10 : List (Int × Int × Int × Int × Int × Int))
abbrev Rt27 := Int × List (Int × Int × Int × Int × Int × Int)
noncomputable def V27 (aq nq mq : Nat) (tq : Nat → ByteArray) (vq : Nat → Int) (gq : Nat → Int) (de : Int) (st : Int) (r : Rt27) : PV := PV.tup [PV.own (2) (6) (List.length r.2), PV.int IntKind.i64 r.1]
noncomputable def N27 (aq nq mq : Nat) (tq : Nat → ByteArray) (vq : Nat → Int) (gq : Nat → Int) (de : Int) (st : Int) (r : Rt27) : List Blk := [Blk.cols (List.length r.2)
 [Col.int IntKind.i64 fun (j : Nat) => (S.at' r.2 j).1,
 Col.int IntKind.i64 fun (j : Nat) => (S.at' r.2 j).2.1,
 Col.int IntKind.i64 fun (j : Nat) => (S.at' r.2 j).2.2.1,
 Col.int IntKind.i64 fun (j : Nat) => (S.at' r.2 j).2.2.2.1,
 Col.int IntKind.i64 fun (j : Nat) =>
 (S.at' r.2 j).2.2.2.2.1,
 Col.int IntKind.i64 fun (j : Nat) =>
 (S.at' r.2 j).2.2.2.2.2]]
noncomputable def I27 (aq nq mq : Nat) (tq : Nat → ByteArray) (vq : Nat → Int) (gq : Nat → Int) (de : Int) (st : Int) : St27 → Hd
  | .h0 x0 x1 x2 x3 => ⟨hd Try.f27 0, [PV.own (3) (6) (List.length x3), PV.own (1) (3) (List.length x1),
 PV.own (2) (1) (List.length x2), PV.unk,
 PV.own (1) (3) (List.length x1),
 PV.int IntKind.i64 (↑(List.length (S.failL nq)) : Int), PV.int IntKind.i64 x0, PV.unk,
 PV.unk, PV.unk], [[(1, (true, Blk.cols (List.length x1)
 [Col.int IntKind.i64 fun (j : Nat) => (S.at' x1 j).1,
 Col.int IntKind.i64 fun (j : Nat) => (S.at' x1 j).2.1,
 Col.int IntKind.i64 fun (j : Nat) => (S.at' x1 j).2.2])), (2, (true, Blk.cols (List.length x2) [Col.bool fun (j : Nat) => S.at' x2 j])), (3, (true, Blk.cols (List.length x3)
 [Col.int IntKind.i64 fun (j : Nat) => (S.at' x3 j).1,
 Col.int IntKind.i64 fun (j : Nat) => (S.at' x3 j).2.1,
 Col.int IntKind.i64 fun (j : Nat) => (S.at' x3 j).2.2.1,
 Col.int IntKind.i64 fun (j : Nat) => (S.at' x3 j).2.2.2.1,
 Col.int IntKind.i64 fun (j : Nat) =>
 (S.at' x3 j).2.2.2.2.1,
 Col.int IntKind.i64 fun (j : Nat) =>
 (S.at' x3 j).2.2.2.2.2]))], [(0, (false, .cols mq [.str tq, .int .i64 vq, .int .i64 gq]))]], 4⟩
  | .h1 x0 x1 x2 x3 x4 x5 x6 x7 x8 x9 x10 => ⟨hd Try.f27 1, [PV.own (4) (6) (List.length x10), PV.own (1) (3) (List.length x5),
 PV.own (2) (1) (List.length x6),
 PV.ptr (PA.mk (3) (0) (0) (0)),
 PV.own (1) (3) (List.length x5),
 PV.int IntKind.i64 (↑(List.length (S.failL nq)) : Int), PV.int IntKind.i64 x0,
 PV.loose (PA.mk (1) (3) x1 (0)) x2, PV.int IntKind.i64 x3,
 PV.int IntKind.i64 x4], [[(1, (true, Blk.cols (List.length x5)
 [Col.int IntKind.i64 fun (j : Nat) => (S.at' x5 j).1,
 Col.int IntKind.i64 fun (j : Nat) => (S.at' x5 j).2.1,
 Col.int IntKind.i64 fun (j : Nat) => (S.at' x5 j).2.2])), (2, (true, Blk.cols (List.length x6) [Col.bool fun (j : Nat) => S.at' x6 j])), (3, (true, Blk.cells [PV.int IntKind.i64 x7, PV.int IntKind.i64 x8, PV.int IntKind.i64 x9])), (4, (true, Blk.cols (List.length x10)
 [Col.int IntKind.i64 fun (j : Nat) => (S.at' x10 j).1,
 Col.int IntKind.i64 fun (j : Nat) => (S.at' x10 j).2.1,
 Col.int IntKind.i64 fun (j : Nat) => (S.at' x10 j).2.2.1,
 Col.int IntKind.i64 fun (j : Nat) => (S.at' x10 j).2.2.2.1,
 Col.int IntKind.i64 fun (j : Nat) =>
 (S.at' x10 j).2.2.2.2.1,
 Col.int IntKind.i64 fun (j : Nat) =>
 (S.at' x10 j).2.2.2.2.2]))], [(0, (false, .cols mq [.str tq, .int .i64 vq, .int .i64 gq]))]], 5⟩
noncomputable def q27 (aq nq mq : Nat) (tq : Nat → ByteArray) (vq : Nat → Int) (gq : Nat → Int) (de : Int) (st : Int) : St27 → Option (St27 ⊕ Rt27)
  | .h0 x0 x1 x2 x3 => bif (decide (x0 < (↑(List.length (S.failL nq)) : Int)))
 then (bif (decide ((0 : Int) ≤ x0 ∧ x0 < (↑(List.length x1) : Int)))
 then (bif (decide (Int.toNat x0 < List.length x1))
 then (bif (lim IntKind.i64 (x0 + (1 : Int)))
 then (bif (decide
 ((0 : Int) ≤ x0 + (1 : Int) ∧
 x0 + (1 : Int) ≤ (↑(List.length x1) : Int) ∧ (↑(List.length x1) : Int) ≤ (↑(List.length x1) : Int)))
 then (some (.inl (.h1 (x0) (Int.toNat (x0 + (1 : Int))) (List.length x1 - Int.toNat (x0 + (1 : Int))) ((↑(List.length x1 - Int.toNat (x0 + (1 : Int))) : Int)) ((0 : Int)) (x1) (x2) ((S.at' x1 (Int.toNat x0)).1) ((S.at' x1 (Int.toNat x0)).2.1) ((S.at' x1 (Int.toNat x0)).2.2) (x3))))
 else (none))
 else (none))
 else (none))
 else (none))
 else (some (.inr ((0 : Int), x3)))
  | .h1 x0 x1 x2 x3 x4 x5 x6 x7 x8 x9 x10 => bif (decide (x4 < x3))
 then (bif (decide ((0 : Int) ≤ x4 ∧ x4 < (↑x2 : Int)))
 then (bif (decide (Int.toNat x4 + x1 < List.length x5))
 then (bif (decide
 (2 ≤ 2 ∧
 2 ≤ 1000000 ∧ 0 + List.length x6 ≤ List.length x6 ∧ List.length x6 ≤ 1000000))
 then (bif (S.safB (List.length x6) (fun (j : Nat) => S.at' x6 j) (2)
 (fun (j : Nat) => S.lit [x7, (S.at' x5 (Int.toNat x4 + x1)).1] (0 : Int) j)
 (fun (j : Nat) => S.lit [x8, (S.at' x5 (Int.toNat x4 + x1)).2.1] (0 : Int) j)
 fun (j : Nat) => S.lit [x9, (S.at' x5 (Int.toNat x4 + x1)).2.2] (0 : Int) j)
 then (bif (lim IntKind.i64 (x4 + (1 : Int)))
 then (some (.inl (.h1 (x0) (x1) (x2) (x3) (x4 + (1 : Int)) (x5) (x6) (x7) (x8) (x9) (x10))))
 else (none))
 else (bif (decide (List.length x10 + 1 ≤ 1000000))
 then (bif (decide (List.length x10 ≤ List.length x10))
 then (bif (lim IntKind.i64 (x4 + (1 : Int)))
 then (some (.inl (.h1 (x0) (x1) (x2) (x3) (x4 + (1 : Int)) (x5) (x6) (x7) (x8) (x9) (S.snoc x10
 (x7, x8, x9, (S.at' x5 (Int.toNat x4 + x1)).1, (S.at' x5 (Int.toNat x4 + x1)).2.1,
 (S.at' x5 (Int.toNat x4 + x1)).2.2)))))
 else (none))
 else (none))
 else (none)))
 else (none))
 else (none))
 else (none))
 else (bif (lim IntKind.i64 (x0 + (1 : Int)))
 then (some (.inl (.h0 (x0 + (1 : Int)) (x5) (x6) (x10))))
 else (none))
noncomputable def p27 (aq nq mq : Nat) (tq : Nat → ByteArray) (vq : Nat → Int) (gq : Nat → Int) (de : Int) (st : Int) : Option (St27 ⊕ Rt27) := bif (decide (aq + nq ≤ mq ∧ nq ≤ 1000000))
 then (bif (S.netE nq (fun (j : Nat) => tq (j + aq)) (fun (j : Nat) => vq (j + aq)) (fun (j : Nat) => gq (j + aq)) de !=
 (0 : Int))
 then (some (.inr (S.netE nq (fun (j : Nat) => tq (j + aq)) (fun (j : Nat) => vq (j + aq)) (fun (j : Nat) => gq (j + aq)) de, [])))
 else (bif (decide (nq ≤ 1000000))
 then (bif (decide ((0 : Int) ≤ st ∧ st < (↑nq : Int)))
 then (bif (decide (nq ≤ 100000))
 then (bif (decide
 (1 ≤ 1 ∧
 1 ≤ 1000000 ∧
 nq ≤ 1000 ∧
 S.all
 (fun (j : Nat) =>
 decide ((0 : Int) ≤ S.lit [st] (0 : Int) j ∧ S.lit [st] (0 : Int) j < (↑nq : Int)))
 (1) =
 true))
 then (some (.inl (.h0 ((0 : Int)) (S.failL nq) (S.mkl nq fun (r : Nat) =>
 !S.any (fun (j : Nat) => decide (S.lit [st] (0 : Int) j = (↑r : Int))) (1)) ([]))))
 else (none))
 else (none))
 else (some (.inr ((6 : Int), []))))
 else (none)))
 else (none)
noncomputable def Te27 (test : Bool → Prop → Prop → Prop) (Kst : KS) (Kret : KR) (aq nq mq : Nat) (tq : Nat → ByteArray) (vq : Nat → Int) (gq : Nat → Int) (de : Int) (st : Int) : Prop :=
  test (decide (aq + nq ≤ mq ∧ nq ≤ 1000000))
 (test (S.netE nq (fun (j : Nat) => tq (j + aq)) (fun (j : Nat) => vq (j + aq)) (fun (j : Nat) => gq (j + aq)) de !=
 (0 : Int))
 (Kret (PV.tup
 [PV.nils,
 PV.int IntKind.i64
 (S.netE nq (fun (j : Nat) => tq (j + aq)) (fun (j : Nat) => vq (j + aq)) (fun (j : Nat) => gq (j + aq)) de)]) ([[(0, false,
 Blk.cols mq [Col.str tq, Col.int IntKind.i64 vq, Col.int IntKind.i64 gq])]]) (3))
 (test (decide (nq ≤ 1000000))
 (test (decide ((0 : Int) ≤ st ∧ st < (↑nq : Int)))
 (test (decide (nq ≤ 100000))
 (test (decide
 (1 ≤ 1 ∧
 1 ≤ 1000000 ∧
 nq ≤ 1000 ∧
 S.all
 (fun (j : Nat) =>
 decide ((0 : Int) ≤ S.lit [st] (0 : Int) j ∧ S.lit [st] (0 : Int) j < (↑nq : Int)))
 (1) =
 true))
 (Kst (hd Try.f27 0) ([PV.nils, PV.own (5) (3) (List.length (S.failL nq)),
 PV.own (8) (1)
 (List.length
 (S.mkl nq fun (r : Nat) =>
 !S.any (fun (j : Nat) => decide (S.lit [st] (0 : Int) j = (↑r : Int))) (1))),
 PV.unk, PV.own (5) (3) (List.length (S.failL nq)),
 PV.int IntKind.i64 (↑(List.length (S.failL nq)) : Int), PV.int IntKind.i64 (0 : Int),
 PV.unk, PV.unk, PV.unk]) ([[(0, false,
 Blk.cols mq [Col.str tq, Col.int IntKind.i64 vq, Col.int IntKind.i64 gq]),
 (5, true,
 Blk.cols (List.length (S.failL nq))
 [Col.int IntKind.i64 fun (j : Nat) => (S.at' (S.failL nq) j).1,
 Col.int IntKind.i64 fun (j : Nat) => (S.at' (S.failL nq) j).2.1,
 Col.int IntKind.i64 fun (j : Nat) => (S.at' (S.failL nq) j).2.2]),
 (8, true,
 Blk.cols
 (List.length
 (S.mkl nq fun (r : Nat) =>
 !S.any (fun (j : Nat) => decide (S.lit [st] (0 : Int) j = (↑r : Int))) (1)))
 [Col.bool fun (j : Nat) =>
 S.at'
 (S.mkl nq fun (r : Nat) =>
 !S.any (fun (j : Nat) => decide (S.lit [st] (0 : Int) j = (↑r : Int)))
 (1))
 j])]]) (9))
 (False))
 (False))
 (Kret (PV.tup [PV.nils, PV.int IntKind.i64 (6 : Int)]) ([[(0, false,
 Blk.cols mq [Col.str tq, Col.int IntKind.i64 vq, Col.int IntKind.i64 gq])]]) (4)))
 (False)))
 (False)
set_option maxRecDepth 100000 in
theorem te27 (test : Bool → Prop → Prop → Prop) (Kst : KS) (Kret : KR) (aq nq mq : Nat) (tq : Nat → ByteArray) (vq : Nat → Int) (gq : Nat → Int) (de : Int) (st : Int) : run test Try.env true (xZ test) true 400 ⟨27, [.cd (mkFn Try.f27).body], argT 0 [.agg [.loose ⟨0, 3, aq, 0⟩ nq, .int .i64 de], .int .i64 st], [[], [(0, (false, .cols mq [.str tq, .int .i64 vq, .int .i64 gq]))]], 1⟩ (proj 1 [7, 8, 9, 11, 29, 30, 31, 39, 40, 41] Kst Kret) =
  Te27 test Kst Kret aq nq mq tq vq gq de st := by kernel_rfl
noncomputable def T27_0 (test : Bool → Prop → Prop → Prop) (Kst : KS) (Kret : KR) (aq nq mq : Nat) (tq : Nat → ByteArray) (vq : Nat → Int) (gq : Nat → Int) (de : Int) (st : Int) (x0 : Int) (x1 : List (Int × Int × Int)) (x2 : List Bool) (x3 : List (Int × Int × Int × Int × Int × Int)) : Prop :=
  test (decide (x0 < (↑(List.length (S.failL nq)) : Int)))
 (test (decide ((0 : Int) ≤ x0 ∧ x0 < (↑(List.length x1) : Int)))
 (test (decide (Int.toNat x0 < List.length x1))
 (test (decide (Int.toNat x0 < List.length x1))
 (test (decide (Int.toNat x0 < List.length x1))
 (test (lim IntKind.i64 (x0 + (1 : Int)))
 (test (decide
 ((0 : Int) ≤ x0 + (1 : Int) ∧
 x0 + (1 : Int) ≤ (↑(List.length x1) : Int) ∧ (↑(List.length x1) : Int) ≤ (↑(List.length x1) : Int)))
 (Kst (hd Try.f27 1) ([PV.own (3) (6) (List.length x3), PV.own (1) (3) (List.length x1),
 PV.own (2) (1) (List.length x2),
 PV.ptr (PA.mk (4) (0) (0) (0)),
 PV.own (1) (3) (List.length x1),
 PV.int IntKind.i64 (↑(List.length (S.failL nq)) : Int), PV.int IntKind.i64 x0,
 PV.loose (PA.mk (1) (3) (Int.toNat (x0 + (1 : Int))) (0))
 (List.length x1 - Int.toNat (x0 + (1 : Int))),
 PV.int IntKind.i64 (↑(List.length x1 - Int.toNat (x0 + (1 : Int))) : Int),
 PV.int IntKind.i64 (0 : Int)]) ([[(0, false,
 Blk.cols mq [Col.str tq, Col.int IntKind.i64 vq, Col.int IntKind.i64 gq]),
 (1, true,
 Blk.cols (List.length x1)
 [Col.int IntKind.i64 fun (j : Nat) => (S.at' x1 j).1,
 Col.int IntKind.i64 fun (j : Nat) => (S.at' x1 j).2.1,
 Col.int IntKind.i64 fun (j : Nat) => (S.at' x1 j).2.2]),
 (4, true,
 Blk.cells
 [PV.int IntKind.i64 ((S.at' x1 (Int.toNat x0)).1),
 PV.int IntKind.i64 ((S.at' x1 (Int.toNat x0)).2.1),
 PV.int IntKind.i64 ((S.at' x1 (Int.toNat x0)).2.2)]),
 (2, true, Blk.cols (List.length x2) [Col.bool fun (j : Nat) => S.at' x2 j]),
 (3, true,
 Blk.cols (List.length x3)
 [Col.int IntKind.i64 fun (j : Nat) => (S.at' x3 j).1,
 Col.int IntKind.i64 fun (j : Nat) => (S.at' x3 j).2.1,
 Col.int IntKind.i64 fun (j : Nat) => (S.at' x3 j).2.2.1,
 Col.int IntKind.i64 fun (j : Nat) => (S.at' x3 j).2.2.2.1,
 Col.int IntKind.i64 fun (j : Nat) =>
 (S.at' x3 j).2.2.2.2.1,
 Col.int IntKind.i64 fun (j : Nat) =>
 (S.at' x3 j).2.2.2.2.2])]]) (5))
 (False))
 (False))
 (False))
 (False))
 (False))
 (False))
 (Kret (PV.tup [PV.own (3) (6) (List.length x3), PV.int IntKind.i64 (0 : Int)]) ([[(0, false,
 Blk.cols mq [Col.str tq, Col.int IntKind.i64 vq, Col.int IntKind.i64 gq]),
 (3, true,
 Blk.cols (List.length x3)
 [Col.int IntKind.i64 fun (j : Nat) => (S.at' x3 j).1,
 Col.int IntKind.i64 fun (j : Nat) => (S.at' x3 j).2.1,
 Col.int IntKind.i64 fun (j : Nat) => (S.at' x3 j).2.2.1,
 Col.int IntKind.i64 fun (j : Nat) => (S.at' x3 j).2.2.2.1,
 Col.int IntKind.i64 fun (j : Nat) =>
 (S.at' x3 j).2.2.2.2.1,
 Col.int IntKind.i64 fun (j : Nat) =>
 (S.at' x3 j).2.2.2.2.2])]]) (4))
set_option maxRecDepth 100000 in
theorem t27_0 (test : Bool → Prop → Prop → Prop) (Kst : KS) (Kret : KR) (aq nq mq : Nat) (tq : Nat → ByteArray) (vq : Nat → Int) (gq : Nat → Int) (de : Int) (st : Int) (x0 : Int) (x1 : List (Int × Int × Int)) (x2 : List Bool) (x3 : List (Int × Int × Int × Int × Int × Int)) : run test Try.env true (xZ test) true 400 ⟨27, hd Try.f27 0, zipT [7, 8, 9, 11, 29, 30, 31, 39, 40, 41] [PV.own (3) (6) (List.length x3), PV.own (1) (3) (List.length x1),
 PV.own (2) (1) (List.length x2), PV.unk,
 PV.own (1) (3) (List.length x1),
 PV.int IntKind.i64 (↑(List.length (S.failL nq)) : Int), PV.int IntKind.i64 x0, PV.unk,
 PV.unk, PV.unk], [[(1, (true, Blk.cols (List.length x1)
 [Col.int IntKind.i64 fun (j : Nat) => (S.at' x1 j).1,
 Col.int IntKind.i64 fun (j : Nat) => (S.at' x1 j).2.1,
 Col.int IntKind.i64 fun (j : Nat) => (S.at' x1 j).2.2])), (2, (true, Blk.cols (List.length x2) [Col.bool fun (j : Nat) => S.at' x2 j])), (3, (true, Blk.cols (List.length x3)
 [Col.int IntKind.i64 fun (j : Nat) => (S.at' x3 j).1,
 Col.int IntKind.i64 fun (j : Nat) => (S.at' x3 j).2.1,
 Col.int IntKind.i64 fun (j : Nat) => (S.at' x3 j).2.2.1,
 Col.int IntKind.i64 fun (j : Nat) => (S.at' x3 j).2.2.2.1,
 Col.int IntKind.i64 fun (j : Nat) =>
 (S.at' x3 j).2.2.2.2.1,
 Col.int IntKind.i64 fun (j : Nat) =>
 (S.at' x3 j).2.2.2.2.2]))], [(0, (false, .cols mq [.str tq, .int .i64 vq, .int .i64 gq]))]], 4⟩ (proj 1 [7, 8, 9, 11, 29, 30, 31, 39, 40, 41] Kst Kret) =
  T27_0 test Kst Kret aq nq mq tq vq gq de st x0 x1 x2 x3 := by kernel_rfl
noncomputable def T27_1 (test : Bool → Prop → Prop → Prop) (Kst : KS) (Kret : KR) (aq nq mq : Nat) (tq : Nat → ByteArray) (vq : Nat → Int) (gq : Nat → Int) (de : Int) (st : Int) (x0 : Int) (x1 : Nat) (x2 : Nat) (x3 : Int) (x4 : Int) (x5 : List (Int × Int × Int)) (x6 : List Bool) (x7 : Int) (x8 : Int) (x9 : Int) (x10 : List (Int × Int × Int × Int × Int × Int)) : Prop :=
  test (decide (x4 < x3))
 (test (decide ((0 : Int) ≤ x4 ∧ x4 < (↑x2 : Int)))
 (test (decide (Int.toNat x4 + x1 < List.length x5))
 (test (decide (Int.toNat x4 + x1 < List.length x5))
 (test (decide (Int.toNat x4 + x1 < List.length x5))
 (test (decide
 (2 ≤ 2 ∧
 2 ≤ 1000000 ∧ 0 + List.length x6 ≤ List.length x6 ∧ List.length x6 ≤ 1000000))
 (test (S.safB (List.length x6) (fun (j : Nat) => S.at' x6 j) (2)
 (fun (j : Nat) => S.lit [x7, (S.at' x5 (Int.toNat x4 + x1)).1] (0 : Int) j)
 (fun (j : Nat) => S.lit [x8, (S.at' x5 (Int.toNat x4 + x1)).2.1] (0 : Int) j)
 fun (j : Nat) => S.lit [x9, (S.at' x5 (Int.toNat x4 + x1)).2.2] (0 : Int) j)
 (test (lim IntKind.i64 (x4 + (1 : Int)))
 (Kst (hd Try.f27 1) ([PV.own (4) (6) (List.length x10), PV.own (1) (3) (List.length x5),
 PV.own (2) (1) (List.length x6),
 PV.ptr (PA.mk (3) (0) (0) (0)),
 PV.own (1) (3) (List.length x5),
 PV.int IntKind.i64 (↑(List.length (S.failL nq)) : Int), PV.int IntKind.i64 x0,
 PV.loose (PA.mk (1) (3) x1 (0)) x2, PV.int IntKind.i64 x3,
 PV.int IntKind.i64 (x4 + (1 : Int))]) ([[(0, false,
 Blk.cols mq [Col.str tq, Col.int IntKind.i64 vq, Col.int IntKind.i64 gq]),
 (1, true,
 Blk.cols (List.length x5)
 [Col.int IntKind.i64 fun (j : Nat) => (S.at' x5 j).1,
 Col.int IntKind.i64 fun (j : Nat) => (S.at' x5 j).2.1,
 Col.int IntKind.i64 fun (j : Nat) => (S.at' x5 j).2.2]),
 (3, true,
 Blk.cells [PV.int IntKind.i64 x7, PV.int IntKind.i64 x8, PV.int IntKind.i64 x9]),
 (2, true, Blk.cols (List.length x6) [Col.bool fun (j : Nat) => S.at' x6 j]),
 (4, true,
 Blk.cols (List.length x10)
 [Col.int IntKind.i64 fun (j : Nat) => (S.at' x10 j).1,
 Col.int IntKind.i64 fun (j : Nat) => (S.at' x10 j).2.1,
 Col.int IntKind.i64 fun (j : Nat) => (S.at' x10 j).2.2.1,
 Col.int IntKind.i64 fun (j : Nat) => (S.at' x10 j).2.2.2.1,
 Col.int IntKind.i64 fun (j : Nat) =>
 (S.at' x10 j).2.2.2.2.1,
 Col.int IntKind.i64 fun (j : Nat) =>
 (S.at' x10 j).2.2.2.2.2])]]) (8))
 (False))
 (test (decide (List.length x10 + 1 ≤ 1000000))
 (test (decide (List.length x10 ≤ List.length x10))
 (test (true)
 (test (lim IntKind.i64 (x4 + (1 : Int)))
 (Kst (hd Try.f27 1) ([PV.own (9) (6) (List.length x10 + 1),
 PV.own (1) (3) (List.length x5), PV.own (2) (1) (List.length x6),
 PV.ptr (PA.mk (3) (0) (0) (0)),
 PV.own (1) (3) (List.length x5),
 PV.int IntKind.i64 (↑(List.length (S.failL nq)) : Int), PV.int IntKind.i64 x0,
 PV.loose (PA.mk (1) (3) x1 (0)) x2, PV.int IntKind.i64 x3,
 PV.int IntKind.i64 (x4 + (1 : Int))]) ([[(0, false,
 Blk.cols mq [Col.str tq, Col.int IntKind.i64 vq, Col.int IntKind.i64 gq]),
 (1, true,
 Blk.cols (List.length x5)
 [Col.int IntKind.i64 fun (j : Nat) => (S.at' x5 j).1,
 Col.int IntKind.i64 fun (j : Nat) => (S.at' x5 j).2.1,
 Col.int IntKind.i64 fun (j : Nat) => (S.at' x5 j).2.2]),
 (3, true,
 Blk.cells [PV.int IntKind.i64 x7, PV.int IntKind.i64 x8, PV.int IntKind.i64 x9]),
 (2, true, Blk.cols (List.length x6) [Col.bool fun (j : Nat) => S.at' x6 j]),
 (9, true,
 Blk.cols (List.length x10 + 1)
 [Col.int IntKind.i64 fun (j : Nat) =>
 bif Nat.blt j (List.length x10) then (S.at' x10 j).1 else x7,
 Col.int IntKind.i64 fun (j : Nat) =>
 bif Nat.blt j (List.length x10) then (S.at' x10 j).2.1 else x8,
 Col.int IntKind.i64 fun (j : Nat) =>
 bif Nat.blt j (List.length x10) then (S.at' x10 j).2.2.1 else x9,
 Col.int IntKind.i64 fun (j : Nat) =>
 bif Nat.blt j (List.length x10) then (S.at' x10 j).2.2.2.1
 else (S.at' x5 (Int.toNat x4 + x1)).1,
 Col.int IntKind.i64 fun (j : Nat) =>
 bif Nat.blt j (List.length x10) then
 (S.at' x10 j).2.2.2.2.1
 else (S.at' x5 (Int.toNat x4 + x1)).2.1,
 Col.int IntKind.i64 fun (j : Nat) =>
 bif Nat.blt j (List.length x10) then
 (S.at' x10 j).2.2.2.2.2
 else (S.at' x5 (Int.toNat x4 + x1)).2.2])]]) (10))
 (False))
 (False))
 (False))
 (False)))
 (False))
 (False))
 (False))
 (False))
 (False))
 (test (lim IntKind.i64 (x0 + (1 : Int)))
 (Kst (hd Try.f27 0) ([PV.own (4) (6) (List.length x10), PV.own (1) (3) (List.length x5),
 PV.own (2) (1) (List.length x6),
 PV.ptr (PA.mk (3) (0) (0) (0)),
 PV.own (1) (3) (List.length x5),
 PV.int IntKind.i64 (↑(List.length (S.failL nq)) : Int), PV.int IntKind.i64 (x0 + (1 : Int)),
 PV.loose (PA.mk (1) (3) x1 (0)) x2, PV.int IntKind.i64 x3,
 PV.int IntKind.i64 x4]) ([[(0, false,
 Blk.cols mq [Col.str tq, Col.int IntKind.i64 vq, Col.int IntKind.i64 gq]),
 (1, true,
 Blk.cols (List.length x5)
 [Col.int IntKind.i64 fun (j : Nat) => (S.at' x5 j).1,
 Col.int IntKind.i64 fun (j : Nat) => (S.at' x5 j).2.1,
 Col.int IntKind.i64 fun (j : Nat) => (S.at' x5 j).2.2]),
 (3, true,
 Blk.cells [PV.int IntKind.i64 x7, PV.int IntKind.i64 x8, PV.int IntKind.i64 x9]),
 (2, true, Blk.cols (List.length x6) [Col.bool fun (j : Nat) => S.at' x6 j]),
 (4, true,
 Blk.cols (List.length x10)
 [Col.int IntKind.i64 fun (j : Nat) => (S.at' x10 j).1,
 Col.int IntKind.i64 fun (j : Nat) => (S.at' x10 j).2.1,
 Col.int IntKind.i64 fun (j : Nat) => (S.at' x10 j).2.2.1,
 Col.int IntKind.i64 fun (j : Nat) => (S.at' x10 j).2.2.2.1,
 Col.int IntKind.i64 fun (j : Nat) =>
 (S.at' x10 j).2.2.2.2.1,
 Col.int IntKind.i64 fun (j : Nat) =>
 (S.at' x10 j).2.2.2.2.2])]]) (5))
 (False))
set_option maxRecDepth 100000 in
theorem t27_1 (test : Bool → Prop → Prop → Prop) (Kst : KS) (Kret : KR) (aq nq mq : Nat) (tq : Nat → ByteArray) (vq : Nat → Int) (gq : Nat → Int) (de : Int) (st : Int) (x0 : Int) (x1 : Nat) (x2 : Nat) (x3 : Int) (x4 : Int) (x5 : List (Int × Int × Int)) (x6 : List Bool) (x7 : Int) (x8 : Int) (x9 : Int) (x10 : List (Int × Int × Int × Int × Int × Int)) : run test Try.env true (xZ test) true 400 ⟨27, hd Try.f27 1, zipT [7, 8, 9, 11, 29, 30, 31, 39, 40, 41] [PV.own (4) (6) (List.length x10), PV.own (1) (3) (List.length x5),
 PV.own (2) (1) (List.length x6),
 PV.ptr (PA.mk (3) (0) (0) (0)),
 PV.own (1) (3) (List.length x5),
 PV.int IntKind.i64 (↑(List.length (S.failL nq)) : Int), PV.int IntKind.i64 x0,
 PV.loose (PA.mk (1) (3) x1 (0)) x2, PV.int IntKind.i64 x3,
 PV.int IntKind.i64 x4], [[(1, (true, Blk.cols (List.length x5)
 [Col.int IntKind.i64 fun (j : Nat) => (S.at' x5 j).1,
 Col.int IntKind.i64 fun (j : Nat) => (S.at' x5 j).2.1,
 Col.int IntKind.i64 fun (j : Nat) => (S.at' x5 j).2.2])), (2, (true, Blk.cols (List.length x6) [Col.bool fun (j : Nat) => S.at' x6 j])), (3, (true, Blk.cells [PV.int IntKind.i64 x7, PV.int IntKind.i64 x8, PV.int IntKind.i64 x9])), (4, (true, Blk.cols (List.length x10)
 [Col.int IntKind.i64 fun (j : Nat) => (S.at' x10 j).1,
 Col.int IntKind.i64 fun (j : Nat) => (S.at' x10 j).2.1,
 Col.int IntKind.i64 fun (j : Nat) => (S.at' x10 j).2.2.1,
 Col.int IntKind.i64 fun (j : Nat) => (S.at' x10 j).2.2.2.1,
 Col.int IntKind.i64 fun (j : Nat) =>
 (S.at' x10 j).2.2.2.2.1,
 Col.int IntKind.i64 fun (j : Nat) =>
 (S.at' x10 j).2.2.2.2.2]))], [(0, (false, .cols mq [.str tq, .int .i64 vq, .int .i64 gq]))]], 5⟩ (proj 1 [7, 8, 9, 11, 29, 30, 31, 39, 40, 41] Kst Kret) =
  T27_1 test Kst Kret aq nq mq tq vq gq de st x0 x1 x2 x3 x4 x5 x6 x7 x8 x9 x10 := by kernel_rfl
set_option maxRecDepth 100000 in
theorem be27 (aq nq mq : Nat) (tq : Nat → ByteArray) (vq : Nat → Int) (gq : Nat → Int) (de : Int) (st : Int) (Kst : KS) (Kret : KR) (x : St27 ⊕ Rt27) (hS : HS 1 400 ((I27 aq nq mq tq vq gq de st)) Kst x) (hR : HR 1 400 ((V27 aq nq mq tq vq gq de st)) (fun r => [newL (1 + 1) ((N27 aq nq mq tq vq gq de st) r) ++ [(0, (false, .cols mq [.str tq, .int .i64 vq, .int .i64 gq]))]]) Kret x) (h : (bif (decide (aq + nq ≤ mq ∧ nq ≤ 1000000))
 then (bif (S.netE nq (fun (j : Nat) => tq (j + aq)) (fun (j : Nat) => vq (j + aq)) (fun (j : Nat) => gq (j + aq)) de !=
 (0 : Int))
 then (some (.inr (S.netE nq (fun (j : Nat) => tq (j + aq)) (fun (j : Nat) => vq (j + aq)) (fun (j : Nat) => gq (j + aq)) de, [])))
 else (bif (decide (nq ≤ 1000000))
 then (bif (decide ((0 : Int) ≤ st ∧ st < (↑nq : Int)))
 then (bif (decide (nq ≤ 100000))
 then (bif (decide
 (1 ≤ 1 ∧
 1 ≤ 1000000 ∧
 nq ≤ 1000 ∧
 S.all
 (fun (j : Nat) =>
 decide ((0 : Int) ≤ S.lit [st] (0 : Int) j ∧ S.lit [st] (0 : Int) j < (↑nq : Int)))
 (1) =
 true))
 then (some (.inl (.h0 ((0 : Int)) (S.failL nq) (S.mkl nq fun (r : Nat) =>
 !S.any (fun (j : Nat) => decide (S.lit [st] (0 : Int) j = (↑r : Int))) (1)) ([]))))
 else (none))
 else (none))
 else (some (.inr ((6 : Int), []))))
 else (none)))
 else (none) : Option (St27 ⊕ Rt27)) = some x) : Te27 cond Kst Kret aq nq mq tq vq gq de st := by
  unfold Te27
  exact bif_split h
   (fun c0 h => bif_split h
   (fun c1 h => ret_at hR _ h (fun n => bif Nat.beq n 2 then 399 else n) rfl rfl rfl (rn_tup ⟨(rn_own_nils rfl), (rn_int rfl), trivial⟩) rfl (entl_fresh (use_own rfl) (fresh_ok rfl) (entl_bor (use_lo rfl) rfl rfl entl_nil)))
   (fun c1 h => bif_split h
   (fun c2 h => bif_split h
   (fun c3 h => bif_split h
   (fun c4 h => bif_split h
   (fun c5 h => stop_at hS _ h (fun n => bif Nat.beq n 1 then 5 else bif Nat.beq n 2 then 8 else bif Nat.beq n 3 then 399 else n) rfl rfl rfl ⟨(rn_own_nils rfl), ⟨(rn_own (use_own rfl) rfl rfl), ⟨(rn_own (use_own rfl) rfl rfl), ⟨(rn_unk _), ⟨(rn_own (use_own rfl) rfl rfl), ⟨(rn_int rfl), ⟨(rn_int rfl), ⟨(rn_unk _), ⟨(rn_unk _), ⟨(rn_unk _), trivial⟩⟩⟩⟩⟩⟩⟩⟩⟩⟩ rfl (entl_new (use_own rfl) rfl (Nat.le_of_eq rfl) (rcs_int (fun _ _ => rfl) (rcs_int (fun _ _ => rfl) (rcs_int (fun _ _ => rfl) rcs_nil))) (entl_new (use_own rfl) rfl (Nat.le_of_eq rfl) (rcs_bool (fun _ _ => rfl) rcs_nil) (entl_fresh (use_own rfl) (fresh_ok rfl) (entl_bor (use_lo rfl) rfl rfl entl_nil)))))
   (fun c5 h => no_some h))
   (fun c4 h => no_some h))
   (fun c3 h => ret_at hR _ h (fun n => bif Nat.beq n 2 then 399 else n) rfl rfl rfl (rn_tup ⟨(rn_own_nils rfl), (rn_int rfl), trivial⟩) rfl (entl_fresh (use_own rfl) (fresh_ok rfl) (entl_bor (use_lo rfl) rfl rfl entl_nil))))
   (fun c2 h => no_some h)))
   (fun c0 h => no_some h)
set_option maxRecDepth 100000 in
theorem b27_0 (aq nq mq : Nat) (tq : Nat → ByteArray) (vq : Nat → Int) (gq : Nat → Int) (de : Int) (st : Int) (Kst : KS) (Kret : KR) (x : St27 ⊕ Rt27) (hS : HS 1 400 ((I27 aq nq mq tq vq gq de st)) Kst x) (hR : HR 1 400 ((V27 aq nq mq tq vq gq de st)) (fun r => [newL (1 + 1) ((N27 aq nq mq tq vq gq de st) r) ++ [(0, (false, .cols mq [.str tq, .int .i64 vq, .int .i64 gq]))]]) Kret x) (x0 : Int) (x1 : List (Int × Int × Int)) (x2 : List Bool) (x3 : List (Int × Int × Int × Int × Int × Int)) (h : (bif (decide (x0 < (↑(List.length (S.failL nq)) : Int)))
 then (bif (decide ((0 : Int) ≤ x0 ∧ x0 < (↑(List.length x1) : Int)))
 then (bif (decide (Int.toNat x0 < List.length x1))
 then (bif (lim IntKind.i64 (x0 + (1 : Int)))
 then (bif (decide
 ((0 : Int) ≤ x0 + (1 : Int) ∧
 x0 + (1 : Int) ≤ (↑(List.length x1) : Int) ∧ (↑(List.length x1) : Int) ≤ (↑(List.length x1) : Int)))
 then (some (.inl (.h1 (x0) (Int.toNat (x0 + (1 : Int))) (List.length x1 - Int.toNat (x0 + (1 : Int))) ((↑(List.length x1 - Int.toNat (x0 + (1 : Int))) : Int)) ((0 : Int)) (x1) (x2) ((S.at' x1 (Int.toNat x0)).1) ((S.at' x1 (Int.toNat x0)).2.1) ((S.at' x1 (Int.toNat x0)).2.2) (x3))))
 else (none))
 else (none))
 else (none))
 else (none))
 else (some (.inr ((0 : Int), x3))) : Option (St27 ⊕ Rt27)) = some x) : T27_0 cond Kst Kret aq nq mq tq vq gq de st x0 x1 x2 x3 := by
  unfold T27_0
  exact bif_split h
   (fun c0 h => bif_split h
   (fun c1 h => bif_split h
   (fun c2 h => cond_yes c2 (cond_yes c2 (bif_split h
   (fun c3 h => bif_split h
   (fun c4 h => stop_at hS _ h (fun n => bif Nat.beq n 1 then 1 else bif Nat.beq n 2 then 2 else bif Nat.beq n 3 then 4 else bif Nat.beq n 4 then 3 else n) rfl rfl rfl ⟨(rn_own (use_own rfl) rfl rfl), ⟨(rn_own (use_own rfl) rfl rfl), ⟨(rn_own (use_own rfl) rfl rfl), ⟨(rn_ptr (use_own rfl) rfl rfl), ⟨(rn_own (use_own rfl) rfl rfl), ⟨(rn_int rfl), ⟨(rn_int rfl), ⟨(rn_loose (use_own rfl) rfl rfl rfl), ⟨(rn_int rfl), ⟨(rn_int rfl), trivial⟩⟩⟩⟩⟩⟩⟩⟩⟩⟩ rfl (entl_new (use_own rfl) rfl (Nat.le_of_eq rfl) (rcs_int (fun _ _ => rfl) (rcs_int (fun _ _ => rfl) (rcs_int (fun _ _ => rfl) rcs_nil))) (entl_new (use_own rfl) rfl (Nat.le_of_eq rfl) (rcs_bool (fun _ _ => rfl) rcs_nil) (entl_b (use_own rfl) rfl (by simp) (rb_cells ⟨(rn_int rfl), (rn_int rfl), (rn_int rfl), trivial⟩) (entl_new (use_own rfl) rfl (Nat.le_of_eq rfl) (rcs_int (fun _ _ => rfl) (rcs_int (fun _ _ => rfl) (rcs_int (fun _ _ => rfl) (rcs_int (fun _ _ => rfl) (rcs_int (fun _ _ => rfl) (rcs_int (fun _ _ => rfl) rcs_nil)))))) (entl_bor (use_lo rfl) rfl rfl entl_nil))))))
   (fun c4 h => no_some h))
   (fun c3 h => no_some h))))
   (fun c2 h => no_some h))
   (fun c1 h => no_some h))
   (fun c0 h => ret_at hR _ h (fun n => bif Nat.beq n 2 then 3 else n) rfl rfl rfl (rn_tup ⟨(rn_own (use_own rfl) rfl rfl), (rn_int rfl), trivial⟩) rfl (entl_new (use_own rfl) rfl (Nat.le_of_eq rfl) (rcs_int (fun _ _ => rfl) (rcs_int (fun _ _ => rfl) (rcs_int (fun _ _ => rfl) (rcs_int (fun _ _ => rfl) (rcs_int (fun _ _ => rfl) (rcs_int (fun _ _ => rfl) rcs_nil)))))) (entl_bor (use_lo rfl) rfl rfl entl_nil)))
set_option maxRecDepth 100000 in
theorem b27_1 (aq nq mq : Nat) (tq : Nat → ByteArray) (vq : Nat → Int) (gq : Nat → Int) (de : Int) (st : Int) (Kst : KS) (Kret : KR) (x : St27 ⊕ Rt27) (hS : HS 1 400 ((I27 aq nq mq tq vq gq de st)) Kst x) (hR : HR 1 400 ((V27 aq nq mq tq vq gq de st)) (fun r => [newL (1 + 1) ((N27 aq nq mq tq vq gq de st) r) ++ [(0, (false, .cols mq [.str tq, .int .i64 vq, .int .i64 gq]))]]) Kret x) (x0 : Int) (x1 : Nat) (x2 : Nat) (x3 : Int) (x4 : Int) (x5 : List (Int × Int × Int)) (x6 : List Bool) (x7 : Int) (x8 : Int) (x9 : Int) (x10 : List (Int × Int × Int × Int × Int × Int)) (h : (bif (decide (x4 < x3))
 then (bif (decide ((0 : Int) ≤ x4 ∧ x4 < (↑x2 : Int)))
 then (bif (decide (Int.toNat x4 + x1 < List.length x5))
 then (bif (decide
 (2 ≤ 2 ∧
 2 ≤ 1000000 ∧ 0 + List.length x6 ≤ List.length x6 ∧ List.length x6 ≤ 1000000))
 then (bif (S.safB (List.length x6) (fun (j : Nat) => S.at' x6 j) (2)
 (fun (j : Nat) => S.lit [x7, (S.at' x5 (Int.toNat x4 + x1)).1] (0 : Int) j)
 (fun (j : Nat) => S.lit [x8, (S.at' x5 (Int.toNat x4 + x1)).2.1] (0 : Int) j)
 fun (j : Nat) => S.lit [x9, (S.at' x5 (Int.toNat x4 + x1)).2.2] (0 : Int) j)
 then (bif (lim IntKind.i64 (x4 + (1 : Int)))
 then (some (.inl (.h1 (x0) (x1) (x2) (x3) (x4 + (1 : Int)) (x5) (x6) (x7) (x8) (x9) (x10))))
 else (none))
 else (bif (decide (List.length x10 + 1 ≤ 1000000))
 then (bif (decide (List.length x10 ≤ List.length x10))
 then (bif (lim IntKind.i64 (x4 + (1 : Int)))
 then (some (.inl (.h1 (x0) (x1) (x2) (x3) (x4 + (1 : Int)) (x5) (x6) (x7) (x8) (x9) (S.snoc x10
 (x7, x8, x9, (S.at' x5 (Int.toNat x4 + x1)).1, (S.at' x5 (Int.toNat x4 + x1)).2.1,
 (S.at' x5 (Int.toNat x4 + x1)).2.2)))))
 else (none))
 else (none))
 else (none)))
 else (none))
 else (none))
 else (none))
 else (bif (lim IntKind.i64 (x0 + (1 : Int)))
 then (some (.inl (.h0 (x0 + (1 : Int)) (x5) (x6) (x10))))
 else (none)) : Option (St27 ⊕ Rt27)) = some x) : T27_1 cond Kst Kret aq nq mq tq vq gq de st x0 x1 x2 x3 x4 x5 x6 x7 x8 x9 x10 := by
  unfold T27_1
  exact bif_split h
   (fun c0 h => bif_split h
   (fun c1 h => bif_split h
   (fun c2 h => cond_yes c2 (cond_yes c2 (bif_split h
   (fun c3 h => bif_split h
   (fun c4 h => bif_split h
   (fun c5 h => stop_at hS _ h (fun n => bif Nat.beq n 1 then 1 else bif Nat.beq n 2 then 2 else bif Nat.beq n 3 then 3 else bif Nat.beq n 4 then 4 else n) rfl rfl rfl ⟨(rn_own (use_own rfl) rfl rfl), ⟨(rn_own (use_own rfl) rfl rfl), ⟨(rn_own (use_own rfl) rfl rfl), ⟨(rn_ptr (use_own rfl) rfl rfl), ⟨(rn_own (use_own rfl) rfl rfl), ⟨(rn_int rfl), ⟨(rn_int rfl), ⟨(rn_loose (use_own rfl) rfl rfl rfl), ⟨(rn_int rfl), ⟨(rn_int rfl), trivial⟩⟩⟩⟩⟩⟩⟩⟩⟩⟩ rfl (entl_new (use_own rfl) rfl (Nat.le_of_eq rfl) (rcs_int (fun _ _ => rfl) (rcs_int (fun _ _ => rfl) (rcs_int (fun _ _ => rfl) rcs_nil))) (entl_new (use_own rfl) rfl (Nat.le_of_eq rfl) (rcs_bool (fun _ _ => rfl) rcs_nil) (entl_b (use_own rfl) rfl (by simp) (rb_cells ⟨(rn_int rfl), (rn_int rfl), (rn_int rfl), trivial⟩) (entl_new (use_own rfl) rfl (Nat.le_of_eq rfl) (rcs_int (fun _ _ => rfl) (rcs_int (fun _ _ => rfl) (rcs_int (fun _ _ => rfl) (rcs_int (fun _ _ => rfl) (rcs_int (fun _ _ => rfl) (rcs_int (fun _ _ => rfl) rcs_nil)))))) (entl_bor (use_lo rfl) rfl rfl entl_nil))))))
   (fun c5 h => no_some h))
   (fun c4 h => bif_split h
   (fun c5 h => bif_split h
   (fun c6 h => cond_yes rfl (bif_split h
   (fun c7 h => stop_at hS _ h (fun n => bif Nat.beq n 1 then 1 else bif Nat.beq n 2 then 2 else bif Nat.beq n 3 then 3 else bif Nat.beq n 4 then 9 else n) rfl rfl rfl ⟨(rn_own (use_own rfl) rfl (snoc_len' rfl)), ⟨(rn_own (use_own rfl) rfl rfl), ⟨(rn_own (use_own rfl) rfl rfl), ⟨(rn_ptr (use_own rfl) rfl rfl), ⟨(rn_own (use_own rfl) rfl rfl), ⟨(rn_int rfl), ⟨(rn_int rfl), ⟨(rn_loose (use_own rfl) rfl rfl rfl), ⟨(rn_int rfl), ⟨(rn_int rfl), trivial⟩⟩⟩⟩⟩⟩⟩⟩⟩⟩ rfl (entl_new (use_own rfl) rfl (Nat.le_of_eq rfl) (rcs_int (fun _ _ => rfl) (rcs_int (fun _ _ => rfl) (rcs_int (fun _ _ => rfl) rcs_nil))) (entl_new (use_own rfl) rfl (Nat.le_of_eq rfl) (rcs_bool (fun _ _ => rfl) rcs_nil) (entl_b (use_own rfl) rfl (by simp) (rb_cells ⟨(rn_int rfl), (rn_int rfl), (rn_int rfl), trivial⟩) (entl_new (use_own rfl) rfl (Nat.le_of_eq (snoc_len' rfl)) (rcs_int (col_snoc' (fun (t : Int × Int × Int × Int × Int × Int) => t.1) rfl (fun _ _ => rfl)) (rcs_int (col_snoc' (fun (t : Int × Int × Int × Int × Int × Int) => t.2.1) rfl (fun _ _ => rfl)) (rcs_int (col_snoc' (fun (t : Int × Int × Int × Int × Int × Int) => t.2.2.1) rfl (fun _ _ => rfl)) (rcs_int (col_snoc' (fun (t : Int × Int × Int × Int × Int × Int) => t.2.2.2.1) rfl (fun _ _ => rfl)) (rcs_int (col_snoc' (fun (t : Int × Int × Int × Int × Int × Int) => t.2.2.2.2.1) rfl (fun _ _ => rfl)) (rcs_int (col_snoc' (fun (t : Int × Int × Int × Int × Int × Int) => t.2.2.2.2.2) rfl (fun _ _ => rfl)) rcs_nil)))))) (entl_bor (use_lo rfl) rfl rfl entl_nil))))))
   (fun c7 h => no_some h)))
   (fun c6 h => no_some h))
   (fun c5 h => no_some h)))
   (fun c3 h => no_some h))))
   (fun c2 h => no_some h))
   (fun c1 h => no_some h))
   (fun c0 h => bif_split h
   (fun c1 h => stop_at hS _ h (fun n => bif Nat.beq n 1 then 1 else bif Nat.beq n 2 then 2 else bif Nat.beq n 3 then 4 else n) rfl rfl rfl ⟨(rn_own (use_own rfl) rfl rfl), ⟨(rn_own (use_own rfl) rfl rfl), ⟨(rn_own (use_own rfl) rfl rfl), ⟨(rn_unk _), ⟨(rn_own (use_own rfl) rfl rfl), ⟨(rn_int rfl), ⟨(rn_int rfl), ⟨(rn_unk _), ⟨(rn_unk _), ⟨(rn_unk _), trivial⟩⟩⟩⟩⟩⟩⟩⟩⟩⟩ rfl (entl_new (use_own rfl) rfl (Nat.le_of_eq rfl) (rcs_int (fun _ _ => rfl) (rcs_int (fun _ _ => rfl) (rcs_int (fun _ _ => rfl) rcs_nil))) (entl_new (use_own rfl) rfl (Nat.le_of_eq rfl) (rcs_bool (fun _ _ => rfl) rcs_nil) (entl_new (use_own rfl) rfl (Nat.le_of_eq rfl) (rcs_int (fun _ _ => rfl) (rcs_int (fun _ _ => rfl) (rcs_int (fun _ _ => rfl) (rcs_int (fun _ _ => rfl) (rcs_int (fun _ _ => rfl) (rcs_int (fun _ _ => rfl) rcs_nil)))))) (entl_bor (use_lo rfl) rfl rfl entl_nil)))))
   (fun c1 h => no_some h))
theorem a27 (aq nq mq : Nat) (tq : Nat → ByteArray) (vq : Nat → Int) (gq : Nat → Int) (de : Int) (st : Int) {r : Rt27} (h : Goes ((q27 aq nq mq tq vq gq de st)) ((p27 aq nq mq tq vq gq de st)) r) : CallR Try.prog 27 [.agg [.loose ⟨0, 3, aq, 0⟩ nq, .int .i64 de], .int .i64 st] [[(0, (false, .cols mq [.str tq, .int .i64 vq, .int .i64 gq]))]] 1 ((V27 aq nq mq tq vq gq de st) r) ((fun r => [newL (1 + 1) ((N27 aq nq mq tq vq gq de st) r) ++ [(0, (false, .cols mq [.str tq, .int .i64 vq, .int .i64 gq]))]]) r) 400 ∧ ∃ F, Try.prog.funcs[27]? = some F ∧ F.body.isSome = true ∧ (F.name == "runtime.NumGoroutine") = false := by
  refine dec_calls (f := 27) (lo := 1) (hi := 400) (H := [[(0, (false, .cols mq [.str tq, .int .i64 vq, .int .i64 gq]))]]) (args := [.agg [.loose ⟨0, 3, aq, 0⟩ nq, .int .i64 de], .int .i64 st]) Try.envOk Try.mixed xZ_ok ((I27 aq nq mq tq vq gq de st)) ((V27 aq nq mq tq vq gq de st)) (fun r => [newL (1 + 1) ((N27 aq nq mq tq vq gq de st) r) ++ [(0, (false, .cols mq [.str tq, .int .i64 vq, .int .i64 gq]))]]) (fn := mkFn Try.f27) (ts := [7, 8, 9, 11, 29, 30, 31, 39, 40, 41]) (n := 400) rfl (by decide) (by simp) (names_of rfl) ?_ ?_ ?_ h
  · intro s; cases s <;> exact ⟨hd_ok _ _, by simp [I27], names_of rfl, Nat.le_of_ble_eq_true rfl⟩
  · intro Kst Kret x hS hR h
    exact Holds.eq (te27 cond Kst Kret aq nq mq tq vq gq de st) (be27 aq nq mq tq vq gq de st Kst Kret x hS hR h)
  · intro Kst Kret x hS hR s h
    cases s with
    | h0 x0 x1 x2 x3 => exact Holds.eq (t27_0 cond Kst Kret aq nq mq tq vq gq de st x0 x1 x2 x3) (b27_0 aq nq mq tq vq gq de st Kst Kret x hS hR x0 x1 x2 x3 h)
    | h1 x0 x1 x2 x3 x4 x5 x6 x7 x8 x9 x10 => exact Holds.eq (t27_1 cond Kst Kret aq nq mq tq vq gq de st x0 x1 x2 x3 x4 x5 x6 x7 x8 x9 x10) (b27_1 aq nq mq tq vq gq de st Kst Kret x hS hR x0 x1 x2 x3 x4 x5 x6 x7 x8 x9 x10 h)
noncomputable def k27 : Con := ⟨27, [.agg [.list [.str, .int .i64, .int .i64], .plain (.int .i64)], .one (.plain (.int .i64))], fun (x : ((Nat × Nat × Nat × (Nat → ByteArray) × (Nat → Int) × (Nat → Int) × Unit) × Int × Unit) × Int × Unit) => (fun (aq nq mq : Nat) (tq : Nat → ByteArray) (vq : Nat → Int) (gq : Nat → Int) (de : Int) (st : Int) => decide (aq + nq ≤ mq ∧ nq ≤ 1000000)) x.1.1.1 x.1.1.2.1 x.1.1.2.2.1 x.1.1.2.2.2.1 x.1.1.2.2.2.2.1 x.1.1.2.2.2.2.2.1 x.1.2.1 x.2.1, fun (x : ((Nat × Nat × Nat × (Nat → ByteArray) × (Nat → Int) × (Nat → Int) × Unit) × Int × Unit) × Int × Unit) => (fun (aq nq mq : Nat) (tq : Nat → ByteArray) (vq : Nat → Int) (gq : Nat → Int) (de : Int) (st : Int) => (V27 aq nq mq tq vq gq de st) (S.dblE nq (S.netE nq (fun j => tq (j + aq)) (fun j => vq (j + aq)) (fun j => gq (j + aq)) de) st)) x.1.1.1 x.1.1.2.1 x.1.1.2.2.1 x.1.1.2.2.2.1 x.1.1.2.2.2.2.1 x.1.1.2.2.2.2.2.1 x.1.2.1 x.2.1, fun (x : ((Nat × Nat × Nat × (Nat → ByteArray) × (Nat → Int) × (Nat → Int) × Unit) × Int × Unit) × Int × Unit) => (fun (aq nq mq : Nat) (tq : Nat → ByteArray) (vq : Nat → Int) (gq : Nat → Int) (de : Int) (st : Int) => (N27 aq nq mq tq vq gq de st) (S.dblE nq (S.netE nq (fun j => tq (j + aq)) (fun j => vq (j + aq)) (fun j => gq (j + aq)) de) st)) x.1.1.1 x.1.1.2.1 x.1.1.2.2.1 x.1.1.2.2.2.1 x.1.1.2.2.2.2.1 x.1.1.2.2.2.2.2.1 x.1.2.1 x.2.1, fun _ _ => .dead⟩
theorem s27i (aq nq mq : Nat) (tq : Nat → ByteArray) (vq : Nat → Int) (gq : Nat → Int) (de : Int) (st : Int) (hn : nq ≤ 12) (W : List Bool) (hW : Holds (W = S.mkl nq (fun (r : Nat) => !S.any (fun j => decide (S.lit [st] 0 j = (r : Int))) 1))) (L : List (Int × Int × Int)) (hL : L.length ≤ 62) (i : Nat) (hi : i < L.length) (hs : S.failL nq = L) (R : Rt27) (xk xl xp : Int) (hx : S.at' L i = (xk, xl, xp)) : ∀ (c j : Nat) (D : List S.P6), j + c = L.length - (i + 1) → D.length ≤ 62 * i + j → Comes (q27 aq nq mq tq vq gq de st) (.h0 (((i + 1 : Nat)) : Int) L W (S.fold (S.dblT nq st L i) (j + (i + 1)) c D)) R → Comes (q27 aq nq mq tq vq gq de st) (.h1 (i : Int) (i + 1) (L.length - (i + 1)) (((L.length - (i + 1) : Nat)) : Int) (j : Int) L W xk xl xp D) R := by
  have hwl : W.length = nq := by rw [hW.get, mkl_len]
  have htw : ∀ y : Int × Int × Int, S.safB nq (fun j => S.at' W j) 2 (fun j => S.lit [xk, y.1] 0 j) (fun j => S.lit [xl, y.2.1] 0 j) (fun j => S.lit [xp, y.2.2] 0 j) = S.twoB nq st (xk, xl, xp) y := fun y => two_eq (x := (xk, xl, xp)) (fun r hr => by
    rw [hW.get, at_mkl hr]
    exact lost_eq r)
  intro c
  induction c with
  | zero =>
    intro j D hj hD hm
    rw [Int.natCast_add, Int.natCast_one] at hm
    apply Comes.of
    show Goes _ _ _
    (first | rw [q27] | unfold q27)
    repeat' first
      | with_reducible refine goes_if (fun h => ?_) (fun h => ?_) <;> (try simp only [lim64, imp_false, decide_eq_true_eq, decide_eq_false_iff_not, Int.toNat_natCast, toNat_pred, toNat_succ, Option.getD_some, Option.getD_none, Bool.not_eq_true', Bool.not_eq_false', Bool.and_eq_true, Bool.or_eq_true, Bool.and_eq_false_iff, Bool.or_eq_false_iff, bne_iff_ne, beq_iff_eq, bne_eq_false_iff_eq, beq_eq_false_iff_ne, ne_eq, not_and, Int.not_le, Int.not_lt, ge_iff_le, gt_iff_lt, Nat.not_lt, Nat.not_le, Bool.not_eq_true, Bool.not_eq_false, Bool.true_eq_false, Bool.false_eq_true, not_false_eq_true, not_true_eq_false] at h)
      | exact goes_none.mpr (by omega)
    all_goals first | (exfalso; omega) | exact hm
  | succ c ih =>
    intro j D hj hD hm
    simp only [S.fold] at hm
    rw [show j + (i + 1) + 1 = j + 1 + (i + 1) by omega] at hm
    have eD : S.dblT nq st L i D (j + (i + 1)) = if S.twoB nq st (xk, xl, xp) (S.at' L (j + (i + 1))) = true then D else S.snoc D (xk, xl, xp, (S.at' L (j + (i + 1))).1, (S.at' L (j + (i + 1))).2.1, (S.at' L (j + (i + 1))).2.2) := by unfold S.dblT; rw [hx]
    rw [eD] at hm
    by_cases ht : S.twoB nq st (xk, xl, xp) (S.at' L (j + (i + 1))) = true
    · rw [if_pos ht] at hm
      have ih := ih (j + 1) D (by omega) (by omega) hm
      clear hm
      apply Comes.of
      show Goes _ _ _
      (first | rw [q27] | unfold q27)
      try simp only [Int.toNat_natCast, hwl, htw, ht]
      try show Goes _ _ _
      repeat' first
        | with_reducible refine goes_if (fun h => ?_) (fun h => ?_) <;> (try simp only [lim64, imp_false, decide_eq_true_eq, decide_eq_false_iff_not, Int.toNat_natCast, toNat_pred, toNat_succ, Option.getD_some, Option.getD_none, Bool.not_eq_true', Bool.not_eq_false', Bool.and_eq_true, Bool.or_eq_true, Bool.and_eq_false_iff, Bool.or_eq_false_iff, bne_iff_ne, beq_iff_eq, bne_eq_false_iff_eq, beq_eq_false_iff_ne, ne_eq, not_and, Int.not_le, Int.not_lt, ge_iff_le, gt_iff_lt, Nat.not_lt, Nat.not_le, Bool.not_eq_true, Bool.not_eq_false, Bool.true_eq_false, Bool.false_eq_true, not_false_eq_true, not_true_eq_false] at h)
        | exact goes_none.mpr (by omega)
      all_goals first | (exfalso; omega) | exact ih | (exfalso; simp_all; done)
    · rw [if_neg ht] at hm
      rw [Bool.not_eq_true] at ht
      have ih := ih (j + 1) _ (by omega) (by rw [snoc_len]; omega) hm
      clear hm
      apply Comes.of
      show Goes _ _ _
      (first | rw [q27] | unfold q27)
      try simp only [Int.toNat_natCast, hwl, htw, ht]
      try show Goes _ _ _
      repeat' first
        | with_reducible refine goes_if (fun h => ?_) (fun h => ?_) <;> (try simp only [lim64, imp_false, decide_eq_true_eq, decide_eq_false_iff_not, Int.toNat_natCast, toNat_pred, toNat_succ, Option.getD_some, Option.getD_none, Bool.not_eq_true', Bool.not_eq_false', Bool.and_eq_true, Bool.or_eq_true, Bool.and_eq_false_iff, Bool.or_eq_false_iff, bne_iff_ne, beq_iff_eq, bne_eq_false_iff_eq, beq_eq_false_iff_ne, ne_eq, not_and, Int.not_le, Int.not_lt, ge_iff_le, gt_iff_lt, Nat.not_lt, Nat.not_le, Bool.not_eq_true, Bool.not_eq_false, Bool.true_eq_false, Bool.false_eq_true, not_false_eq_true, not_true_eq_false] at h)
        | exact goes_none.mpr (by omega)
      all_goals first | (exfalso; omega) | exact ih | (exfalso; simp_all; done)
theorem s27' (aq nq mq : Nat) (tq : Nat → ByteArray) (vq : Nat → Int) (gq : Nat → Int) (de : Int) (st : Int) (hn : nq ≤ 12) (W : List Bool) (hW : Holds (W = S.mkl nq (fun (r : Nat) => !S.any (fun j => decide (S.lit [st] 0 j = (r : Int))) 1))) (L : List (Int × Int × Int)) (hL : L.length ≤ 62) (hs : S.failL nq = L) : ∀ (c i : Nat) (D : List S.P6), i + c = L.length → D.length ≤ 62 * i → Comes (q27 aq nq mq tq vq gq de st) (.h0 (i : Int) L W D) (0, S.fold (fun D i => S.fold (S.dblT nq st L i) (i + 1) (L.length - (i + 1)) D) i c D) := by
  intro c
  induction c with
  | zero =>
    intro i D hi hD
    apply Comes.of
    show Goes _ _ _
    (first | rw [q27] | unfold q27)
    try simp only [hs]
    try show Goes _ _ _
    repeat' first
      | with_reducible refine goes_if (fun h => ?_) (fun h => ?_) <;> (try simp only [lim64, imp_false, decide_eq_true_eq, decide_eq_false_iff_not, Int.toNat_natCast, toNat_pred, toNat_succ, Option.getD_some, Option.getD_none, Bool.not_eq_true', Bool.not_eq_false', Bool.and_eq_true, Bool.or_eq_true, Bool.and_eq_false_iff, Bool.or_eq_false_iff, bne_iff_ne, beq_iff_eq, bne_eq_false_iff_eq, beq_eq_false_iff_ne, ne_eq, not_and, Int.not_le, Int.not_lt, ge_iff_le, gt_iff_lt, Nat.not_lt, Nat.not_le, Bool.not_eq_true, Bool.not_eq_false, Bool.true_eq_false, Bool.false_eq_true, not_false_eq_true, not_true_eq_false] at h)
      | exact goes_none.mpr (by omega)
    all_goals first | (exfalso; omega) | exact goes_inr.mpr rfl
  | succ c ih =>
    intro i D hi hD
    have hm := s27i aq nq mq tq vq gq de st hn W hW L hL i (by omega) hs _ _ _ _ rfl (L.length - (i + 1)) 0 D (Nat.zero_add _) (by omega) (by
      rw [Nat.zero_add]
      exact ih (i + 1) _ (by omega) (by have := dbl_len (n := nq) (st := st) (L := L) (i := i) (c := L.length - (i + 1)) (k := i + 1) (D := D); omega))
    have e1 : ((i : Int) + 1).toNat = i + 1 := by omega
    apply Comes.of
    show Goes _ _ _
    (first | rw [q27] | unfold q27)
    try simp only [hs, e1, Int.toNat_natCast]
    try show Goes _ _ _
    repeat' first
      | with_reducible refine goes_if (fun h => ?_) (fun h => ?_) <;> (try simp only [lim64, imp_false, decide_eq_true_eq, decide_eq_false_iff_not, Int.toNat_natCast, toNat_pred, toNat_succ, Option.getD_some, Option.getD_none, Bool.not_eq_true', Bool.not_eq_false', Bool.and_eq_true, Bool.or_eq_true, Bool.and_eq_false_iff, Bool.or_eq_false_iff, bne_iff_ne, beq_iff_eq, bne_eq_false_iff_eq, beq_eq_false_iff_ne, ne_eq, not_and, Int.not_le, Int.not_lt, ge_iff_le, gt_iff_lt, Nat.not_lt, Nat.not_le, Bool.not_eq_true, Bool.not_eq_false, Bool.true_eq_false, Bool.false_eq_true, not_false_eq_true, not_true_eq_false] at h)
      | exact goes_none.mpr (by omega)
    all_goals first | (exfalso; omega) | exact hm
theorem s27 (aq nq mq : Nat) (tq : Nat → ByteArray) (vq : Nat → Int) (gq : Nat → Int) (de : Int) (st : Int) (hp : aq + nq ≤ mq ∧ nq ≤ 1000000) : Goes ((q27 aq nq mq tq vq gq de st)) ((p27 aq nq mq tq vq gq de st)) (S.dblE nq (S.netE nq (fun j => tq (j + aq)) (fun j => vq (j + aq)) (fun j => gq (j + aq)) de) st) := by
  unfold S.dblE
  by_cases h0 : (S.netE nq (fun j => tq (j + aq)) (fun j => vq (j + aq)) (fun j => gq (j + aq)) de) = 0
  · obtain ⟨v1, v2, v3⟩ := net_ok h0
    have hf := fail_len (n := nq)
    rw [if_pos h0]
    by_cases hs : 0 ≤ st ∧ st < (nq : Int)
    · have hm := s27' aq nq mq tq vq gq de st v1.2 _ ⟨rfl⟩ (S.failL nq) (by omega) rfl _ 0 [] (Nat.zero_add _) (Nat.zero_le _)
      have h3 : S.all (fun j => decide (0 ≤ S.lit [st] 0 j ∧ S.lit [st] 0 j < (nq : Int))) 1 = true := all_iff.mpr fun j hj => by
        obtain rfl : j = 0 := by omega
        exact decide_eq_true hs
      obtain ⟨hp1, hp2⟩ := hp
      rw [if_pos hs]
      unfold p27
      simp only [h0, h3, eq_self, and_true]
      show Goes _ _ _
      repeat' first
        | with_reducible refine goes_if (fun h => ?_) (fun h => ?_) <;> (try simp only [lim64, imp_false, decide_eq_true_eq, decide_eq_false_iff_not, Int.toNat_natCast, toNat_pred, toNat_succ, Option.getD_some, Option.getD_none, Bool.not_eq_true', Bool.not_eq_false', Bool.and_eq_true, Bool.or_eq_true, Bool.and_eq_false_iff, Bool.or_eq_false_iff, bne_iff_ne, beq_iff_eq, bne_eq_false_iff_eq, beq_eq_false_iff_ne, ne_eq, not_and, Int.not_le, Int.not_lt, ge_iff_le, gt_iff_lt, Nat.not_lt, Nat.not_le, Bool.not_eq_true, Bool.not_eq_false, Bool.true_eq_false, Bool.false_eq_true, not_false_eq_true, not_true_eq_false] at h)
        | exact goes_none.mpr (by omega)
      all_goals first | (exfalso; omega) | exact hm | (exfalso; simp_all; done)
    · obtain ⟨hp1, hp2⟩ := hp
      rw [if_neg hs]
      unfold p27
      simp only [h0]
      show Goes _ _ _
      repeat' first
        | with_reducible refine goes_if (fun h => ?_) (fun h => ?_) <;> (try simp only [lim64, imp_false, decide_eq_true_eq, decide_eq_false_iff_not, Int.toNat_natCast, toNat_pred, toNat_succ, Option.getD_some, Option.getD_none, Bool.not_eq_true', Bool.not_eq_false', Bool.and_eq_true, Bool.or_eq_true, Bool.and_eq_false_iff, Bool.or_eq_false_iff, bne_iff_ne, beq_iff_eq, bne_eq_false_iff_eq, beq_eq_false_iff_ne, ne_eq, not_and, Int.not_le, Int.not_lt, ge_iff_le, gt_iff_lt, Nat.not_lt, Nat.not_le, Bool.not_eq_true, Bool.not_eq_false, Bool.true_eq_false, Bool.false_eq_true, not_false_eq_true, not_true_eq_false] at h)
        | exact goes_none.mpr (by omega)
      all_goals first | (exfalso; omega) | exact goes_inr.mpr rfl | (exfalso; simp_all; done)
  · obtain ⟨hp1, hp2⟩ := hp
    rw [if_neg h0]
    show Goes _ _ _
    unfold p27
    repeat' first
      | with_reducible refine goes_if (fun h => ?_) (fun h => ?_) <;> (try simp only [lim64, imp_false, decide_eq_true_eq, decide_eq_false_iff_not, Int.toNat_natCast, toNat_pred, toNat_succ, Option.getD_some, Option.getD_none, Bool.not_eq_true', Bool.not_eq_false', Bool.and_eq_true, Bool.or_eq_true, Bool.and_eq_false_iff, Bool.or_eq_false_iff, bne_iff_ne, beq_iff_eq, bne_eq_false_iff_eq, beq_eq_false_iff_ne, ne_eq, not_and, Int.not_le, Int.not_lt, ge_iff_le, gt_iff_lt, Nat.not_lt, Nat.not_le, Bool.not_eq_true, Bool.not_eq_false, Bool.true_eq_false, Bool.false_eq_true, not_false_eq_true, not_true_eq_false] at h)
      | exact goes_none.mpr (by omega)
    all_goals first | (exfalso; omega) | exact goes_inr.mpr rfl | (exfalso; simp_all; done)
theorem k27_ok : k27.ok Try.prog := by
  intro x hx
  obtain ⟨⟨⟨aq, nq, mq, tq, vq, gq, _⟩, de, _⟩, st, _⟩ := x
  obtain ⟨h1, h2⟩ := a27 aq nq mq tq vq gq de st (s27 aq nq mq tq vq gq de st (of_dec hx rfl))
  exact ⟨⟨400, (by decide : 1 + 1 + 1 ≤ 400), h1⟩, h2⟩
namespace S
def abc : ByteArray := ByteArray.mk #[97, 98, 99, 100, 101, 102, 103, 104]
def nameI (i : Nat) : ByteArray := subS abc i (i + 1)
def madeL (n : Nat) (t v : Nat → Int) : List (ByteArray × Int × Int) := if n = 0 then [(nameI 0, 1, 1)] else mkl (min n 8) fun i => (nameI i, t i, v i)
def byB (t : Nat → Int) (n : Nat) : Bool := all (fun j => decide (0 ≤ t j ∧ t j ≤ 255)) n
end S
inductive St38 where
  | h0 (x0 : Int) (x1 : List (Int × Int)) (x2 : List (ByteArray × Int × Int))
  | h1 (x0 : Int) (x1 : List (ByteArray × Int × Int))
abbrev Rt38 := List (ByteArray × Int × Int)
noncomputable def V38 (al nl ml : Nat) (tl : Nat → Int) (vl : Nat → Int) (de : Int) (r : Rt38) : PV := PV.agg [PV.own (2) (3) (List.length r), PV.int IntKind.i64 de]
noncomputable def N38 (al nl ml : Nat) (tl : Nat → Int) (vl : Nat → Int) (de : Int) (r : Rt38) : List Blk := [Blk.cols (List.length r)
 [Col.str fun (j : Nat) => (S.at' r j).1,
 Col.int IntKind.i64 fun (j : Nat) => (S.at' r j).2.1,
 Col.int IntKind.i64 fun (j : Nat) => (S.at' r j).2.2]]
noncomputable def I38 (al nl ml : Nat) (tl : Nat → Int) (vl : Nat → Int) (de : Int) : St38 → Hd
  | .h0 x0 x1 x2 => ⟨hd Try.f38 0, [PV.own (1) (2) (List.length x1),
 PV.ptr (PA.mk (2) (0) (0) (0)),
 PV.ptr (PA.mk (3) (0) (0) (0)), PV.int IntKind.i64 x0], [[(1, (true, Blk.cols (List.length x1)
 [Col.int IntKind.u8 fun (j : Nat) => (S.at' x1 j).1,
 Col.int IntKind.u8 fun (j : Nat) => (S.at' x1 j).2])), (2, (true, Blk.cells [PV.nils, PV.int IntKind.i64 (0 : Int)])), (3, (true, Blk.cells [PV.own (4) (3) (List.length x2), PV.int IntKind.i64 de])), (4, (true, Blk.cols (List.length x2)
 [Col.str fun (j : Nat) => (S.at' x2 j).1,
 Col.int IntKind.i64 fun (j : Nat) => (S.at' x2 j).2.1,
 Col.int IntKind.i64 fun (j : Nat) => (S.at' x2 j).2.2]))], [(0, (false, .cols ml [.int .u8 tl, .int .u8 vl]))]], 5⟩
  | .h1 x0 x1 => ⟨hd Try.f38 0, [PV.loose (PA.mk (0) (2) al (0)) nl,
 PV.ptr (PA.mk (1) (0) (0) (0)),
 PV.ptr (PA.mk (2) (0) (0) (0)), PV.int IntKind.i64 x0], [[(1, (true, Blk.cells [PV.nils, PV.int IntKind.i64 (0 : Int)])), (2, (true, Blk.cells [PV.own (3) (3) (List.length x1), PV.int IntKind.i64 de])), (3, (true, Blk.cols (List.length x1)
 [Col.str fun (j : Nat) => (S.at' x1 j).1,
 Col.int IntKind.i64 fun (j : Nat) => (S.at' x1 j).2.1,
 Col.int IntKind.i64 fun (j : Nat) => (S.at' x1 j).2.2]))], [(0, (false, .cols ml [.int .u8 tl, .int .u8 vl]))]], 4⟩
noncomputable def q38 (al nl ml : Nat) (tl : Nat → Int) (vl : Nat → Int) (de : Int) : St38 → Option (St38 ⊕ Rt38)
  | .h0 x0 x1 x2 => bif (decide (x0 < (↑(List.length x1) : Int)))
 then (bif (decide (x0 < (8 : Int)))
 then (bif (lim IntKind.i64 (x0 + (1 : Int)))
 then (bif (decide ((0 : Int) ≤ x0 ∧ x0 ≤ x0 + (1 : Int) ∧ x0 + (1 : Int) ≤ (8 : Int)))
 then (bif (decide ((0 : Int) ≤ x0 ∧ x0 < (↑(List.length x1) : Int)))
 then (bif (decide (Int.toNat x0 < List.length x1))
 then (bif (lim IntKind.i64 ((S.at' x1 (Int.toNat x0)).1))
 then (bif (lim IntKind.i64 ((S.at' x1 (Int.toNat x0)).2))
 then (bif (decide (List.length x2 + 1 ≤ 1000000))
 then (bif (decide (List.length x2 ≤ List.length x2))
 then (some (.inl (.h0 (x0 + (1 : Int)) (x1) (S.snoc x2
 (S.subS
 (ByteArray.mk
 #[(97 : UInt8), (98 : UInt8), (99 : UInt8), (100 : UInt8), (101 : UInt8), (102 : UInt8), (103 : UInt8),
 (104 : UInt8)])
 (Int.toNat x0) (Int.toNat (x0 + (1 : Int))),
 (S.at' x1 (Int.toNat x0)).1, (S.at' x1 (Int.toNat x0)).2)))))
 else (none))
 else (none))
 else (none))
 else (none))
 else (none))
 else (none))
 else (none))
 else (none))
 else (some (.inr (x2))))
 else (some (.inr (x2)))
  | .h1 x0 x1 => bif (decide (x0 < (↑nl : Int)))
 then (bif (decide (x0 < (8 : Int)))
 then (bif (lim IntKind.i64 (x0 + (1 : Int)))
 then (bif (decide ((0 : Int) ≤ x0 ∧ x0 ≤ x0 + (1 : Int) ∧ x0 + (1 : Int) ≤ (8 : Int)))
 then (bif (decide ((0 : Int) ≤ x0 ∧ x0 < (↑nl : Int)))
 then (bif (decide (Int.toNat x0 + al < ml))
 then (bif (lim IntKind.i64 (tl (Int.toNat x0 + al)))
 then (bif (lim IntKind.i64 (vl (Int.toNat x0 + al)))
 then (bif (decide (List.length x1 + 1 ≤ 1000000))
 then (bif (decide (List.length x1 ≤ List.length x1))
 then (some (.inl (.h1 (x0 + (1 : Int)) (S.snoc x1
 (S.subS
 (ByteArray.mk
 #[(97 : UInt8), (98 : UInt8), (99 : UInt8), (100 : UInt8), (101 : UInt8), (102 : UInt8), (103 : UInt8),
 (104 : UInt8)])
 (Int.toNat x0) (Int.toNat (x0 + (1 : Int))),
 tl (Int.toNat x0 + al), vl (Int.toNat x0 + al))))))
 else (none))
 else (none))
 else (none))
 else (none))
 else (none))
 else (none))
 else (none))
 else (none))
 else (some (.inr (x1))))
 else (some (.inr (x1)))
noncomputable def p38 (al nl ml : Nat) (tl : Nat → Int) (vl : Nat → Int) (de : Int) : Option (St38 ⊕ Rt38) := bif (lim IntKind.i64 de)
 then (bif ((↑nl : Int) == (0 : Int))
 then (some (.inl (.h0 ((0 : Int)) ([((1 : Int), (1 : Int))]) ([]))))
 else (some (.inl (.h1 ((0 : Int)) ([])))))
 else (none)
noncomputable def Te38 (test : Bool → Prop → Prop → Prop) (Kst : KS) (Kret : KR) (al nl ml : Nat) (tl : Nat → Int) (vl : Nat → Int) (de : Int) : Prop :=
  test (lim IntKind.i64 de)
 (test ((↑nl : Int) == (0 : Int))
 (Kst (hd Try.f38 0) ([PV.own (3) (2) (1),
 PV.ptr (PA.mk (1) (0) (0) (0)),
 PV.ptr (PA.mk (2) (0) (0) (0)), PV.int IntKind.i64 (0 : Int)]) ([[(0, false, Blk.cols ml [Col.int IntKind.u8 tl, Col.int IntKind.u8 vl]),
 (2, true, Blk.cells [PV.nils, PV.int IntKind.i64 de]),
 (1, true, Blk.cells [PV.nils, PV.int IntKind.i64 (0 : Int)]),
 (3, true,
 Blk.cells [PV.int IntKind.u8 (1 : Int), PV.int IntKind.u8 (1 : Int)])]]) (4))
 (Kst (hd Try.f38 0) ([PV.loose (PA.mk (0) (2) al (0)) nl,
 PV.ptr (PA.mk (1) (0) (0) (0)),
 PV.ptr (PA.mk (2) (0) (0) (0)), PV.int IntKind.i64 (0 : Int)]) ([[(0, false, Blk.cols ml [Col.int IntKind.u8 tl, Col.int IntKind.u8 vl]),
 (2, true, Blk.cells [PV.nils, PV.int IntKind.i64 de]),
 (1, true, Blk.cells [PV.nils, PV.int IntKind.i64 (0 : Int)])]]) (3)))
 (False)
set_option maxRecDepth 100000 in
theorem te38 (test : Bool → Prop → Prop → Prop) (Kst : KS) (Kret : KR) (al nl ml : Nat) (tl : Nat → Int) (vl : Nat → Int) (de : Int) : run test Try.env true noX true 400 ⟨38, [.cd (mkFn Try.f38).body], argT 0 [.loose ⟨0, 2, al, 0⟩ nl, .int .u8 de], [[], [(0, (false, .cols ml [.int .u8 tl, .int .u8 vl]))]], 1⟩ (proj 1 [0, 4, 5, 6] Kst Kret) =
  Te38 test Kst Kret al nl ml tl vl de := by kernel_rfl
noncomputable def T38_0 (test : Bool → Prop → Prop → Prop) (Kst : KS) (Kret : KR) (al nl ml : Nat) (tl : Nat → Int) (vl : Nat → Int) (de : Int) (x0 : Int) (x1 : List (Int × Int)) (x2 : List (ByteArray × Int × Int)) : Prop :=
  test (decide (x0 < (↑(List.length x1) : Int)))
 (test (decide (x0 < (8 : Int)))
 (test (lim IntKind.i64 (x0 + (1 : Int)))
 (test (decide ((0 : Int) ≤ x0 ∧ x0 ≤ x0 + (1 : Int) ∧ x0 + (1 : Int) ≤ (8 : Int)))
 (test (decide ((0 : Int) ≤ x0 ∧ x0 < (↑(List.length x1) : Int)))
 (test (true)
 (test (decide (Int.toNat x0 < List.length x1))
 (test (lim IntKind.i64 ((S.at' x1 (Int.toNat x0)).1))
 (test (decide ((0 : Int) ≤ x0 ∧ x0 < (↑(List.length x1) : Int)))
 (test (true)
 (test (decide (Int.toNat x0 < List.length x1))
 (test (lim IntKind.i64 ((S.at' x1 (Int.toNat x0)).2))
 (test (decide (List.length x2 + 1 ≤ 1000000))
 (test (decide (List.length x2 ≤ List.length x2))
 (test (true)
 (test (lim IntKind.i64 (x0 + (1 : Int)))
 (Kst (hd Try.f38 0) ([PV.own (1) (2) (List.length x1),
 PV.ptr (PA.mk (2) (0) (0) (0)),
 PV.ptr (PA.mk (3) (0) (0) (0)),
 PV.int IntKind.i64 (x0 + (1 : Int))]) ([[(0, false, Blk.cols ml [Col.int IntKind.u8 tl, Col.int IntKind.u8 vl]),
 (3, true,
 Blk.cells
 [PV.own (6) (3) (List.length x2 + 1), PV.int IntKind.i64 de]),
 (2, true, Blk.cells [PV.nils, PV.int IntKind.i64 (0 : Int)]),
 (1, true,
 Blk.cols (List.length x1)
 [Col.int IntKind.u8 fun (j : Nat) => (S.at' x1 j).1,
 Col.int IntKind.u8 fun (j : Nat) => (S.at' x1 j).2]),
 (6, true,
 Blk.cols (List.length x2 + 1)
 [Col.str fun (j : Nat) =>
 bif Nat.blt j (List.length x2) then (S.at' x2 j).1
 else
 S.subS
 (ByteArray.mk
 #[(97 : UInt8), (98 : UInt8), (99 : UInt8), (100 : UInt8), (101 : UInt8), (102 : UInt8),
 (103 : UInt8), (104 : UInt8)])
 (Int.toNat x0) (Int.toNat (x0 + (1 : Int))),
 Col.int IntKind.i64 fun (j : Nat) =>
 bif Nat.blt j (List.length x2) then (S.at' x2 j).2.1
 else (S.at' x1 (Int.toNat x0)).1,
 Col.int IntKind.i64 fun (j : Nat) =>
 bif Nat.blt j (List.length x2) then (S.at' x2 j).2.2
 else (S.at' x1 (Int.toNat x0)).2])]]) (7))
 (False))
 (False))
 (False))
 (False))
 (False))
 (False))
 (False))
 (False))
 (False))
 (False))
 (False))
 (False))
 (False))
 (False))
 (Kret (PV.agg [PV.own (4) (3) (List.length x2), PV.int IntKind.i64 de]) ([[(0, false, Blk.cols ml [Col.int IntKind.u8 tl, Col.int IntKind.u8 vl]),
 (4, true,
 Blk.cols (List.length x2)
 [Col.str fun (j : Nat) => (S.at' x2 j).1,
 Col.int IntKind.i64 fun (j : Nat) => (S.at' x2 j).2.1,
 Col.int IntKind.i64 fun (j : Nat) => (S.at' x2 j).2.2])]]) (5)))
 (Kret (PV.agg [PV.own (4) (3) (List.length x2), PV.int IntKind.i64 de]) ([[(0, false, Blk.cols ml [Col.int IntKind.u8 tl, Col.int IntKind.u8 vl]),
 (4, true,
 Blk.cols (List.length x2)
 [Col.str fun (j : Nat) => (S.at' x2 j).1,
 Col.int IntKind.i64 fun (j : Nat) => (S.at' x2 j).2.1,
 Col.int IntKind.i64 fun (j : Nat) => (S.at' x2 j).2.2])]]) (5))
set_option maxRecDepth 100000 in
theorem t38_0 (test : Bool → Prop → Prop → Prop) (Kst : KS) (Kret : KR) (al nl ml : Nat) (tl : Nat → Int) (vl : Nat → Int) (de : Int) (x0 : Int) (x1 : List (Int × Int)) (x2 : List (ByteArray × Int × Int)) : run test Try.env true noX true 400 ⟨38, hd Try.f38 0, zipT [0, 4, 5, 6] [PV.own (1) (2) (List.length x1),
 PV.ptr (PA.mk (2) (0) (0) (0)),
 PV.ptr (PA.mk (3) (0) (0) (0)), PV.int IntKind.i64 x0], [[(1, (true, Blk.cols (List.length x1)
 [Col.int IntKind.u8 fun (j : Nat) => (S.at' x1 j).1,
 Col.int IntKind.u8 fun (j : Nat) => (S.at' x1 j).2])), (2, (true, Blk.cells [PV.nils, PV.int IntKind.i64 (0 : Int)])), (3, (true, Blk.cells [PV.own (4) (3) (List.length x2), PV.int IntKind.i64 de])), (4, (true, Blk.cols (List.length x2)
 [Col.str fun (j : Nat) => (S.at' x2 j).1,
 Col.int IntKind.i64 fun (j : Nat) => (S.at' x2 j).2.1,
 Col.int IntKind.i64 fun (j : Nat) => (S.at' x2 j).2.2]))], [(0, (false, .cols ml [.int .u8 tl, .int .u8 vl]))]], 5⟩ (proj 1 [0, 4, 5, 6] Kst Kret) =
  T38_0 test Kst Kret al nl ml tl vl de x0 x1 x2 := by kernel_rfl
noncomputable def T38_1 (test : Bool → Prop → Prop → Prop) (Kst : KS) (Kret : KR) (al nl ml : Nat) (tl : Nat → Int) (vl : Nat → Int) (de : Int) (x0 : Int) (x1 : List (ByteArray × Int × Int)) : Prop :=
  test (decide (x0 < (↑nl : Int)))
 (test (decide (x0 < (8 : Int)))
 (test (lim IntKind.i64 (x0 + (1 : Int)))
 (test (decide ((0 : Int) ≤ x0 ∧ x0 ≤ x0 + (1 : Int) ∧ x0 + (1 : Int) ≤ (8 : Int)))
 (test (decide ((0 : Int) ≤ x0 ∧ x0 < (↑nl : Int)))
 (test (true)
 (test (decide (Int.toNat x0 + al < ml))
 (test (lim IntKind.i64 (tl (Int.toNat x0 + al)))
 (test (decide ((0 : Int) ≤ x0 ∧ x0 < (↑nl : Int)))
 (test (true)
 (test (decide (Int.toNat x0 + al < ml))
 (test (lim IntKind.i64 (vl (Int.toNat x0 + al)))
 (test (decide (List.length x1 + 1 ≤ 1000000))
 (test (decide (List.length x1 ≤ List.length x1))
 (test (true)
 (test (lim IntKind.i64 (x0 + (1 : Int)))
 (Kst (hd Try.f38 0) ([PV.loose (PA.mk (0) (2) al (0)) nl,
 PV.ptr (PA.mk (1) (0) (0) (0)),
 PV.ptr (PA.mk (2) (0) (0) (0)),
 PV.int IntKind.i64 (x0 + (1 : Int))]) ([[(0, false, Blk.cols ml [Col.int IntKind.u8 tl, Col.int IntKind.u8 vl]),
 (2, true,
 Blk.cells
 [PV.own (5) (3) (List.length x1 + 1), PV.int IntKind.i64 de]),
 (1, true, Blk.cells [PV.nils, PV.int IntKind.i64 (0 : Int)]),
 (5, true,
 Blk.cols (List.length x1 + 1)
 [Col.str fun (j : Nat) =>
 bif Nat.blt j (List.length x1) then (S.at' x1 j).1
 else
 S.subS
 (ByteArray.mk
 #[(97 : UInt8), (98 : UInt8), (99 : UInt8), (100 : UInt8), (101 : UInt8), (102 : UInt8),
 (103 : UInt8), (104 : UInt8)])
 (Int.toNat x0) (Int.toNat (x0 + (1 : Int))),
 Col.int IntKind.i64 fun (j : Nat) =>
 bif Nat.blt j (List.length x1) then (S.at' x1 j).2.1 else tl (Int.toNat x0 + al),
 Col.int IntKind.i64 fun (j : Nat) =>
 bif Nat.blt j (List.length x1) then (S.at' x1 j).2.2 else vl (Int.toNat x0 + al)])]]) (6))
 (False))
 (False))
 (False))
 (False))
 (False))
 (False))
 (False))
 (False))
 (False))
 (False))
 (False))
 (False))
 (False))
 (False))
 (Kret (PV.agg [PV.own (3) (3) (List.length x1), PV.int IntKind.i64 de]) ([[(0, false, Blk.cols ml [Col.int IntKind.u8 tl, Col.int IntKind.u8 vl]),
 (3, true,
 Blk.cols (List.length x1)
 [Col.str fun (j : Nat) => (S.at' x1 j).1,
 Col.int IntKind.i64 fun (j : Nat) => (S.at' x1 j).2.1,
 Col.int IntKind.i64 fun (j : Nat) => (S.at' x1 j).2.2])]]) (4)))
 (Kret (PV.agg [PV.own (3) (3) (List.length x1), PV.int IntKind.i64 de]) ([[(0, false, Blk.cols ml [Col.int IntKind.u8 tl, Col.int IntKind.u8 vl]),
 (3, true,
 Blk.cols (List.length x1)
 [Col.str fun (j : Nat) => (S.at' x1 j).1,
 Col.int IntKind.i64 fun (j : Nat) => (S.at' x1 j).2.1,
 Col.int IntKind.i64 fun (j : Nat) => (S.at' x1 j).2.2])]]) (4))
set_option maxRecDepth 100000 in
theorem t38_1 (test : Bool → Prop → Prop → Prop) (Kst : KS) (Kret : KR) (al nl ml : Nat) (tl : Nat → Int) (vl : Nat → Int) (de : Int) (x0 : Int) (x1 : List (ByteArray × Int × Int)) : run test Try.env true noX true 400 ⟨38, hd Try.f38 0, zipT [0, 4, 5, 6] [PV.loose (PA.mk (0) (2) al (0)) nl,
 PV.ptr (PA.mk (1) (0) (0) (0)),
 PV.ptr (PA.mk (2) (0) (0) (0)), PV.int IntKind.i64 x0], [[(1, (true, Blk.cells [PV.nils, PV.int IntKind.i64 (0 : Int)])), (2, (true, Blk.cells [PV.own (3) (3) (List.length x1), PV.int IntKind.i64 de])), (3, (true, Blk.cols (List.length x1)
 [Col.str fun (j : Nat) => (S.at' x1 j).1,
 Col.int IntKind.i64 fun (j : Nat) => (S.at' x1 j).2.1,
 Col.int IntKind.i64 fun (j : Nat) => (S.at' x1 j).2.2]))], [(0, (false, .cols ml [.int .u8 tl, .int .u8 vl]))]], 4⟩ (proj 1 [0, 4, 5, 6] Kst Kret) =
  T38_1 test Kst Kret al nl ml tl vl de x0 x1 := by kernel_rfl
set_option maxRecDepth 100000 in
theorem be38 (al nl ml : Nat) (tl : Nat → Int) (vl : Nat → Int) (de : Int) (Kst : KS) (Kret : KR) (x : St38 ⊕ Rt38) (hS : HS 1 400 ((I38 al nl ml tl vl de)) Kst x) (hR : HR 1 400 ((V38 al nl ml tl vl de)) (fun r => [newL (1 + 1) ((N38 al nl ml tl vl de) r) ++ [(0, (false, .cols ml [.int .u8 tl, .int .u8 vl]))]]) Kret x) (h : (bif (lim IntKind.i64 de)
 then (bif ((↑nl : Int) == (0 : Int))
 then (some (.inl (.h0 ((0 : Int)) ([((1 : Int), (1 : Int))]) ([]))))
 else (some (.inl (.h1 ((0 : Int)) ([])))))
 else (none) : Option (St38 ⊕ Rt38)) = some x) : Te38 cond Kst Kret al nl ml tl vl de := by
  unfold Te38
  exact bif_split h
   (fun c0 h => bif_split h
   (fun c1 h => stop_at hS _ h (fun n => bif Nat.beq n 1 then 3 else bif Nat.beq n 2 then 1 else bif Nat.beq n 3 then 2 else bif Nat.beq n 4 then 399 else n) rfl rfl rfl ⟨(rn_own (use_own rfl) rfl rfl), ⟨(rn_ptr (use_own rfl) rfl rfl), ⟨(rn_ptr (use_own rfl) rfl rfl), ⟨(rn_int rfl), trivial⟩⟩⟩⟩ rfl (entl_b (use_own rfl) rfl (by simp) (rb_lit (fun j hj i hi => (match j, hj with | 0, _ => (match i, hi with | 0, _ => ⟨_, rfl, rn_int rfl⟩ | 1, _ => ⟨_, rfl, rn_int rfl⟩ | _ + 2, h => absurd h (by simp [lenc])) | _ + 1, h => absurd h (by simp)))) (entl_b (use_own rfl) rfl (by simp) (rb_cells ⟨rn_nils, (rn_int rfl), trivial⟩) (entl_b (use_own rfl) rfl (by simp) (rb_cells ⟨(rn_own_nils rfl), (rn_int rfl), trivial⟩) (entl_fresh (use_own rfl) (fresh_ok rfl) (entl_bor (use_lo rfl) rfl rfl entl_nil))))))
   (fun c1 h => stop_at hS _ h (fun n => bif Nat.beq n 1 then 1 else bif Nat.beq n 2 then 2 else bif Nat.beq n 3 then 399 else n) rfl rfl rfl ⟨(rn_loose (use_lo rfl) rfl rfl rfl), ⟨(rn_ptr (use_own rfl) rfl rfl), ⟨(rn_ptr (use_own rfl) rfl rfl), ⟨(rn_int rfl), trivial⟩⟩⟩⟩ rfl (entl_b (use_own rfl) rfl (by simp) (rb_cells ⟨rn_nils, (rn_int rfl), trivial⟩) (entl_b (use_own rfl) rfl (by simp) (rb_cells ⟨(rn_own_nils rfl), (rn_int rfl), trivial⟩) (entl_fresh (use_own rfl) (fresh_ok rfl) (entl_bor (use_lo rfl) rfl rfl entl_nil))))))
   (fun c0 h => no_some h)
set_option maxRecDepth 100000 in
theorem b38_0 (al nl ml : Nat) (tl : Nat → Int) (vl : Nat → Int) (de : Int) (Kst : KS) (Kret : KR) (x : St38 ⊕ Rt38) (hS : HS 1 400 ((I38 al nl ml tl vl de)) Kst x) (hR : HR 1 400 ((V38 al nl ml tl vl de)) (fun r => [newL (1 + 1) ((N38 al nl ml tl vl de) r) ++ [(0, (false, .cols ml [.int .u8 tl, .int .u8 vl]))]]) Kret x) (x0 : Int) (x1 : List (Int × Int)) (x2 : List (ByteArray × Int × Int)) (h : (bif (decide (x0 < (↑(List.length x1) : Int)))
 then (bif (decide (x0 < (8 : Int)))
 then (bif (lim IntKind.i64 (x0 + (1 : Int)))
 then (bif (decide ((0 : Int) ≤ x0 ∧ x0 ≤ x0 + (1 : Int) ∧ x0 + (1 : Int) ≤ (8 : Int)))
 then (bif (decide ((0 : Int) ≤ x0 ∧ x0 < (↑(List.length x1) : Int)))
 then (bif (decide (Int.toNat x0 < List.length x1))
 then (bif (lim IntKind.i64 ((S.at' x1 (Int.toNat x0)).1))
 then (bif (lim IntKind.i64 ((S.at' x1 (Int.toNat x0)).2))
 then (bif (decide (List.length x2 + 1 ≤ 1000000))
 then (bif (decide (List.length x2 ≤ List.length x2))
 then (some (.inl (.h0 (x0 + (1 : Int)) (x1) (S.snoc x2
 (S.subS
 (ByteArray.mk
 #[(97 : UInt8), (98 : UInt8), (99 : UInt8), (100 : UInt8), (101 : UInt8), (102 : UInt8), (103 : UInt8),
 (104 : UInt8)])
 (Int.toNat x0) (Int.toNat (x0 + (1 : Int))),
 (S.at' x1 (Int.toNat x0)).1, (S.at' x1 (Int.toNat x0)).2)))))
 else (none))
 else (none))
 else (none))
 else (none))
 else (none))
 else (none))
 else (none))
 else (none))
 else (some (.inr (x2))))
 else (some (.inr (x2))) : Option (St38 ⊕ Rt38)) = some x) : T38_0 cond Kst Kret al nl ml tl vl de x0 x1 x2 := by
  unfold T38_0
  exact bif_split h
   (fun c0 h => bif_split h
   (fun c1 h => bif_split h
   (fun c2 h => bif_split h
   (fun c3 h => bif_split h
   (fun c4 h => cond_yes rfl (bif_split h
   (fun c5 h => bif_split h
   (fun c6 h => cond_yes c4 (cond_yes rfl (cond_yes c5 (bif_split h
   (fun c7 h => bif_split h
   (fun c8 h => bif_split h
   (fun c9 h => cond_yes rfl (cond_yes c2 (stop_at hS _ h (fun n => bif Nat.beq n 1 then 1 else bif Nat.beq n 2 then 2 else bif Nat.beq n 3 then 3 else bif Nat.beq n 4 then 6 else n) rfl rfl rfl ⟨(rn_own (use_own rfl) rfl rfl), ⟨(rn_ptr (use_own rfl) rfl rfl), ⟨(rn_ptr (use_own rfl) rfl rfl), ⟨(rn_int rfl), trivial⟩⟩⟩⟩ rfl (entl_new (use_own rfl) rfl (Nat.le_of_eq rfl) (rcs_int (fun _ _ => rfl) (rcs_int (fun _ _ => rfl) rcs_nil)) (entl_b (use_own rfl) rfl (by simp) (rb_cells ⟨rn_nils, (rn_int rfl), trivial⟩) (entl_b (use_own rfl) rfl (by simp) (rb_cells ⟨(rn_own (use_own rfl) rfl (snoc_len' rfl)), (rn_int rfl), trivial⟩) (entl_new (use_own rfl) rfl (Nat.le_of_eq (snoc_len' rfl)) (rcs_str (col_snoc' (fun (t : ByteArray × Int × Int) => t.1) rfl (fun _ _ => rfl)) (rcs_int (col_snoc' (fun (t : ByteArray × Int × Int) => t.2.1) rfl (fun _ _ => rfl)) (rcs_int (col_snoc' (fun (t : ByteArray × Int × Int) => t.2.2) rfl (fun _ _ => rfl)) rcs_nil))) (entl_bor (use_lo rfl) rfl rfl entl_nil))))))))
   (fun c9 h => no_some h))
   (fun c8 h => no_some h))
   (fun c7 h => no_some h)))))
   (fun c6 h => no_some h))
   (fun c5 h => no_some h)))
   (fun c4 h => no_some h))
   (fun c3 h => no_some h))
   (fun c2 h => no_some h))
   (fun c1 h => ret_at hR _ h (fun n => bif Nat.beq n 2 then 4 else n) rfl rfl rfl (rn_agg ⟨(rn_own (use_own rfl) rfl rfl), (rn_int rfl), trivial⟩) rfl (entl_new (use_own rfl) rfl (Nat.le_of_eq rfl) (rcs_str (fun _ _ => rfl) (rcs_int (fun _ _ => rfl) (rcs_int (fun _ _ => rfl) rcs_nil))) (entl_bor (use_lo rfl) rfl rfl entl_nil))))
   (fun c0 h => ret_at hR _ h (fun n => bif Nat.beq n 2 then 4 else n) rfl rfl rfl (rn_agg ⟨(rn_own (use_own rfl) rfl rfl), (rn_int rfl), trivial⟩) rfl (entl_new (use_own rfl) rfl (Nat.le_of_eq rfl) (rcs_str (fun _ _ => rfl) (rcs_int (fun _ _ => rfl) (rcs_int (fun _ _ => rfl) rcs_nil))) (entl_bor (use_lo rfl) rfl rfl entl_nil)))
set_option maxRecDepth 100000 in
theorem b38_1 (al nl ml : Nat) (tl : Nat → Int) (vl : Nat → Int) (de : Int) (Kst : KS) (Kret : KR) (x : St38 ⊕ Rt38) (hS : HS 1 400 ((I38 al nl ml tl vl de)) Kst x) (hR : HR 1 400 ((V38 al nl ml tl vl de)) (fun r => [newL (1 + 1) ((N38 al nl ml tl vl de) r) ++ [(0, (false, .cols ml [.int .u8 tl, .int .u8 vl]))]]) Kret x) (x0 : Int) (x1 : List (ByteArray × Int × Int)) (h : (bif (decide (x0 < (↑nl : Int)))
 then (bif (decide (x0 < (8 : Int)))
 then (bif (lim IntKind.i64 (x0 + (1 : Int)))
 then (bif (decide ((0 : Int) ≤ x0 ∧ x0 ≤ x0 + (1 : Int) ∧ x0 + (1 : Int) ≤ (8 : Int)))
 then (bif (decide ((0 : Int) ≤ x0 ∧ x0 < (↑nl : Int)))
 then (bif (decide (Int.toNat x0 + al < ml))
 then (bif (lim IntKind.i64 (tl (Int.toNat x0 + al)))
 then (bif (lim IntKind.i64 (vl (Int.toNat x0 + al)))
 then (bif (decide (List.length x1 + 1 ≤ 1000000))
 then (bif (decide (List.length x1 ≤ List.length x1))
 then (some (.inl (.h1 (x0 + (1 : Int)) (S.snoc x1
 (S.subS
 (ByteArray.mk
 #[(97 : UInt8), (98 : UInt8), (99 : UInt8), (100 : UInt8), (101 : UInt8), (102 : UInt8), (103 : UInt8),
 (104 : UInt8)])
 (Int.toNat x0) (Int.toNat (x0 + (1 : Int))),
 tl (Int.toNat x0 + al), vl (Int.toNat x0 + al))))))
 else (none))
 else (none))
 else (none))
 else (none))
 else (none))
 else (none))
 else (none))
 else (none))
 else (some (.inr (x1))))
 else (some (.inr (x1))) : Option (St38 ⊕ Rt38)) = some x) : T38_1 cond Kst Kret al nl ml tl vl de x0 x1 := by
  unfold T38_1
  exact bif_split h
   (fun c0 h => bif_split h
   (fun c1 h => bif_split h
   (fun c2 h => bif_split h
   (fun c3 h => bif_split h
   (fun c4 h => cond_yes rfl (bif_split h
   (fun c5 h => bif_split h
   (fun c6 h => cond_yes c4 (cond_yes rfl (cond_yes c5 (bif_split h
   (fun c7 h => bif_split h
   (fun c8 h => bif_split h
   (fun c9 h => cond_yes rfl (cond_yes c2 (stop_at hS _ h (fun n => bif Nat.beq n 1 then 1 else bif Nat.beq n 2 then 2 else bif Nat.beq n 3 then 5 else n) rfl rfl rfl ⟨(rn_loose (use_lo rfl) rfl rfl rfl), ⟨(rn_ptr (use_own rfl) rfl rfl), ⟨(rn_ptr (use_own rfl) rfl rfl), ⟨(rn_int rfl), trivial⟩⟩⟩⟩ rfl (entl_b (use_own rfl) rfl (by simp) (rb_cells ⟨rn_nils, (rn_int rfl), trivial⟩) (entl_b (use_own rfl) rfl (by simp) (rb_cells ⟨(rn_own (use_own rfl) rfl (snoc_len' rfl)), (rn_int rfl), trivial⟩) (entl_new (use_own rfl) rfl (Nat.le_of_eq (snoc_len' rfl)) (rcs_str (col_snoc' (fun (t : ByteArray × Int × Int) => t.1) rfl (fun _ _ => rfl)) (rcs_int (col_snoc' (fun (t : ByteArray × Int × Int) => t.2.1) rfl (fun _ _ => rfl)) (rcs_int (col_snoc' (fun (t : ByteArray × Int × Int) => t.2.2) rfl (fun _ _ => rfl)) rcs_nil))) (entl_bor (use_lo rfl) rfl rfl entl_nil)))))))
   (fun c9 h => no_some h))
   (fun c8 h => no_some h))
   (fun c7 h => no_some h)))))
   (fun c6 h => no_some h))
   (fun c5 h => no_some h)))
   (fun c4 h => no_some h))
   (fun c3 h => no_some h))
   (fun c2 h => no_some h))
   (fun c1 h => ret_at hR _ h (fun n => bif Nat.beq n 2 then 3 else n) rfl rfl rfl (rn_agg ⟨(rn_own (use_own rfl) rfl rfl), (rn_int rfl), trivial⟩) rfl (entl_new (use_own rfl) rfl (Nat.le_of_eq rfl) (rcs_str (fun _ _ => rfl) (rcs_int (fun _ _ => rfl) (rcs_int (fun _ _ => rfl) rcs_nil))) (entl_bor (use_lo rfl) rfl rfl entl_nil))))
   (fun c0 h => ret_at hR _ h (fun n => bif Nat.beq n 2 then 3 else n) rfl rfl rfl (rn_agg ⟨(rn_own (use_own rfl) rfl rfl), (rn_int rfl), trivial⟩) rfl (entl_new (use_own rfl) rfl (Nat.le_of_eq rfl) (rcs_str (fun _ _ => rfl) (rcs_int (fun _ _ => rfl) (rcs_int (fun _ _ => rfl) rcs_nil))) (entl_bor (use_lo rfl) rfl rfl entl_nil)))
theorem a38 (al nl ml : Nat) (tl : Nat → Int) (vl : Nat → Int) (de : Int) {r : Rt38} (h : Goes ((q38 al nl ml tl vl de)) ((p38 al nl ml tl vl de)) r) : CallR Try.prog 38 [.loose ⟨0, 2, al, 0⟩ nl, .int .u8 de] [[(0, (false, .cols ml [.int .u8 tl, .int .u8 vl]))]] 1 ((V38 al nl ml tl vl de) r) ((fun r => [newL (1 + 1) ((N38 al nl ml tl vl de) r) ++ [(0, (false, .cols ml [.int .u8 tl, .int .u8 vl]))]]) r) 400 ∧ ∃ F, Try.prog.funcs[38]? = some F ∧ F.body.isSome = true ∧ (F.name == "runtime.NumGoroutine") = false := by
  refine dec_calls (f := 38) (lo := 1) (hi := 400) (H := [[(0, (false, .cols ml [.int .u8 tl, .int .u8 vl]))]]) (args := [.loose ⟨0, 2, al, 0⟩ nl, .int .u8 de]) Try.envOk Try.mixed noX_ok ((I38 al nl ml tl vl de)) ((V38 al nl ml tl vl de)) (fun r => [newL (1 + 1) ((N38 al nl ml tl vl de) r) ++ [(0, (false, .cols ml [.int .u8 tl, .int .u8 vl]))]]) (fn := mkFn Try.f38) (ts := [0, 4, 5, 6]) (n := 400) rfl (by decide) (by simp) (names_of rfl) ?_ ?_ ?_ h
  · intro s; cases s <;> exact ⟨hd_ok _ _, by simp [I38], names_of rfl, Nat.le_of_ble_eq_true rfl⟩
  · intro Kst Kret x hS hR h
    exact Holds.eq (te38 cond Kst Kret al nl ml tl vl de) (be38 al nl ml tl vl de Kst Kret x hS hR h)
  · intro Kst Kret x hS hR s h
    cases s with
    | h0 x0 x1 x2 => exact Holds.eq (t38_0 cond Kst Kret al nl ml tl vl de x0 x1 x2) (b38_0 al nl ml tl vl de Kst Kret x hS hR x0 x1 x2 h)
    | h1 x0 x1 => exact Holds.eq (t38_1 cond Kst Kret al nl ml tl vl de x0 x1) (b38_1 al nl ml tl vl de Kst Kret x hS hR x0 x1 h)
noncomputable def k38 : Con := ⟨38, [.one (.list [.int .u8, .int .u8]), .one (.plain (.int .u8))], fun (x : (Nat × Nat × Nat × (Nat → Int) × (Nat → Int) × Unit) × Int × Unit) => (fun (al nl ml : Nat) (tl : Nat → Int) (vl : Nat → Int) (de : Int) => decide ((al + nl ≤ ml ∧ nl ≤ 1000000) ∧ (0 ≤ de ∧ de ≤ 255) ∧ S.byB (fun j => tl (j + al)) nl = true ∧ S.byB (fun j => vl (j + al)) nl = true)) x.1.1 x.1.2.1 x.1.2.2.1 x.1.2.2.2.1 x.1.2.2.2.2.1 x.2.1, fun (x : (Nat × Nat × Nat × (Nat → Int) × (Nat → Int) × Unit) × Int × Unit) => (fun (al nl ml : Nat) (tl : Nat → Int) (vl : Nat → Int) (de : Int) => (V38 al nl ml tl vl de) (S.madeL nl (fun j => tl (j + al)) (fun j => vl (j + al)))) x.1.1 x.1.2.1 x.1.2.2.1 x.1.2.2.2.1 x.1.2.2.2.2.1 x.2.1, fun (x : (Nat × Nat × Nat × (Nat → Int) × (Nat → Int) × Unit) × Int × Unit) => (fun (al nl ml : Nat) (tl : Nat → Int) (vl : Nat → Int) (de : Int) => (N38 al nl ml tl vl de) (S.madeL nl (fun j => tl (j + al)) (fun j => vl (j + al)))) x.1.1 x.1.2.1 x.1.2.2.1 x.1.2.2.2.1 x.1.2.2.2.2.1 x.2.1, fun _ _ => .dead⟩
theorem s38' (al nl ml : Nat) (tl : Nat → Int) (vl : Nat → Int) (de : Int) (hp : (al + nl ≤ ml ∧ nl ≤ 1000000) ∧ (0 ≤ de ∧ de ≤ 255) ∧ S.byB (fun j => tl (j + al)) nl = true ∧ S.byB (fun j => vl (j + al)) nl = true) : ∀ (k i : Nat) (L : List (ByteArray × Int × Int)), i + k = min nl 8 → Holds (L = S.mkl (i) (fun i => (S.nameI i, tl (i + al), vl (i + al)))) → Comes (q38 al nl ml tl vl de) (.h1 (i : Int) L) (S.mkl (min nl 8) (fun i => (S.nameI i, tl (i + al), vl (i + al)))) := by
  obtain ⟨⟨hp1, hp2⟩, hp3, hp4, hp5⟩ := hp
  intro k
  induction k with
  | zero =>
    intro i L hi eL
    have e := eL.get
    rw [show i = min nl 8 by omega] at e
    apply Comes.of
    show Goes _ _ _
    (first | rw [q38] | unfold q38)
    repeat' first
      | with_reducible refine goes_if (fun h => ?_) (fun h => ?_) <;> (try simp only [lim64, imp_false, decide_eq_true_eq, decide_eq_false_iff_not, Int.toNat_natCast, toNat_pred, toNat_succ, Option.getD_some, Option.getD_none, Bool.not_eq_true', Bool.not_eq_false', Bool.and_eq_true, Bool.or_eq_true, Bool.and_eq_false_iff, Bool.or_eq_false_iff, bne_iff_ne, beq_iff_eq, bne_eq_false_iff_eq, beq_eq_false_iff_ne, ne_eq, not_and, Int.not_le, Int.not_lt, ge_iff_le, gt_iff_lt, Nat.not_lt, Nat.not_le, Bool.not_eq_true, Bool.not_eq_false, Bool.true_eq_false, Bool.false_eq_true, not_false_eq_true, not_true_eq_false] at h)
      | exact goes_none.mpr (by omega)
    all_goals first | (exfalso; omega) | exact goes_inr.mpr e
  | succ k ih =>
    intro i L hi eL
    have h1 := of_decide_eq_true (all_iff.mp hp4 i (by omega))
    have h2 := of_decide_eq_true (all_iff.mp hp5 i (by omega))
    try dsimp only at h1 h2
    have hL : L.length = i := by rw [eL.get, mkl_len]
    have ih := ih (i + 1) (S.snoc L (S.nameI i, tl (i + al), vl (i + al))) (by omega) ⟨by rw [mkl_succ, eL.get]⟩
    have e1 : ((i : Int) + 1).toNat = i + 1 := by omega
    apply Comes.of
    show Goes _ _ _
    (first | rw [q38] | unfold q38)
    try simp only [e1, Int.toNat_natCast]
    try show Goes _ _ _
    repeat' first
      | with_reducible refine goes_if (fun h => ?_) (fun h => ?_) <;> (try simp only [lim64, imp_false, decide_eq_true_eq, decide_eq_false_iff_not, Int.toNat_natCast, toNat_pred, toNat_succ, Option.getD_some, Option.getD_none, Bool.not_eq_true', Bool.not_eq_false', Bool.and_eq_true, Bool.or_eq_true, Bool.and_eq_false_iff, Bool.or_eq_false_iff, bne_iff_ne, beq_iff_eq, bne_eq_false_iff_eq, beq_eq_false_iff_ne, ne_eq, not_and, Int.not_le, Int.not_lt, ge_iff_le, gt_iff_lt, Nat.not_lt, Nat.not_le, Bool.not_eq_true, Bool.not_eq_false, Bool.true_eq_false, Bool.false_eq_true, not_false_eq_true, not_true_eq_false] at h)
      | exact goes_none.mpr (by omega)
    all_goals first | (exfalso; omega) | exact ih
theorem s38 (al nl ml : Nat) (tl : Nat → Int) (vl : Nat → Int) (de : Int) (hp : (al + nl ≤ ml ∧ nl ≤ 1000000) ∧ (0 ≤ de ∧ de ≤ 255) ∧ S.byB (fun j => tl (j + al)) nl = true ∧ S.byB (fun j => vl (j + al)) nl = true) : Goes ((q38 al nl ml tl vl de)) ((p38 al nl ml tl vl de)) (S.madeL nl (fun j => tl (j + al)) (fun j => vl (j + al))) := by
  unfold S.madeL
  by_cases h0 : nl = 0
  · have e : (q38 al nl ml tl vl de) (.h0 0 [(1, 1)] []) = some (.inl (.h0 1 [(1, 1)] [(S.nameI 0, 1, 1)])) := rfl
    have e2 : (q38 al nl ml tl vl de) (.h0 1 [(1, 1)] [(S.nameI 0, 1, 1)]) = some (.inr [(S.nameI 0, 1, 1)]) := rfl
    rw [if_pos h0]
    obtain ⟨⟨hp1, hp2⟩, hp3, hp4, hp5⟩ := hp
    show Goes _ _ _
    unfold p38
    repeat' first
      | with_reducible refine goes_if (fun h => ?_) (fun h => ?_) <;> (try simp only [lim64, imp_false, decide_eq_true_eq, decide_eq_false_iff_not, Int.toNat_natCast, toNat_pred, toNat_succ, Option.getD_some, Option.getD_none, Bool.not_eq_true', Bool.not_eq_false', Bool.and_eq_true, Bool.or_eq_true, Bool.and_eq_false_iff, Bool.or_eq_false_iff, bne_iff_ne, beq_iff_eq, bne_eq_false_iff_eq, beq_eq_false_iff_ne, ne_eq, not_and, Int.not_le, Int.not_lt, ge_iff_le, gt_iff_lt, Nat.not_lt, Nat.not_le, Bool.not_eq_true, Bool.not_eq_false, Bool.true_eq_false, Bool.false_eq_true, not_false_eq_true, not_true_eq_false] at h)
      | exact goes_none.mpr (by omega)
    all_goals first | (exfalso; omega) | exact Comes.next e (Comes.done e2)
  · rw [if_neg h0]
    have hm := s38' al nl ml tl vl de hp (min nl 8) 0 [] (Nat.zero_add _) ⟨rfl⟩
    obtain ⟨⟨hp1, hp2⟩, hp3, hp4, hp5⟩ := hp
    show Goes _ _ _
    unfold p38
    repeat' first
      | with_reducible refine goes_if (fun h => ?_) (fun h => ?_) <;> (try simp only [lim64, imp_false, decide_eq_true_eq, decide_eq_false_iff_not, Int.toNat_natCast, toNat_pred, toNat_succ, Option.getD_some, Option.getD_none, Bool.not_eq_true', Bool.not_eq_false', Bool.and_eq_true, Bool.or_eq_true, Bool.and_eq_false_iff, Bool.or_eq_false_iff, bne_iff_ne, beq_iff_eq, bne_eq_false_iff_eq, beq_eq_false_iff_ne, ne_eq, not_and, Int.not_le, Int.not_lt, ge_iff_le, gt_iff_lt, Nat.not_lt, Nat.not_le, Bool.not_eq_true, Bool.not_eq_false, Bool.true_eq_false, Bool.false_eq_true, not_false_eq_true, not_true_eq_false] at h)
      | exact goes_none.mpr (by omega)
    all_goals first | (exfalso; omega) | exact hm
theorem k38_ok : k38.ok Try.prog := by
  intro x hx
  obtain ⟨⟨al, nl, ml, tl, vl, _⟩, de, _⟩ := x
  obtain ⟨h1, h2⟩ := a38 al nl ml tl vl de (s38 al nl ml tl vl de (of_dec hx rfl))
  exact ⟨⟨400, (by decide : 1 + 1 + 1 ≤ 400), h1⟩, h2⟩
noncomputable def xM (test : Bool → Prop → Prop → Prop) : Ext := consX test [k38, k25, k17]
theorem xM_ok : ExtOk Try.prog (xM cond) := consX_ok ⟨k38_ok, k25_ok, k17_ok, trivial⟩
abbrev St12 := Empty
abbrev Rt12 := Bool
noncomputable def V12  (r : Rt12) : PV := PV.bool r
noncomputable def N12  (r : Rt12) : List Blk := []
noncomputable def I12  : St12 → Hd := fun s => s.elim
noncomputable def q12  : St12 → Option (St12 ⊕ Rt12) := fun s => s.elim
noncomputable def p12  : Option (St12 ⊕ Rt12) := some (.inr (true))
noncomputable def Te12 (test : Bool → Prop → Prop → Prop) (Kst : KS) (Kret : KR)  : Prop :=
  test (true)
 (test (true)
 (test (true)
 (test (true)
 (test (true)
 (test (true)
 (test (true)
 (test (true)
 (test (true)
 (test (true)
 (test (true)
 (test (true)
 (Kret (PV.tf true) ([[]]) (8))
 (Kret (PV.tf false) ([[]]) (8)))
 (Kret (PV.tf false) ([[]]) (8)))
 (Kret (PV.tf false) ([[]]) (8)))
 (Kret (PV.tf false) ([[]]) (8)))
 (Kret (PV.tf false) ([[]]) (8)))
 (Kret (PV.tf false) ([[]]) (8)))
 (Kret (PV.tf false) ([[]]) (8)))
 (Kret (PV.tf false) ([[]]) (8)))
 (False))
 (False))
 (False))
 (False)
set_option maxRecDepth 100000 in
theorem te12 (test : Bool → Prop → Prop → Prop) (Kst : KS) (Kret : KR)  : run test Try.env true (xM test) true 400 ⟨12, [.cd (mkFn Try.f12).body], argT 0 [], [[], []], 0⟩ (proj 0 [] Kst Kret) =
  Te12 test Kst Kret  := by kernel_rfl
set_option maxRecDepth 100000 in
theorem be12  (Kst : KS) (Kret : KR) (x : St12 ⊕ Rt12) (hS : HS 0 400 (I12) Kst x) (hR : HR 0 400 (V12) (fun r => [newL (0 + 1) (N12 r) ++ []]) Kret x) (h : (some (.inr (true)) : Option (St12 ⊕ Rt12)) = some x) : Te12 cond Kst Kret  := by
  unfold Te12
  exact cond_yes rfl (cond_yes rfl (cond_yes rfl (cond_yes rfl (cond_yes rfl (cond_yes rfl (cond_yes rfl (cond_yes rfl (cond_yes rfl (cond_yes rfl (cond_yes rfl (cond_yes rfl (ret_at hR _ h (fun n => n) rfl rfl rfl (rn_bool_tf rfl) rfl entl_nil))))))))))))
theorem a12  {r : Rt12} (h : Goes (q12) (p12) r) : CallR Try.prog 12 [] [[]] 0 (V12 r) ((fun r => [newL (0 + 1) (N12 r) ++ []]) r) 400 ∧ ∃ F, Try.prog.funcs[12]? = some F ∧ F.body.isSome = true ∧ (F.name == "runtime.NumGoroutine") = false := by
  refine dec_calls (f := 12) (lo := 0) (hi := 400) (H := [[]]) (args := []) Try.envOk Try.mixed xM_ok (I12) (V12) (fun r => [newL (0 + 1) (N12 r) ++ []]) (fn := mkFn Try.f12) (ts := []) (n := 400) rfl (by decide) (by simp) (names_of rfl) ?_ ?_ ?_ h
  · intro s; exact s.elim
  · intro Kst Kret x hS hR h
    exact Holds.eq (te12 cond Kst Kret ) (be12  Kst Kret x hS hR h)
  · intro Kst Kret x hS hR s h; exact s.elim
noncomputable def k12 : Con := ⟨12, [], fun (x : Unit) => decide (True), fun (x : Unit) => V12 (true), fun (x : Unit) => N12 (true), fun _ _ => .dead⟩
theorem s12  (hp : True) : Goes (q12) (p12) (true) := by
  exact goes_inr.mpr rfl
theorem k12_ok : k12.ok Try.prog := by
  intro x hx
  obtain _ := x
  obtain ⟨h1, h2⟩ := a12  (s12  (of_dec hx rfl))
  exact ⟨⟨400, (by decide : 0 + 1 + 0 ≤ 400), h1⟩, h2⟩
noncomputable def xL6 (test : Bool → Prop → Prop → Prop) : Ext := consX test [k12, k38, k27, k14, k30, k39]
theorem xL6_ok : ExtOk Try.prog (xL6 cond) := consX_ok ⟨k12_ok, k38_ok, k27_ok, k14_ok, k30_ok, k39_ok, trivial⟩
section
variable {n : Nat} {t : Nat → ByteArray} {v g : Nat → Int} {de e st k l p : Int}
end
theorem dbs_len {n : Nat} {st : Int} {L : List (Int × Int × Int)} : ∀ {c i : Nat} {D : List S.P6}, (S.fold (fun D i => S.fold (S.dblT n st L i) (i + 1) (L.length - (i + 1)) D) i c D).length ≤ D.length + L.length * c
  | 0, i, D => Nat.le_refl _
  | c + 1, i, D => by
    simp only [S.fold]
    refine Nat.le_trans dbs_len ?_
    have := dbl_len (n := n) (st := st) (L := L) (i := i) (c := L.length - (i + 1)) (k := i + 1) (D := D)
    rw [Nat.mul_succ]
    omega
theorem dbe_len {n : Nat} {e st : Int} (h : n ≤ 20) : (S.dblE n e st).2.length ≤ 1000000 := by
  unfold S.dblE
  split
  · split
    · show (S.dblS n st (S.failL n)).length ≤ _
      unfold S.dblS
      refine Nat.le_trans dbs_len ?_
      rw [fail_len, List.length_nil]
      have : (5 * n + 2) * (5 * n + 2) ≤ 102 * 102 := Nat.mul_le_mul (by omega) (by omega)
      omega
    · exact Nat.zero_le _
  · exact Nat.zero_le _
namespace S
/-- The error of a network whose stations are a list. -/
def netL (L : List (ByteArray × Int × Int)) (de : Int) : Int := netE L.length (fun j => (at' L j).1) (fun j => (at' L j).2.1) (fun j => (at' L j).2.2) de
end S
theorem byB_mk {n : Nat} {t : Nat → Int} (h : ∀ j, j < n → 0 ≤ t j ∧ t j ≤ 255) : S.byB t n = true := all_iff.mpr fun j hj => decide_eq_true (h j hj)
theorem staE_yes {e : Int} {t : Nat → ByteArray} {v g : Nat → Int} : ∀ {k i : Nat}, (∀ j, i ≤ j → j < i + k → S.isNam (t j) = true ∧ (∀ r, r < j → S.eqS (t r) (t j) = false) ∧ (0 ≤ v j ∧ v j ≤ 1000000) ∧ 0 ≤ g j ∧ g j ≤ 1000000) → S.staE e t v g i k = e
  | 0, i, _ => rfl
  | k + 1, i, h => by
    obtain ⟨h1, h2, h3⟩ := h i (Nat.le_refl _) (by omega)
    rw [staE_e, if_pos h1, if_neg (by rw [any_no.mpr h2]; exact Bool.false_ne_true), if_pos h3]
    exact staE_yes fun j q1 q2 => h j (by omega) (by omega)
theorem nameI_ok : ∀ i, i < 8 → S.isNam (S.nameI i) = true ∧ ∀ r, r < i → S.eqS (S.nameI r) (S.nameI i) = false := by
  decide +kernel
/-- A network whose stations have the names a, b, .. is valid. -/
theorem net_yes {L : List (ByteArray × Int × Int)} {de : Int} (h1 : 1 ≤ L.length ∧ L.length ≤ 8) (hd : 0 ≤ de ∧ de ≤ 1000000) (h : ∀ j, j < L.length → (S.at' L j).1 = S.nameI j ∧ (0 ≤ (S.at' L j).2.1 ∧ (S.at' L j).2.1 ≤ 1000000) ∧ 0 ≤ (S.at' L j).2.2 ∧ (S.at' L j).2.2 ≤ 1000000) : S.netL L de = 0 := by
  unfold S.netL S.netE
  rw [if_neg (by omega), if_neg (by omega), staE_yes fun j _ hj => ?_, if_pos hd]
  obtain ⟨q1, q2, q3⟩ := h j (by omega)
  refine ⟨?_, fun r hr => ?_, q2, q3⟩
  · show S.isNam (S.at' L j).1 = true
    rw [q1]; exact (nameI_ok j (by omega)).1
  · show S.eqS (S.at' L r).1 (S.at' L j).1 = false
    rw [q1, (h r (by omega)).1]
    exact (nameI_ok j (by omega)).2 r hr
theorem made_ok {n : Nat} {t v : Nat → Int} (hn : n ≤ 8) (ht : S.byB t n = true) (hv : S.byB v n = true) : (1 ≤ (S.madeL n t v).length ∧ (S.madeL n t v).length ≤ 8) ∧ ∀ j, j < (S.madeL n t v).length → (S.at' (S.madeL n t v) j).1 = S.nameI j ∧ (0 ≤ (S.at' (S.madeL n t v) j).2.1 ∧ (S.at' (S.madeL n t v) j).2.1 ≤ 255) ∧ 0 ≤ (S.at' (S.madeL n t v) j).2.2 ∧ (S.at' (S.madeL n t v) j).2.2 ≤ 255 := by
  unfold S.madeL
  split
  · refine ⟨⟨Nat.le_refl _, by decide⟩, fun j hj => ?_⟩
    obtain rfl : j = 0 := by have : j < 1 := hj; omega
    exact ⟨rfl, by decide, by decide⟩
  · refine ⟨by rw [mkl_len]; omega, fun j hj => ?_⟩
    rw [mkl_len] at hj
    rw [at_mkl hj]
    exact ⟨rfl, of_decide_eq_true (all_iff.mp ht j (by omega)), of_decide_eq_true (all_iff.mp hv j (by omega))⟩
theorem all_memF {n : Nat} {f : Int × Int × Int} (h : f ∈ S.allF n) : S.okF n f.1 f.2.1 f.2.2 := by
  rcases List.mem_cons.mp h with rfl | h
  · exact .inl ⟨rfl, rfl, rfl⟩
  · obtain ⟨k, l, p⟩ := f
    exact (fail_mem.mp h).1
theorem at_mem {α : Type} [Inhabited α] {L : List α} {j : Nat} (h : j < L.length) : S.at' L j ∈ L := by rw [at_lt h]; exact List.getElem_mem _
theorem fold_P {α : Type} {g : α → Nat → α} (P : Nat → α → Prop) : ∀ {c i : Nat} {a : α}, P i a → (∀ j a, i ≤ j → j < i + c → P j a → P (j + 1) (g a j)) → P (i + c) (S.fold g i c a)
  | 0, _, _, h, _ => h
  | c + 1, i, a, h, hs => by
    simp only [S.fold]
    rw [show i + (c + 1) = i + 1 + c by omega]
    exact fold_P P (hs i a (Nat.le_refl _) (by omega) h) fun j a q1 q2 q3 => hs j a (by omega) (by omega) q3
theorem net_nil {L : List (ByteArray × Int × Int)} {de : Int} : S.netE L.length (fun j => (S.at' L j).1) (fun j => (S.at' L j).2.1) (fun j => (S.at' L j).2.2) de = S.netL L de := rfl
theorem dbl_in {n : Nat} {st : Int} {L : List (Int × Int × Int)} : ∀ e : S.P6, e ∈ S.dblS n st L → S.twoB n st (e.1, e.2.1, e.2.2.1) (e.2.2.2.1, e.2.2.2.2.1, e.2.2.2.2.2) = false := by
  unfold S.dblS
  refine fold_P (fun _ D => ∀ e : S.P6, e ∈ D → S.twoB n st (e.1, e.2.1, e.2.2.1) (e.2.2.2.1, e.2.2.2.2.1, e.2.2.2.2.2) = false) (c := L.length) (fun e he => by cases he) fun i D _ _ hD => ?_
  refine fold_P (fun _ D => ∀ e : S.P6, e ∈ D → S.twoB n st (e.1, e.2.1, e.2.2.1) (e.2.2.2.1, e.2.2.2.2.1, e.2.2.2.2.2) = false) (c := L.length - (i + 1)) hD fun k D _ _ hD e he => ?_
  unfold S.dblT at he
  split at he
  · exact hD e he
  · rename_i ht
    rw [S.snoc, List.mem_append, List.mem_singleton] at he
    rcases he with he | rfl
    · exact hD e he
    · rw [Bool.not_eq_true] at ht
      exact ht
theorem dbl_of {n : Nat} {st : Int} {L : List (Int × Int × Int)} {i k : Nat} (hi : i < k) (hk : k < L.length) (h : S.twoB n st (S.at' L i) (S.at' L k) = false) : ((S.at' L i).1, (S.at' L i).2.1, (S.at' L i).2.2, (S.at' L k).1, (S.at' L k).2.1, (S.at' L k).2.2) ∈ S.dblS n st L := by
  have mono : ∀ (i : Nat) (c s : Nat) (D : List S.P6) (e : S.P6), e ∈ D → e ∈ S.fold (S.dblT n st L i) s c D := fun i c s D e he => fold_P (g := S.dblT n st L i) (fun _ D => e ∈ D) he fun j D _ _ hD => by
    unfold S.dblT
    split
    · exact hD
    · rw [S.snoc, List.mem_append]; exact .inl hD
  have hI := fold_P (g := fun D i => S.fold (S.dblT n st L i) (i + 1) (L.length - (i + 1)) D) (fun i D => ∀ i' k', i' < i → i' < k' → k' < L.length → S.twoB n st (S.at' L i') (S.at' L k') = false → ((S.at' L i').1, (S.at' L i').2.1, (S.at' L i').2.2, (S.at' L k').1, (S.at' L k').2.1, (S.at' L k').2.2) ∈ D) (c := L.length) (i := 0) (a := []) (fun i' k' h0 => absurd h0 (Nat.not_lt_zero i')) fun i D _ _ hD i' k' h1 h2 h3 h4 => by
    rcases Nat.lt_or_eq_of_le (Nat.le_of_lt_succ h1) with h5 | h5
    · exact mono _ _ _ _ _ (hD i' k' h5 h2 h3 h4)
    · subst h5
      have := fold_P (g := S.dblT n st L i') (fun k D => ∀ k', i' < k' → k' < k → S.twoB n st (S.at' L i') (S.at' L k') = false → ((S.at' L i').1, (S.at' L i').2.1, (S.at' L i').2.2, (S.at' L k').1, (S.at' L k').2.1, (S.at' L k').2.2) ∈ D) (c := L.length - (i' + 1)) (i := i' + 1) (a := D) (fun k' q1 q2 => by omega) (fun k D _ _ hD k' q1 q2 q3 => by
        unfold S.dblT
        rcases Nat.lt_or_eq_of_le (Nat.le_of_lt_succ q2) with h6 | h6
        · split
          · exact hD k' q1 h6 q3
          · rw [S.snoc, List.mem_append]; exact .inl (hD k' q1 h6 q3)
        · subst h6
          rw [if_neg (by rw [q3]; exact Bool.false_ne_true), S.snoc, List.mem_append]
          exact .inr (List.mem_singleton.mpr rfl))
      exact this k' h2 (by omega) h4
  exact hI i k (by omega) hi hk h
theorem any_mem {D : List S.P6} {a c d x y z : Int} : S.any (fun j => decide ((S.at' D j).1 = a) && decide ((S.at' D j).2.1 = c) && decide ((S.at' D j).2.2.1 = d) && decide ((S.at' D j).2.2.2.1 = x) && decide ((S.at' D j).2.2.2.2.1 = y) && decide ((S.at' D j).2.2.2.2.2 = z)) D.length = decide ((a, c, d, x, y, z) ∈ D) := by
  rw [Bool.eq_iff_iff, any_iff, decide_eq_true_eq]
  constructor
  · rintro ⟨j, hj, h⟩
    simp only [Bool.and_eq_true, decide_eq_true_eq] at h
    obtain ⟨⟨⟨⟨⟨h1, h2⟩, h3⟩, h4⟩, h5⟩, h6⟩ := h
    have := at_mem (L := D) hj
    rw [show S.at' D j = (a, c, d, x, y, z) from Prod.ext h1 (Prod.ext h2 (Prod.ext h3 (Prod.ext h4 (Prod.ext h5 h6))))] at this
    exact this
  · intro h
    obtain ⟨j, hj, he⟩ := List.getElem_of_mem h
    refine ⟨j, hj, ?_⟩
    rw [at_lt hj, he]
    simp only [decide_true, Bool.and_self]
theorem any_two {n : Nat} {st : Int} {L : List (Int × Int × Int)} {i k : Nat} (hi : i < k) (hk : k < L.length) : decide (((S.at' L i).1, (S.at' L i).2.1, (S.at' L i).2.2, (S.at' L k).1, (S.at' L k).2.1, (S.at' L k).2.2) ∈ S.dblS n st L) = !S.twoB n st (S.at' L i) (S.at' L k) := by
  cases h : S.twoB n st (S.at' L i) (S.at' L k)
  · rw [decide_eq_true (dbl_of hi hk h)]; rfl
  · rw [decide_eq_false fun he => by
      have := dbl_in _ he
      rw [show S.twoB n st (S.at' L i) (S.at' L k) = false from this] at h
      cases h]
    rfl
theorem saf_two {n : Nat} {st : Int} {x y : Int × Int × Int} (h0 : 0 ≤ st ∧ st < (n : Int)) (hx : S.okF n x.1 x.2.1 x.2.2) (hy : S.okF n y.1 y.2.1 y.2.2) : S.safS n 0 1 (fun j => S.lit [st] 0 j) 2 (fun j => S.lit [x.1, y.1] 0 j) (fun j => S.lit [x.2.1, y.2.1] 0 j) (fun j => S.lit [x.2.2, y.2.2] 0 j) = (S.twoB n st x y, 0) := by
  unfold S.safS
  rw [if_pos rfl, if_pos (all_iff.mpr fun j hj => by
    obtain rfl : j = 0 := by omega
    exact decide_eq_true h0), if_neg (by decide), if_pos (all_iff.mpr fun j hj => by
    rcases Nat.lt_or_eq_of_le (Nat.le_of_lt_succ hj) with h | h
    · obtain rfl : j = 0 := by omega
      exact decide_eq_true hx
    · subst h; exact decide_eq_true hy), two_eq fun r _ => lost_eq r]
inductive St9 where
  | h0 (x0 : Int) (x1 : Int) (x2 : List (ByteArray × Int × Int)) (x3 : List (Int × Int × Int × Int × Int × Int)) (x4 : List (Int × Int × Int))
  | h1 (x0 : Int) (x1 : Int) (x2 : Nat) (x3 : Nat) (x4 : Int) (x5 : Int) (x6 : List (ByteArray × Int × Int)) (x7 : List (Int × Int × Int × Int × Int × Int)) (x8 : List (Int × Int × Int)) (x9 : Int) (x10 : Int) (x11 : Int)
abbrev Rt9 := Bool
noncomputable def V9 (al nl ml : Nat) (tl : Nat → Int) (vl : Nat → Int) (pt : Int) (r : Rt9) : PV := PV.bool r
noncomputable def N9 (al nl ml : Nat) (tl : Nat → Int) (vl : Nat → Int) (pt : Int) (r : Rt9) : List Blk := []
noncomputable def I9 (al nl ml : Nat) (tl : Nat → Int) (vl : Nat → Int) (pt : Int) : St9 → Hd
  | .h0 x0 x1 x2 x3 x4 => ⟨hd Try.f9 0, [PV.ptr (PA.mk (1) (0) (0) (0)),
 PV.int IntKind.i64
 (Int.tmod pt (↑(List.length (S.madeL nl (fun (j : Nat) => tl (j + al)) fun (j : Nat) => vl (j + al))) : Int)),
 PV.own (3) (6) (List.length x3), PV.own (4) (3) (List.length x4),
 PV.int IntKind.i64 x0, PV.unk, PV.own (4) (3) (List.length x4),
 PV.int IntKind.i64
 (↑(List.length
 (Prod.snd
 (S.faiS (List.length (S.madeL nl (fun (j : Nat) => tl (j + al)) fun (j : Nat) => vl (j + al)))
 (S.netE (List.length (S.madeL nl (fun (j : Nat) => tl (j + al)) fun (j : Nat) => vl (j + al)))
 (fun (j : Nat) =>
 Prod.fst
 (S.at' (S.madeL nl (fun (j : Nat) => tl (j + al)) fun (j : Nat) => vl (j + al)) j))
 (fun (j : Nat) =>
 Prod.fst
 (Prod.snd
 (S.at' (S.madeL nl (fun (j : Nat) => tl (j + al)) fun (j : Nat) => vl (j + al)) j)))
 (fun (j : Nat) =>
 Prod.snd
 (Prod.snd
 (S.at' (S.madeL nl (fun (j : Nat) => tl (j + al)) fun (j : Nat) => vl (j + al)) j)))
 (1 : Int))))) :
 Int),
 PV.int IntKind.i64 x1, PV.unk, PV.unk, PV.unk], [[(1, (true, Blk.cells [PV.own (2) (3) (List.length x2), PV.int IntKind.i64 (1 : Int)])), (2, (true, Blk.cols (List.length x2)
 [Col.str fun (j : Nat) => (S.at' x2 j).1,
 Col.int IntKind.i64 fun (j : Nat) => (S.at' x2 j).2.1,
 Col.int IntKind.i64 fun (j : Nat) => (S.at' x2 j).2.2])), (3, (true, Blk.cols (List.length x3)
 [Col.int IntKind.i64 fun (j : Nat) => (S.at' x3 j).1,
 Col.int IntKind.i64 fun (j : Nat) => (S.at' x3 j).2.1,
 Col.int IntKind.i64 fun (j : Nat) => (S.at' x3 j).2.2.1,
 Col.int IntKind.i64 fun (j : Nat) => (S.at' x3 j).2.2.2.1,
 Col.int IntKind.i64 fun (j : Nat) =>
 (S.at' x3 j).2.2.2.2.1,
 Col.int IntKind.i64 fun (j : Nat) =>
 (S.at' x3 j).2.2.2.2.2])), (4, (true, Blk.cols (List.length x4)
 [Col.int IntKind.i64 fun (j : Nat) => (S.at' x4 j).1,
 Col.int IntKind.i64 fun (j : Nat) => (S.at' x4 j).2.1,
 Col.int IntKind.i64 fun (j : Nat) => (S.at' x4 j).2.2]))], [(0, (false, .cols ml [.int .u8 tl, .int .u8 vl]))]], 5⟩
  | .h1 x0 x1 x2 x3 x4 x5 x6 x7 x8 x9 x10 x11 => ⟨hd Try.f9 1, [PV.ptr (PA.mk (1) (0) (0) (0)),
 PV.int IntKind.i64
 (Int.tmod pt (↑(List.length (S.madeL nl (fun (j : Nat) => tl (j + al)) fun (j : Nat) => vl (j + al))) : Int)),
 PV.own (3) (6) (List.length x7), PV.own (4) (3) (List.length x8),
 PV.int IntKind.i64 x0, PV.ptr (PA.mk (5) (0) (0) (0)),
 PV.own (4) (3) (List.length x8),
 PV.int IntKind.i64
 (↑(List.length
 (Prod.snd
 (S.faiS (List.length (S.madeL nl (fun (j : Nat) => tl (j + al)) fun (j : Nat) => vl (j + al)))
 (S.netE (List.length (S.madeL nl (fun (j : Nat) => tl (j + al)) fun (j : Nat) => vl (j + al)))
 (fun (j : Nat) =>
 Prod.fst
 (S.at' (S.madeL nl (fun (j : Nat) => tl (j + al)) fun (j : Nat) => vl (j + al)) j))
 (fun (j : Nat) =>
 Prod.fst
 (Prod.snd
 (S.at' (S.madeL nl (fun (j : Nat) => tl (j + al)) fun (j : Nat) => vl (j + al)) j)))
 (fun (j : Nat) =>
 Prod.snd
 (Prod.snd
 (S.at' (S.madeL nl (fun (j : Nat) => tl (j + al)) fun (j : Nat) => vl (j + al)) j)))
 (1 : Int))))) :
 Int),
 PV.int IntKind.i64 x1, PV.loose (PA.mk (4) (3) x2 (0)) x3,
 PV.int IntKind.i64 x4, PV.int IntKind.i64 x5], [[(1, (true, Blk.cells [PV.own (2) (3) (List.length x6), PV.int IntKind.i64 (1 : Int)])), (2, (true, Blk.cols (List.length x6)
 [Col.str fun (j : Nat) => (S.at' x6 j).1,
 Col.int IntKind.i64 fun (j : Nat) => (S.at' x6 j).2.1,
 Col.int IntKind.i64 fun (j : Nat) => (S.at' x6 j).2.2])), (3, (true, Blk.cols (List.length x7)
 [Col.int IntKind.i64 fun (j : Nat) => (S.at' x7 j).1,
 Col.int IntKind.i64 fun (j : Nat) => (S.at' x7 j).2.1,
 Col.int IntKind.i64 fun (j : Nat) => (S.at' x7 j).2.2.1,
 Col.int IntKind.i64 fun (j : Nat) => (S.at' x7 j).2.2.2.1,
 Col.int IntKind.i64 fun (j : Nat) =>
 (S.at' x7 j).2.2.2.2.1,
 Col.int IntKind.i64 fun (j : Nat) =>
 (S.at' x7 j).2.2.2.2.2])), (4, (true, Blk.cols (List.length x8)
 [Col.int IntKind.i64 fun (j : Nat) => (S.at' x8 j).1,
 Col.int IntKind.i64 fun (j : Nat) => (S.at' x8 j).2.1,
 Col.int IntKind.i64 fun (j : Nat) => (S.at' x8 j).2.2])), (5, (true, Blk.cells [PV.int IntKind.i64 x9, PV.int IntKind.i64 x10, PV.int IntKind.i64 x11]))], [(0, (false, .cols ml [.int .u8 tl, .int .u8 vl]))]], 6⟩
noncomputable def q9 (al nl ml : Nat) (tl : Nat → Int) (vl : Nat → Int) (pt : Int) : St9 → Option (St9 ⊕ Rt9)
  | .h0 x0 x1 x2 x3 x4 => bif (decide
 (x1 <
 (↑(List.length
 (Prod.snd
 (S.faiS (List.length (S.madeL nl (fun (j : Nat) => tl (j + al)) fun (j : Nat) => vl (j + al)))
 (S.netE (List.length (S.madeL nl (fun (j : Nat) => tl (j + al)) fun (j : Nat) => vl (j + al)))
 (fun (j : Nat) =>
 Prod.fst
 (S.at' (S.madeL nl (fun (j : Nat) => tl (j + al)) fun (j : Nat) => vl (j + al)) j))
 (fun (j : Nat) =>
 Prod.fst
 (Prod.snd
 (S.at' (S.madeL nl (fun (j : Nat) => tl (j + al)) fun (j : Nat) => vl (j + al)) j)))
 (fun (j : Nat) =>
 Prod.snd
 (Prod.snd
 (S.at' (S.madeL nl (fun (j : Nat) => tl (j + al)) fun (j : Nat) => vl (j + al)) j)))
 (1 : Int))))) :
 Int)))
 then (bif (decide ((0 : Int) ≤ x1 ∧ x1 < (↑(List.length x4) : Int)))
 then (bif (decide (Int.toNat x1 < List.length x4))
 then (bif (lim IntKind.i64 (x1 + (1 : Int)))
 then (bif (decide
 ((0 : Int) ≤ x1 + (1 : Int) ∧
 x1 + (1 : Int) ≤ (↑(List.length x4) : Int) ∧ (↑(List.length x4) : Int) ≤ (↑(List.length x4) : Int)))
 then (some (.inl (.h1 (x0) (x1) (Int.toNat (x1 + (1 : Int))) (List.length x4 - Int.toNat (x1 + (1 : Int))) ((↑(List.length x4 - Int.toNat (x1 + (1 : Int))) : Int)) ((0 : Int)) (x2) (x3) (x4) ((S.at' x4 (Int.toNat x1)).1) ((S.at' x4 (Int.toNat x1)).2.1) ((S.at' x4 (Int.toNat x1)).2.2))))
 else (none))
 else (none))
 else (none))
 else (none))
 else (bif (x0 == (↑(List.length x3) : Int))
 then (some (.inr (true)))
 else (some (.inr (false))))
  | .h1 x0 x1 x2 x3 x4 x5 x6 x7 x8 x9 x10 x11 => bif (decide (x5 < x4))
 then (bif (decide ((0 : Int) ≤ x5 ∧ x5 < (↑x3 : Int)))
 then (bif (decide (Int.toNat x5 + x2 < List.length x8))
 then (bif (decide
 (0 + List.length x6 ≤ List.length x6 ∧
 List.length x6 ≤ 1000000 ∧
 (1 ≤ 1 ∧ 1 ≤ 1000000) ∧ 2 ≤ 2 ∧ 2 ≤ 1000000))
 then (bif (Prod.fst
 (S.safS (List.length x6)
 (S.netE (List.length x6) (fun (j : Nat) => (S.at' x6 j).1)
 (fun (j : Nat) => (S.at' x6 j).2.1)
 (fun (j : Nat) => (S.at' x6 j).2.2) (1 : Int))
 (1)
 (fun (j : Nat) =>
 S.lit
 [Int.tmod pt
 (↑(List.length (S.madeL nl (fun (j : Nat) => tl (j + al)) fun (j : Nat) => vl (j + al))) : Int)]
 (0 : Int) j)
 (2) (fun (j : Nat) => S.lit [x9, (S.at' x8 (Int.toNat x5 + x2)).1] (0 : Int) j)
 (fun (j : Nat) => S.lit [x10, (S.at' x8 (Int.toNat x5 + x2)).2.1] (0 : Int) j)
 fun (j : Nat) => S.lit [x11, (S.at' x8 (Int.toNat x5 + x2)).2.2] (0 : Int) j))
 then (bif (decide (0 + List.length x7 ≤ List.length x7 ∧ List.length x7 ≤ 1000000))
 then (bif (S.any
 (fun (j : Nat) =>
 decide ((S.at' x7 j).1 = x9) &&
 decide ((S.at' x7 j).2.1 = x10) &&
 decide ((S.at' x7 j).2.2.1 = x11) &&
 decide
 ((S.at' x7 j).2.2.2.1 =
 (S.at' x8 (Int.toNat x5 + x2)).1) &&
 decide
 ((S.at' x7 j).2.2.2.2.1 =
 (S.at' x8 (Int.toNat x5 + x2)).2.1) &&
 decide
 ((S.at' x7 j).2.2.2.2.2 =
 (S.at' x8 (Int.toNat x5 + x2)).2.2))
 (List.length x7))
 then (bif (Prod.snd
 (S.safS (List.length x6)
 (S.netE (List.length x6) (fun (j : Nat) => (S.at' x6 j).1)
 (fun (j : Nat) => (S.at' x6 j).2.1)
 (fun (j : Nat) => (S.at' x6 j).2.2) (1 : Int))
 (1)
 (fun (j : Nat) =>
 S.lit
 [Int.tmod pt
 (↑(List.length (S.madeL nl (fun (j : Nat) => tl (j + al)) fun (j : Nat) => vl (j + al))) : Int)]
 (0 : Int) j)
 (2) (fun (j : Nat) => S.lit [x9, (S.at' x8 (Int.toNat x5 + x2)).1] (0 : Int) j)
 (fun (j : Nat) => S.lit [x10, (S.at' x8 (Int.toNat x5 + x2)).2.1] (0 : Int) j)
 fun (j : Nat) => S.lit [x11, (S.at' x8 (Int.toNat x5 + x2)).2.2] (0 : Int) j) !=
 (0 : Int))
 then (some (.inr (false)))
 else (some (.inr (false))))
 else (bif (Prod.snd
 (S.safS (List.length x6)
 (S.netE (List.length x6) (fun (j : Nat) => (S.at' x6 j).1)
 (fun (j : Nat) => (S.at' x6 j).2.1)
 (fun (j : Nat) => (S.at' x6 j).2.2) (1 : Int))
 (1)
 (fun (j : Nat) =>
 S.lit
 [Int.tmod pt
 (↑(List.length (S.madeL nl (fun (j : Nat) => tl (j + al)) fun (j : Nat) => vl (j + al))) : Int)]
 (0 : Int) j)
 (2) (fun (j : Nat) => S.lit [x9, (S.at' x8 (Int.toNat x5 + x2)).1] (0 : Int) j)
 (fun (j : Nat) => S.lit [x10, (S.at' x8 (Int.toNat x5 + x2)).2.1] (0 : Int) j)
 fun (j : Nat) => S.lit [x11, (S.at' x8 (Int.toNat x5 + x2)).2.2] (0 : Int) j) !=
 (0 : Int))
 then (some (.inr (false)))
 else (bif (lim IntKind.i64 (x5 + (1 : Int)))
 then (some (.inl (.h1 (x0) (x1) (x2) (x3) (x4) (x5 + (1 : Int)) (x6) (x7) (x8) (x9) (x10) (x11))))
 else (none))))
 else (none))
 else (bif (decide (0 + List.length x7 ≤ List.length x7 ∧ List.length x7 ≤ 1000000))
 then (bif (S.any
 (fun (j : Nat) =>
 decide ((S.at' x7 j).1 = x9) &&
 decide ((S.at' x7 j).2.1 = x10) &&
 decide ((S.at' x7 j).2.2.1 = x11) &&
 decide
 ((S.at' x7 j).2.2.2.1 =
 (S.at' x8 (Int.toNat x5 + x2)).1) &&
 decide
 ((S.at' x7 j).2.2.2.2.1 =
 (S.at' x8 (Int.toNat x5 + x2)).2.1) &&
 decide
 ((S.at' x7 j).2.2.2.2.2 =
 (S.at' x8 (Int.toNat x5 + x2)).2.2))
 (List.length x7))
 then (bif (Prod.snd
 (S.safS (List.length x6)
 (S.netE (List.length x6) (fun (j : Nat) => (S.at' x6 j).1)
 (fun (j : Nat) => (S.at' x6 j).2.1)
 (fun (j : Nat) => (S.at' x6 j).2.2) (1 : Int))
 (1)
 (fun (j : Nat) =>
 S.lit
 [Int.tmod pt
 (↑(List.length (S.madeL nl (fun (j : Nat) => tl (j + al)) fun (j : Nat) => vl (j + al))) : Int)]
 (0 : Int) j)
 (2) (fun (j : Nat) => S.lit [x9, (S.at' x8 (Int.toNat x5 + x2)).1] (0 : Int) j)
 (fun (j : Nat) => S.lit [x10, (S.at' x8 (Int.toNat x5 + x2)).2.1] (0 : Int) j)
 fun (j : Nat) => S.lit [x11, (S.at' x8 (Int.toNat x5 + x2)).2.2] (0 : Int) j) !=
 (0 : Int))
 then (some (.inr (false)))
 else (bif (lim IntKind.i64 (x0 + (1 : Int)))
 then (bif (lim IntKind.i64 (x5 + (1 : Int)))
 then (some (.inl (.h1 (x0 + (1 : Int)) (x1) (x2) (x3) (x4) (x5 + (1 : Int)) (x6) (x7) (x8) (x9) (x10) (x11))))
 else (none))
 else (none)))
 else (bif (Prod.snd
 (S.safS (List.length x6)
 (S.netE (List.length x6) (fun (j : Nat) => (S.at' x6 j).1)
 (fun (j : Nat) => (S.at' x6 j).2.1)
 (fun (j : Nat) => (S.at' x6 j).2.2) (1 : Int))
 (1)
 (fun (j : Nat) =>
 S.lit
 [Int.tmod pt
 (↑(List.length (S.madeL nl (fun (j : Nat) => tl (j + al)) fun (j : Nat) => vl (j + al))) : Int)]
 (0 : Int) j)
 (2) (fun (j : Nat) => S.lit [x9, (S.at' x8 (Int.toNat x5 + x2)).1] (0 : Int) j)
 (fun (j : Nat) => S.lit [x10, (S.at' x8 (Int.toNat x5 + x2)).2.1] (0 : Int) j)
 fun (j : Nat) => S.lit [x11, (S.at' x8 (Int.toNat x5 + x2)).2.2] (0 : Int) j) !=
 (0 : Int))
 then (some (.inr (false)))
 else (some (.inr (false)))))
 else (none)))
 else (none))
 else (none))
 else (none))
 else (bif (lim IntKind.i64 (x1 + (1 : Int)))
 then (some (.inl (.h0 (x0) (x1 + (1 : Int)) (x6) (x7) (x8))))
 else (none))
noncomputable def p9 (al nl ml : Nat) (tl : Nat → Int) (vl : Nat → Int) (pt : Int) : Option (St9 ⊕ Rt9) := bif (decide ((↑nl : Int) > (4 : Int)))
 then (some (.inr (true)))
 else (bif (decide
 ((al + nl ≤ ml ∧ nl ≤ 1000000) ∧
 ((0 : Int) ≤ (1 : Int) ∧ (1 : Int) ≤ (255 : Int)) ∧
 S.byB (fun (j : Nat) => tl (j + al)) nl = true ∧
 S.byB (fun (j : Nat) => vl (j + al)) nl = true))
 then (bif (lim IntKind.i64 pt)
 then (bif (decide
 ((↑(List.length (S.madeL nl (fun (j : Nat) => tl (j + al)) fun (j : Nat) => vl (j + al))) : Int) = (0 : Int)))
 then (none)
 else (bif (decide
 (0 + List.length (S.madeL nl (fun (j : Nat) => tl (j + al)) fun (j : Nat) => vl (j + al)) ≤
 List.length (S.madeL nl (fun (j : Nat) => tl (j + al)) fun (j : Nat) => vl (j + al)) ∧
 List.length (S.madeL nl (fun (j : Nat) => tl (j + al)) fun (j : Nat) => vl (j + al)) ≤ 1000000))
 then (bif (Prod.fst
 (S.dblE (List.length (S.madeL nl (fun (j : Nat) => tl (j + al)) fun (j : Nat) => vl (j + al)))
 (S.netE (List.length (S.madeL nl (fun (j : Nat) => tl (j + al)) fun (j : Nat) => vl (j + al)))
 (fun (j : Nat) =>
 (S.at' (S.madeL nl (fun (j : Nat) => tl (j + al)) fun (j : Nat) => vl (j + al)) j).1)
 (fun (j : Nat) =>
 Prod.fst
 ((S.at' (S.madeL nl (fun (j : Nat) => tl (j + al)) fun (j : Nat) => vl (j + al)) j).2))
 (fun (j : Nat) =>
 Prod.snd
 ((S.at' (S.madeL nl (fun (j : Nat) => tl (j + al)) fun (j : Nat) => vl (j + al)) j).2))
 (1 : Int))
 (Int.tmod pt
 (↑(List.length (S.madeL nl (fun (j : Nat) => tl (j + al)) fun (j : Nat) => vl (j + al))) : Int))) !=
 (0 : Int))
 then (some (.inr (false)))
 else (bif (Prod.fst
 (S.faiS (List.length (S.madeL nl (fun (j : Nat) => tl (j + al)) fun (j : Nat) => vl (j + al)))
 (S.netE (List.length (S.madeL nl (fun (j : Nat) => tl (j + al)) fun (j : Nat) => vl (j + al)))
 (fun (j : Nat) =>
 (S.at' (S.madeL nl (fun (j : Nat) => tl (j + al)) fun (j : Nat) => vl (j + al)) j).1)
 (fun (j : Nat) =>
 Prod.fst
 ((S.at' (S.madeL nl (fun (j : Nat) => tl (j + al)) fun (j : Nat) => vl (j + al)) j).2))
 (fun (j : Nat) =>
 Prod.snd
 ((S.at' (S.madeL nl (fun (j : Nat) => tl (j + al)) fun (j : Nat) => vl (j + al)) j).2))
 (1 : Int))) !=
 (0 : Int))
 then (some (.inr (false)))
 else (some (.inl (.h0 ((0 : Int)) ((0 : Int)) (S.madeL nl (fun (j : Nat) => tl (j + al)) fun (j : Nat) => vl (j + al)) (Prod.snd
 (S.dblE (List.length (S.madeL nl (fun (j : Nat) => tl (j + al)) fun (j : Nat) => vl (j + al)))
 (S.netE (List.length (S.madeL nl (fun (j : Nat) => tl (j + al)) fun (j : Nat) => vl (j + al)))
 (fun (j : Nat) =>
 (S.at' (S.madeL nl (fun (j : Nat) => tl (j + al)) fun (j : Nat) => vl (j + al)) j).1)
 (fun (j : Nat) =>
 Prod.fst
 ((S.at' (S.madeL nl (fun (j : Nat) => tl (j + al)) fun (j : Nat) => vl (j + al)) j).2))
 (fun (j : Nat) =>
 Prod.snd
 ((S.at' (S.madeL nl (fun (j : Nat) => tl (j + al)) fun (j : Nat) => vl (j + al)) j).2))
 (1 : Int))
 (Int.tmod pt (↑(List.length (S.madeL nl (fun (j : Nat) => tl (j + al)) fun (j : Nat) => vl (j + al))) : Int)))) (Prod.snd
 (S.faiS (List.length (S.madeL nl (fun (j : Nat) => tl (j + al)) fun (j : Nat) => vl (j + al)))
 (S.netE (List.length (S.madeL nl (fun (j : Nat) => tl (j + al)) fun (j : Nat) => vl (j + al)))
 (fun (j : Nat) =>
 (S.at' (S.madeL nl (fun (j : Nat) => tl (j + al)) fun (j : Nat) => vl (j + al)) j).1)
 (fun (j : Nat) =>
 Prod.fst
 ((S.at' (S.madeL nl (fun (j : Nat) => tl (j + al)) fun (j : Nat) => vl (j + al)) j).2))
 (fun (j : Nat) =>
 Prod.snd
 ((S.at' (S.madeL nl (fun (j : Nat) => tl (j + al)) fun (j : Nat) => vl (j + al)) j).2))
 (1 : Int)))))))))
 else (none)))
 else (none))
 else (none))
noncomputable def Te9 (test : Bool → Prop → Prop → Prop) (Kst : KS) (Kret : KR) (al nl ml : Nat) (tl : Nat → Int) (vl : Nat → Int) (pt : Int) : Prop :=
  test (true)
 (test (true)
 (test (decide ((↑nl : Int) > (4 : Int)))
 (test (true)
 (test (true)
 (Kret (PV.tf true) ([[(0, false, Blk.cols ml [Col.int IntKind.u8 tl, Col.int IntKind.u8 vl])]]) (3))
 (Kret (PV.tf false) ([[(0, false, Blk.cols ml [Col.int IntKind.u8 tl, Col.int IntKind.u8 vl])]]) (3)))
 (False))
 (test (decide
 ((al + nl ≤ ml ∧ nl ≤ 1000000) ∧
 ((0 : Int) ≤ (1 : Int) ∧ (1 : Int) ≤ (255 : Int)) ∧
 S.byB (fun (j : Nat) => tl (j + al)) nl = true ∧
 S.byB (fun (j : Nat) => vl (j + al)) nl = true))
 (test (lim IntKind.i64 pt)
 (test (decide
 ((↑(List.length (S.madeL nl (fun (j : Nat) => tl (j + al)) fun (j : Nat) => vl (j + al))) : Int) = (0 : Int)))
 (False)
 (test (decide
 (0 + List.length (S.madeL nl (fun (j : Nat) => tl (j + al)) fun (j : Nat) => vl (j + al)) ≤
 List.length (S.madeL nl (fun (j : Nat) => tl (j + al)) fun (j : Nat) => vl (j + al)) ∧
 List.length (S.madeL nl (fun (j : Nat) => tl (j + al)) fun (j : Nat) => vl (j + al)) ≤ 1000000))
 (test (decide
 (0 + List.length (S.madeL nl (fun (j : Nat) => tl (j + al)) fun (j : Nat) => vl (j + al)) ≤
 List.length (S.madeL nl (fun (j : Nat) => tl (j + al)) fun (j : Nat) => vl (j + al)) ∧
 List.length (S.madeL nl (fun (j : Nat) => tl (j + al)) fun (j : Nat) => vl (j + al)) ≤ 1000000))
 (test (Prod.fst
 (S.dblE (List.length (S.madeL nl (fun (j : Nat) => tl (j + al)) fun (j : Nat) => vl (j + al)))
 (S.netE (List.length (S.madeL nl (fun (j : Nat) => tl (j + al)) fun (j : Nat) => vl (j + al)))
 (fun (j : Nat) =>
 (S.at' (S.madeL nl (fun (j : Nat) => tl (j + al)) fun (j : Nat) => vl (j + al)) j).1)
 (fun (j : Nat) =>
 Prod.fst
 ((S.at' (S.madeL nl (fun (j : Nat) => tl (j + al)) fun (j : Nat) => vl (j + al)) j).2))
 (fun (j : Nat) =>
 Prod.snd
 ((S.at' (S.madeL nl (fun (j : Nat) => tl (j + al)) fun (j : Nat) => vl (j + al)) j).2))
 (1 : Int))
 (Int.tmod pt
 (↑(List.length (S.madeL nl (fun (j : Nat) => tl (j + al)) fun (j : Nat) => vl (j + al))) : Int))) !=
 (0 : Int))
 (Kret (PV.tf false) ([[(0, false, Blk.cols ml [Col.int IntKind.u8 tl, Col.int IntKind.u8 vl])]]) (9))
 (test (Prod.fst
 (S.faiS (List.length (S.madeL nl (fun (j : Nat) => tl (j + al)) fun (j : Nat) => vl (j + al)))
 (S.netE (List.length (S.madeL nl (fun (j : Nat) => tl (j + al)) fun (j : Nat) => vl (j + al)))
 (fun (j : Nat) =>
 (S.at' (S.madeL nl (fun (j : Nat) => tl (j + al)) fun (j : Nat) => vl (j + al)) j).1)
 (fun (j : Nat) =>
 Prod.fst
 ((S.at' (S.madeL nl (fun (j : Nat) => tl (j + al)) fun (j : Nat) => vl (j + al)) j).2))
 (fun (j : Nat) =>
 Prod.snd
 ((S.at' (S.madeL nl (fun (j : Nat) => tl (j + al)) fun (j : Nat) => vl (j + al)) j).2))
 (1 : Int))) !=
 (0 : Int))
 (Kret (PV.tf false) ([[(0, false, Blk.cols ml [Col.int IntKind.u8 tl, Col.int IntKind.u8 vl])]]) (9))
 (Kst (hd Try.f9 0) ([PV.ptr (PA.mk (4) (0) (0) (0)),
 PV.int IntKind.i64
 (Int.tmod pt (↑(List.length (S.madeL nl (fun (j : Nat) => tl (j + al)) fun (j : Nat) => vl (j + al))) : Int)),
 PV.own (6) (6)
 (List.length
 (Prod.snd
 (S.dblE (List.length (S.madeL nl (fun (j : Nat) => tl (j + al)) fun (j : Nat) => vl (j + al)))
 (S.netE (List.length (S.madeL nl (fun (j : Nat) => tl (j + al)) fun (j : Nat) => vl (j + al)))
 (fun (j : Nat) =>
 (S.at' (S.madeL nl (fun (j : Nat) => tl (j + al)) fun (j : Nat) => vl (j + al)) j).1)
 (fun (j : Nat) =>
 Prod.fst
 (Prod.snd
 (S.at' (S.madeL nl (fun (j : Nat) => tl (j + al)) fun (j : Nat) => vl (j + al)) j)))
 (fun (j : Nat) =>
 Prod.snd
 (Prod.snd
 (S.at' (S.madeL nl (fun (j : Nat) => tl (j + al)) fun (j : Nat) => vl (j + al)) j)))
 (1 : Int))
 (Int.tmod pt
 (↑(List.length (S.madeL nl (fun (j : Nat) => tl (j + al)) fun (j : Nat) => vl (j + al))) : Int))))),
 PV.own (8) (3)
 (List.length
 (Prod.snd
 (S.faiS (List.length (S.madeL nl (fun (j : Nat) => tl (j + al)) fun (j : Nat) => vl (j + al)))
 (S.netE (List.length (S.madeL nl (fun (j : Nat) => tl (j + al)) fun (j : Nat) => vl (j + al)))
 (fun (j : Nat) =>
 (S.at' (S.madeL nl (fun (j : Nat) => tl (j + al)) fun (j : Nat) => vl (j + al)) j).1)
 (fun (j : Nat) =>
 Prod.fst
 (Prod.snd
 (S.at' (S.madeL nl (fun (j : Nat) => tl (j + al)) fun (j : Nat) => vl (j + al)) j)))
 (fun (j : Nat) =>
 Prod.snd
 (Prod.snd
 (S.at' (S.madeL nl (fun (j : Nat) => tl (j + al)) fun (j : Nat) => vl (j + al)) j)))
 (1 : Int))))),
 PV.int IntKind.i64 (0 : Int), PV.unk,
 PV.own (8) (3)
 (List.length
 (Prod.snd
 (S.faiS (List.length (S.madeL nl (fun (j : Nat) => tl (j + al)) fun (j : Nat) => vl (j + al)))
 (S.netE (List.length (S.madeL nl (fun (j : Nat) => tl (j + al)) fun (j : Nat) => vl (j + al)))
 (fun (j : Nat) =>
 (S.at' (S.madeL nl (fun (j : Nat) => tl (j + al)) fun (j : Nat) => vl (j + al)) j).1)
 (fun (j : Nat) =>
 Prod.fst
 (Prod.snd
 (S.at' (S.madeL nl (fun (j : Nat) => tl (j + al)) fun (j : Nat) => vl (j + al)) j)))
 (fun (j : Nat) =>
 Prod.snd
 (Prod.snd
 (S.at' (S.madeL nl (fun (j : Nat) => tl (j + al)) fun (j : Nat) => vl (j + al)) j)))
 (1 : Int))))),
 PV.int IntKind.i64
 (↑(List.length
 (Prod.snd
 (S.faiS (List.length (S.madeL nl (fun (j : Nat) => tl (j + al)) fun (j : Nat) => vl (j + al)))
 (S.netE (List.length (S.madeL nl (fun (j : Nat) => tl (j + al)) fun (j : Nat) => vl (j + al)))
 (fun (j : Nat) =>
 Prod.fst
 (S.at' (S.madeL nl (fun (j : Nat) => tl (j + al)) fun (j : Nat) => vl (j + al)) j))
 (fun (j : Nat) =>
 Prod.fst
 (Prod.snd
 (S.at' (S.madeL nl (fun (j : Nat) => tl (j + al)) fun (j : Nat) => vl (j + al)) j)))
 (fun (j : Nat) =>
 Prod.snd
 (Prod.snd
 (S.at' (S.madeL nl (fun (j : Nat) => tl (j + al)) fun (j : Nat) => vl (j + al)) j)))
 (1 : Int))))) :
 Int),
 PV.int IntKind.i64 (0 : Int), PV.unk, PV.unk, PV.unk]) ([[(0, false, Blk.cols ml [Col.int IntKind.u8 tl, Col.int IntKind.u8 vl]),
 (8, true,
 Blk.cols
 (List.length
 (Prod.snd
 (S.faiS (List.length (S.madeL nl (fun (j : Nat) => tl (j + al)) fun (j : Nat) => vl (j + al)))
 (S.netE (List.length (S.madeL nl (fun (j : Nat) => tl (j + al)) fun (j : Nat) => vl (j + al)))
 (fun (j : Nat) =>
 Prod.fst
 (S.at' (S.madeL nl (fun (j : Nat) => tl (j + al)) fun (j : Nat) => vl (j + al)) j))
 (fun (j : Nat) =>
 Prod.fst
 (Prod.snd
 (S.at' (S.madeL nl (fun (j : Nat) => tl (j + al)) fun (j : Nat) => vl (j + al)) j)))
 (fun (j : Nat) =>
 Prod.snd
 (Prod.snd
 (S.at' (S.madeL nl (fun (j : Nat) => tl (j + al)) fun (j : Nat) => vl (j + al)) j)))
 (1 : Int)))))
 [Col.int IntKind.i64 fun (j : Nat) =>
 Prod.fst
 (S.at'
 (Prod.snd
 (S.faiS
 (List.length (S.madeL nl (fun (j : Nat) => tl (j + al)) fun (j : Nat) => vl (j + al)))
 (S.netE
 (List.length (S.madeL nl (fun (j : Nat) => tl (j + al)) fun (j : Nat) => vl (j + al)))
 (fun (j : Nat) =>
 Prod.fst
 (S.at' (S.madeL nl (fun (j : Nat) => tl (j + al)) fun (j : Nat) => vl (j + al))
 j))
 (fun (j : Nat) =>
 Prod.fst
 (Prod.snd
 (S.at' (S.madeL nl (fun (j : Nat) => tl (j + al)) fun (j : Nat) => vl (j + al))
 j)))
 (fun (j : Nat) =>
 Prod.snd
 (Prod.snd
 (S.at' (S.madeL nl (fun (j : Nat) => tl (j + al)) fun (j : Nat) => vl (j + al))
 j)))
 (1 : Int))))
 j),
 Col.int IntKind.i64 fun (j : Nat) =>
 Prod.fst
 (Prod.snd
 (S.at'
 (Prod.snd
 (S.faiS
 (List.length (S.madeL nl (fun (j : Nat) => tl (j + al)) fun (j : Nat) => vl (j + al)))
 (S.netE
 (List.length (S.madeL nl (fun (j : Nat) => tl (j + al)) fun (j : Nat) => vl (j + al)))
 (fun (j : Nat) =>
 Prod.fst
 (S.at' (S.madeL nl (fun (j : Nat) => tl (j + al)) fun (j : Nat) => vl (j + al))
 j))
 (fun (j : Nat) =>
 Prod.fst
 (Prod.snd
 (S.at'
 (S.madeL nl (fun (j : Nat) => tl (j + al)) fun (j : Nat) => vl (j + al)) j)))
 (fun (j : Nat) =>
 Prod.snd
 (Prod.snd
 (S.at'
 (S.madeL nl (fun (j : Nat) => tl (j + al)) fun (j : Nat) => vl (j + al)) j)))
 (1 : Int))))
 j)),
 Col.int IntKind.i64 fun (j : Nat) =>
 Prod.snd
 (Prod.snd
 (S.at'
 (Prod.snd
 (S.faiS
 (List.length (S.madeL nl (fun (j : Nat) => tl (j + al)) fun (j : Nat) => vl (j + al)))
 (S.netE
 (List.length (S.madeL nl (fun (j : Nat) => tl (j + al)) fun (j : Nat) => vl (j + al)))
 (fun (j : Nat) =>
 Prod.fst
 (S.at' (S.madeL nl (fun (j : Nat) => tl (j + al)) fun (j : Nat) => vl (j + al))
 j))
 (fun (j : Nat) =>
 Prod.fst
 (Prod.snd
 (S.at'
 (S.madeL nl (fun (j : Nat) => tl (j + al)) fun (j : Nat) => vl (j + al)) j)))
 (fun (j : Nat) =>
 Prod.snd
 (Prod.snd
 (S.at'
 (S.madeL nl (fun (j : Nat) => tl (j + al)) fun (j : Nat) => vl (j + al)) j)))
 (1 : Int))))
 j))]),
 (6, true,
 Blk.cols
 (List.length
 (Prod.snd
 (S.dblE (List.length (S.madeL nl (fun (j : Nat) => tl (j + al)) fun (j : Nat) => vl (j + al)))
 (S.netE (List.length (S.madeL nl (fun (j : Nat) => tl (j + al)) fun (j : Nat) => vl (j + al)))
 (fun (j : Nat) =>
 Prod.fst
 (S.at' (S.madeL nl (fun (j : Nat) => tl (j + al)) fun (j : Nat) => vl (j + al)) j))
 (fun (j : Nat) =>
 Prod.fst
 (Prod.snd
 (S.at' (S.madeL nl (fun (j : Nat) => tl (j + al)) fun (j : Nat) => vl (j + al)) j)))
 (fun (j : Nat) =>
 Prod.snd
 (Prod.snd
 (S.at' (S.madeL nl (fun (j : Nat) => tl (j + al)) fun (j : Nat) => vl (j + al)) j)))
 (1 : Int))
 (Int.tmod pt
 (↑(List.length (S.madeL nl (fun (j : Nat) => tl (j + al)) fun (j : Nat) => vl (j + al))) :
 Int)))))
 [Col.int IntKind.i64 fun (j : Nat) =>
 Prod.fst
 (S.at'
 (Prod.snd
 (S.dblE
 (List.length (S.madeL nl (fun (j : Nat) => tl (j + al)) fun (j : Nat) => vl (j + al)))
 (S.netE
 (List.length (S.madeL nl (fun (j : Nat) => tl (j + al)) fun (j : Nat) => vl (j + al)))
 (fun (j : Nat) =>
 Prod.fst
 (S.at' (S.madeL nl (fun (j : Nat) => tl (j + al)) fun (j : Nat) => vl (j + al))
 j))
 (fun (j : Nat) =>
 Prod.fst
 (Prod.snd
 (S.at' (S.madeL nl (fun (j : Nat) => tl (j + al)) fun (j : Nat) => vl (j + al))
 j)))
 (fun (j : Nat) =>
 Prod.snd
 (Prod.snd
 (S.at' (S.madeL nl (fun (j : Nat) => tl (j + al)) fun (j : Nat) => vl (j + al))
 j)))
 (1 : Int))
 (Int.tmod pt
 (↑(List.length (S.madeL nl (fun (j : Nat) => tl (j + al)) fun (j : Nat) => vl (j + al))) :
 Int))))
 j),
 Col.int IntKind.i64 fun (j : Nat) =>
 Prod.fst
 (Prod.snd
 (S.at'
 (Prod.snd
 (S.dblE
 (List.length (S.madeL nl (fun (j : Nat) => tl (j + al)) fun (j : Nat) => vl (j + al)))
 (S.netE
 (List.length (S.madeL nl (fun (j : Nat) => tl (j + al)) fun (j : Nat) => vl (j + al)))
 (fun (j : Nat) =>
 Prod.fst
 (S.at' (S.madeL nl (fun (j : Nat) => tl (j + al)) fun (j : Nat) => vl (j + al))
 j))
 (fun (j : Nat) =>
 Prod.fst
 (Prod.snd
 (S.at'
 (S.madeL nl (fun (j : Nat) => tl (j + al)) fun (j : Nat) => vl (j + al)) j)))
 (fun (j : Nat) =>
 Prod.snd
 (Prod.snd
 (S.at'
 (S.madeL nl (fun (j : Nat) => tl (j + al)) fun (j : Nat) => vl (j + al)) j)))
 (1 : Int))
 (Int.tmod pt
 (↑(List.length (S.madeL nl (fun (j : Nat) => tl (j + al)) fun (j : Nat) => vl (j + al))) :
 Int))))
 j)),
 Col.int IntKind.i64 fun (j : Nat) =>
 Prod.fst
 (Prod.snd
 (Prod.snd
 (S.at'
 (Prod.snd
 (S.dblE
 (List.length (S.madeL nl (fun (j : Nat) => tl (j + al)) fun (j : Nat) => vl (j + al)))
 (S.netE
 (List.length (S.madeL nl (fun (j : Nat) => tl (j + al)) fun (j : Nat) => vl (j + al)))
 (fun (j : Nat) =>
 Prod.fst
 (S.at'
 (S.madeL nl (fun (j : Nat) => tl (j + al)) fun (j : Nat) => vl (j + al)) j))
 (fun (j : Nat) =>
 Prod.fst
 (Prod.snd
 (S.at'
 (S.madeL nl (fun (j : Nat) => tl (j + al)) fun (j : Nat) => vl (j + al)) j)))
 (fun (j : Nat) =>
 Prod.snd
 (Prod.snd
 (S.at'
 (S.madeL nl (fun (j : Nat) => tl (j + al)) fun (j : Nat) => vl (j + al)) j)))
 (1 : Int))
 (Int.tmod pt
 (↑(List.length
 (S.madeL nl (fun (j : Nat) => tl (j + al)) fun (j : Nat) => vl (j + al))) :
 Int))))
 j))),
 Col.int IntKind.i64 fun (j : Nat) =>
 Prod.fst
 (Prod.snd
 (Prod.snd
 (Prod.snd
 (S.at'
 (Prod.snd
 (S.dblE
 (List.length (S.madeL nl (fun (j : Nat) => tl (j + al)) fun (j : Nat) => vl (j + al)))
 (S.netE
 (List.length (S.madeL nl (fun (j : Nat) => tl (j + al)) fun (j : Nat) => vl (j + al)))
 (fun (j : Nat) =>
 Prod.fst
 (S.at'
 (S.madeL nl (fun (j : Nat) => tl (j + al)) fun (j : Nat) => vl (j + al)) j))
 (fun (j : Nat) =>
 Prod.fst
 (Prod.snd
 (S.at'
 (S.madeL nl (fun (j : Nat) => tl (j + al)) fun (j : Nat) => vl (j + al)) j)))
 (fun (j : Nat) =>
 Prod.snd
 (Prod.snd
 (S.at'
 (S.madeL nl (fun (j : Nat) => tl (j + al)) fun (j : Nat) => vl (j + al)) j)))
 (1 : Int))
 (Int.tmod pt
 (↑(List.length
 (S.madeL nl (fun (j : Nat) => tl (j + al)) fun (j : Nat) => vl (j + al))) :
 Int))))
 j)))),
 Col.int IntKind.i64 fun (j : Nat) =>
 Prod.fst
 (Prod.snd
 (Prod.snd
 (Prod.snd
 (Prod.snd
 (S.at'
 (Prod.snd
 (S.dblE
 (List.length (S.madeL nl (fun (j : Nat) => tl (j + al)) fun (j : Nat) => vl (j + al)))
 (S.netE
 (List.length
 (S.madeL nl (fun (j : Nat) => tl (j + al)) fun (j : Nat) => vl (j + al)))
 (fun (j : Nat) =>
 Prod.fst
 (S.at'
 (S.madeL nl (fun (j : Nat) => tl (j + al)) fun (j : Nat) => vl (j + al)) j))
 (fun (j : Nat) =>
 Prod.fst
 (Prod.snd
 (S.at'
 (S.madeL nl (fun (j : Nat) => tl (j + al)) fun (j : Nat) => vl (j + al))
 j)))
 (fun (j : Nat) =>
 Prod.snd
 (Prod.snd
 (S.at'
 (S.madeL nl (fun (j : Nat) => tl (j + al)) fun (j : Nat) => vl (j + al))
 j)))
 (1 : Int))
 (Int.tmod pt
 (↑(List.length
 (S.madeL nl (fun (j : Nat) => tl (j + al)) fun (j : Nat) => vl (j + al))) :
 Int))))
 j))))),
 Col.int IntKind.i64 fun (j : Nat) =>
 Prod.snd
 (Prod.snd
 (Prod.snd
 (Prod.snd
 (Prod.snd
 (S.at'
 (Prod.snd
 (S.dblE
 (List.length (S.madeL nl (fun (j : Nat) => tl (j + al)) fun (j : Nat) => vl (j + al)))
 (S.netE
 (List.length
 (S.madeL nl (fun (j : Nat) => tl (j + al)) fun (j : Nat) => vl (j + al)))
 (fun (j : Nat) =>
 Prod.fst
 (S.at'
 (S.madeL nl (fun (j : Nat) => tl (j + al)) fun (j : Nat) => vl (j + al)) j))
 (fun (j : Nat) =>
 Prod.fst
 (Prod.snd
 (S.at'
 (S.madeL nl (fun (j : Nat) => tl (j + al)) fun (j : Nat) => vl (j + al))
 j)))
 (fun (j : Nat) =>
 Prod.snd
 (Prod.snd
 (S.at'
 (S.madeL nl (fun (j : Nat) => tl (j + al)) fun (j : Nat) => vl (j + al))
 j)))
 (1 : Int))
 (Int.tmod pt
 (↑(List.length
 (S.madeL nl (fun (j : Nat) => tl (j + al)) fun (j : Nat) => vl (j + al))) :
 Int))))
 j)))))]),
 (4, true,
 Blk.cells
 [PV.own (3) (3)
 (List.length (S.madeL nl (fun (j : Nat) => tl (j + al)) fun (j : Nat) => vl (j + al))),
 PV.int IntKind.i64 (1 : Int)]),
 (3, true,
 Blk.cols (List.length (S.madeL nl (fun (j : Nat) => tl (j + al)) fun (j : Nat) => vl (j + al)))
 [Col.str fun (j : Nat) =>
 (S.at' (S.madeL nl (fun (j : Nat) => tl (j + al)) fun (j : Nat) => vl (j + al)) j).1,
 Col.int IntKind.i64 fun (j : Nat) =>
 Prod.fst
 ((S.at' (S.madeL nl (fun (j : Nat) => tl (j + al)) fun (j : Nat) => vl (j + al)) j).2),
 Col.int IntKind.i64 fun (j : Nat) =>
 Prod.snd
 (Prod.snd
 (S.at' (S.madeL nl (fun (j : Nat) => tl (j + al)) fun (j : Nat) => vl (j + al)) j))])]]) (9))))
 (False))
 (False)))
 (False))
 (False)))
 (test (true)
 (test (true)
 (Kret (PV.tf true) ([[(0, false, Blk.cols ml [Col.int IntKind.u8 tl, Col.int IntKind.u8 vl])]]) (3))
 (Kret (PV.tf false) ([[(0, false, Blk.cols ml [Col.int IntKind.u8 tl, Col.int IntKind.u8 vl])]]) (3)))
 (False)))
 (False)
set_option maxRecDepth 100000 in
theorem te9 (test : Bool → Prop → Prop → Prop) (Kst : KS) (Kret : KR) (al nl ml : Nat) (tl : Nat → Int) (vl : Nat → Int) (pt : Int) : run test Try.env true (xL6 test) true 400 ⟨9, [.cd (mkFn Try.f9).body], argT 0 [.loose ⟨0, 2, al, 0⟩ nl, .int .u8 pt], [[], [(0, (false, .cols ml [.int .u8 tl, .int .u8 vl]))]], 1⟩ (proj 1 [5, 6, 7, 9, 11, 13, 52, 53, 54, 62, 63, 64] Kst Kret) =
  Te9 test Kst Kret al nl ml tl vl pt := by kernel_rfl
noncomputable def T9_0 (test : Bool → Prop → Prop → Prop) (Kst : KS) (Kret : KR) (al nl ml : Nat) (tl : Nat → Int) (vl : Nat → Int) (pt : Int) (x0 : Int) (x1 : Int) (x2 : List (ByteArray × Int × Int)) (x3 : List (Int × Int × Int × Int × Int × Int)) (x4 : List (Int × Int × Int)) : Prop :=
  test (decide
 (x1 <
 (↑(List.length
 (Prod.snd
 (S.faiS (List.length (S.madeL nl (fun (j : Nat) => tl (j + al)) fun (j : Nat) => vl (j + al)))
 (S.netE (List.length (S.madeL nl (fun (j : Nat) => tl (j + al)) fun (j : Nat) => vl (j + al)))
 (fun (j : Nat) =>
 Prod.fst
 (S.at' (S.madeL nl (fun (j : Nat) => tl (j + al)) fun (j : Nat) => vl (j + al)) j))
 (fun (j : Nat) =>
 Prod.fst
 (Prod.snd
 (S.at' (S.madeL nl (fun (j : Nat) => tl (j + al)) fun (j : Nat) => vl (j + al)) j)))
 (fun (j : Nat) =>
 Prod.snd
 (Prod.snd
 (S.at' (S.madeL nl (fun (j : Nat) => tl (j + al)) fun (j : Nat) => vl (j + al)) j)))
 (1 : Int))))) :
 Int)))
 (test (decide ((0 : Int) ≤ x1 ∧ x1 < (↑(List.length x4) : Int)))
 (test (decide (Int.toNat x1 < List.length x4))
 (test (decide (Int.toNat x1 < List.length x4))
 (test (decide (Int.toNat x1 < List.length x4))
 (test (lim IntKind.i64 (x1 + (1 : Int)))
 (test (decide
 ((0 : Int) ≤ x1 + (1 : Int) ∧
 x1 + (1 : Int) ≤ (↑(List.length x4) : Int) ∧ (↑(List.length x4) : Int) ≤ (↑(List.length x4) : Int)))
 (Kst (hd Try.f9 1) ([PV.ptr (PA.mk (1) (0) (0) (0)),
 PV.int IntKind.i64
 (Int.tmod pt (↑(List.length (S.madeL nl (fun (j : Nat) => tl (j + al)) fun (j : Nat) => vl (j + al))) : Int)),
 PV.own (3) (6) (List.length x3), PV.own (4) (3) (List.length x4),
 PV.int IntKind.i64 x0, PV.ptr (PA.mk (5) (0) (0) (0)),
 PV.own (4) (3) (List.length x4),
 PV.int IntKind.i64
 (↑(List.length
 (Prod.snd
 (S.faiS (List.length (S.madeL nl (fun (j : Nat) => tl (j + al)) fun (j : Nat) => vl (j + al)))
 (S.netE (List.length (S.madeL nl (fun (j : Nat) => tl (j + al)) fun (j : Nat) => vl (j + al)))
 (fun (j : Nat) =>
 Prod.fst
 (S.at' (S.madeL nl (fun (j : Nat) => tl (j + al)) fun (j : Nat) => vl (j + al)) j))
 (fun (j : Nat) =>
 Prod.fst
 (Prod.snd
 (S.at' (S.madeL nl (fun (j : Nat) => tl (j + al)) fun (j : Nat) => vl (j + al)) j)))
 (fun (j : Nat) =>
 Prod.snd
 (Prod.snd
 (S.at' (S.madeL nl (fun (j : Nat) => tl (j + al)) fun (j : Nat) => vl (j + al)) j)))
 (1 : Int))))) :
 Int),
 PV.int IntKind.i64 x1,
 PV.loose (PA.mk (4) (3) (Int.toNat (x1 + (1 : Int))) (0))
 (List.length x4 - Int.toNat (x1 + (1 : Int))),
 PV.int IntKind.i64 (↑(List.length x4 - Int.toNat (x1 + (1 : Int))) : Int),
 PV.int IntKind.i64 (0 : Int)]) ([[(0, false, Blk.cols ml [Col.int IntKind.u8 tl, Col.int IntKind.u8 vl]),
 (4, true,
 Blk.cols (List.length x4)
 [Col.int IntKind.i64 fun (j : Nat) => (S.at' x4 j).1,
 Col.int IntKind.i64 fun (j : Nat) => (S.at' x4 j).2.1,
 Col.int IntKind.i64 fun (j : Nat) => (S.at' x4 j).2.2]),
 (5, true,
 Blk.cells
 [PV.int IntKind.i64 ((S.at' x4 (Int.toNat x1)).1),
 PV.int IntKind.i64 ((S.at' x4 (Int.toNat x1)).2.1),
 PV.int IntKind.i64 ((S.at' x4 (Int.toNat x1)).2.2)]),
 (3, true,
 Blk.cols (List.length x3)
 [Col.int IntKind.i64 fun (j : Nat) => (S.at' x3 j).1,
 Col.int IntKind.i64 fun (j : Nat) => (S.at' x3 j).2.1,
 Col.int IntKind.i64 fun (j : Nat) => (S.at' x3 j).2.2.1,
 Col.int IntKind.i64 fun (j : Nat) => (S.at' x3 j).2.2.2.1,
 Col.int IntKind.i64 fun (j : Nat) =>
 (S.at' x3 j).2.2.2.2.1,
 Col.int IntKind.i64 fun (j : Nat) =>
 (S.at' x3 j).2.2.2.2.2]),
 (1, true,
 Blk.cells [PV.own (2) (3) (List.length x2), PV.int IntKind.i64 (1 : Int)]),
 (2, true,
 Blk.cols (List.length x2)
 [Col.str fun (j : Nat) => (S.at' x2 j).1,
 Col.int IntKind.i64 fun (j : Nat) => (S.at' x2 j).2.1,
 Col.int IntKind.i64 fun (j : Nat) => (S.at' x2 j).2.2])]]) (6))
 (False))
 (False))
 (False))
 (False))
 (False))
 (False))
 (test (x0 == (↑(List.length x3) : Int))
 (Kret (PV.tf true) ([[(0, false, Blk.cols ml [Col.int IntKind.u8 tl, Col.int IntKind.u8 vl])]]) (5))
 (Kret (PV.tf false) ([[(0, false, Blk.cols ml [Col.int IntKind.u8 tl, Col.int IntKind.u8 vl])]]) (5)))
set_option maxRecDepth 100000 in
theorem t9_0 (test : Bool → Prop → Prop → Prop) (Kst : KS) (Kret : KR) (al nl ml : Nat) (tl : Nat → Int) (vl : Nat → Int) (pt : Int) (x0 : Int) (x1 : Int) (x2 : List (ByteArray × Int × Int)) (x3 : List (Int × Int × Int × Int × Int × Int)) (x4 : List (Int × Int × Int)) : run test Try.env true (xL6 test) true 400 ⟨9, hd Try.f9 0, zipT [5, 6, 7, 9, 11, 13, 52, 53, 54, 62, 63, 64] [PV.ptr (PA.mk (1) (0) (0) (0)),
 PV.int IntKind.i64
 (Int.tmod pt (↑(List.length (S.madeL nl (fun (j : Nat) => tl (j + al)) fun (j : Nat) => vl (j + al))) : Int)),
 PV.own (3) (6) (List.length x3), PV.own (4) (3) (List.length x4),
 PV.int IntKind.i64 x0, PV.unk, PV.own (4) (3) (List.length x4),
 PV.int IntKind.i64
 (↑(List.length
 (Prod.snd
 (S.faiS (List.length (S.madeL nl (fun (j : Nat) => tl (j + al)) fun (j : Nat) => vl (j + al)))
 (S.netE (List.length (S.madeL nl (fun (j : Nat) => tl (j + al)) fun (j : Nat) => vl (j + al)))
 (fun (j : Nat) =>
 Prod.fst
 (S.at' (S.madeL nl (fun (j : Nat) => tl (j + al)) fun (j : Nat) => vl (j + al)) j))
 (fun (j : Nat) =>
 Prod.fst
 (Prod.snd
 (S.at' (S.madeL nl (fun (j : Nat) => tl (j + al)) fun (j : Nat) => vl (j + al)) j)))
 (fun (j : Nat) =>
 Prod.snd
 (Prod.snd
 (S.at' (S.madeL nl (fun (j : Nat) => tl (j + al)) fun (j : Nat) => vl (j + al)) j)))
 (1 : Int))))) :
 Int),
 PV.int IntKind.i64 x1, PV.unk, PV.unk, PV.unk], [[(1, (true, Blk.cells [PV.own (2) (3) (List.length x2), PV.int IntKind.i64 (1 : Int)])), (2, (true, Blk.cols (List.length x2)
 [Col.str fun (j : Nat) => (S.at' x2 j).1,
 Col.int IntKind.i64 fun (j : Nat) => (S.at' x2 j).2.1,
 Col.int IntKind.i64 fun (j : Nat) => (S.at' x2 j).2.2])), (3, (true, Blk.cols (List.length x3)
 [Col.int IntKind.i64 fun (j : Nat) => (S.at' x3 j).1,
 Col.int IntKind.i64 fun (j : Nat) => (S.at' x3 j).2.1,
 Col.int IntKind.i64 fun (j : Nat) => (S.at' x3 j).2.2.1,
 Col.int IntKind.i64 fun (j : Nat) => (S.at' x3 j).2.2.2.1,
 Col.int IntKind.i64 fun (j : Nat) =>
 (S.at' x3 j).2.2.2.2.1,
 Col.int IntKind.i64 fun (j : Nat) =>
 (S.at' x3 j).2.2.2.2.2])), (4, (true, Blk.cols (List.length x4)
 [Col.int IntKind.i64 fun (j : Nat) => (S.at' x4 j).1,
 Col.int IntKind.i64 fun (j : Nat) => (S.at' x4 j).2.1,
 Col.int IntKind.i64 fun (j : Nat) => (S.at' x4 j).2.2]))], [(0, (false, .cols ml [.int .u8 tl, .int .u8 vl]))]], 5⟩ (proj 1 [5, 6, 7, 9, 11, 13, 52, 53, 54, 62, 63, 64] Kst Kret) =
  T9_0 test Kst Kret al nl ml tl vl pt x0 x1 x2 x3 x4 := by kernel_rfl
noncomputable def T9_1 (test : Bool → Prop → Prop → Prop) (Kst : KS) (Kret : KR) (al nl ml : Nat) (tl : Nat → Int) (vl : Nat → Int) (pt : Int) (x0 : Int) (x1 : Int) (x2 : Nat) (x3 : Nat) (x4 : Int) (x5 : Int) (x6 : List (ByteArray × Int × Int)) (x7 : List (Int × Int × Int × Int × Int × Int)) (x8 : List (Int × Int × Int)) (x9 : Int) (x10 : Int) (x11 : Int) : Prop :=
  test (decide (x5 < x4))
 (test (decide ((0 : Int) ≤ x5 ∧ x5 < (↑x3 : Int)))
 (test (decide (Int.toNat x5 + x2 < List.length x8))
 (test (decide (Int.toNat x5 + x2 < List.length x8))
 (test (decide (Int.toNat x5 + x2 < List.length x8))
 (test (decide
 (0 + List.length x6 ≤ List.length x6 ∧
 List.length x6 ≤ 1000000 ∧
 (1 ≤ 1 ∧ 1 ≤ 1000000) ∧ 2 ≤ 2 ∧ 2 ≤ 1000000))
 (test (Prod.fst
 (S.safS (List.length x6)
 (S.netE (List.length x6) (fun (j : Nat) => (S.at' x6 j).1)
 (fun (j : Nat) => (S.at' x6 j).2.1)
 (fun (j : Nat) => (S.at' x6 j).2.2) (1 : Int))
 (1)
 (fun (j : Nat) =>
 S.lit
 [Int.tmod pt
 (↑(List.length (S.madeL nl (fun (j : Nat) => tl (j + al)) fun (j : Nat) => vl (j + al))) : Int)]
 (0 : Int) j)
 (2) (fun (j : Nat) => S.lit [x9, (S.at' x8 (Int.toNat x5 + x2)).1] (0 : Int) j)
 (fun (j : Nat) => S.lit [x10, (S.at' x8 (Int.toNat x5 + x2)).2.1] (0 : Int) j)
 fun (j : Nat) => S.lit [x11, (S.at' x8 (Int.toNat x5 + x2)).2.2] (0 : Int) j))
 (test (decide (0 + List.length x7 ≤ List.length x7 ∧ List.length x7 ≤ 1000000))
 (test (S.any
 (fun (j : Nat) =>
 decide ((S.at' x7 j).1 = x9) &&
 decide ((S.at' x7 j).2.1 = x10) &&
 decide ((S.at' x7 j).2.2.1 = x11) &&
 decide
 ((S.at' x7 j).2.2.2.1 =
 (S.at' x8 (Int.toNat x5 + x2)).1) &&
 decide
 ((S.at' x7 j).2.2.2.2.1 =
 (S.at' x8 (Int.toNat x5 + x2)).2.1) &&
 decide
 ((S.at' x7 j).2.2.2.2.2 =
 (S.at' x8 (Int.toNat x5 + x2)).2.2))
 (List.length x7))
 (test (Prod.snd
 (S.safS (List.length x6)
 (S.netE (List.length x6) (fun (j : Nat) => (S.at' x6 j).1)
 (fun (j : Nat) => (S.at' x6 j).2.1)
 (fun (j : Nat) => (S.at' x6 j).2.2) (1 : Int))
 (1)
 (fun (j : Nat) =>
 S.lit
 [Int.tmod pt
 (↑(List.length (S.madeL nl (fun (j : Nat) => tl (j + al)) fun (j : Nat) => vl (j + al))) : Int)]
 (0 : Int) j)
 (2) (fun (j : Nat) => S.lit [x9, (S.at' x8 (Int.toNat x5 + x2)).1] (0 : Int) j)
 (fun (j : Nat) => S.lit [x10, (S.at' x8 (Int.toNat x5 + x2)).2.1] (0 : Int) j)
 fun (j : Nat) => S.lit [x11, (S.at' x8 (Int.toNat x5 + x2)).2.2] (0 : Int) j) !=
 (0 : Int))
 (Kret (PV.tf false) ([[(0, false, Blk.cols ml [Col.int IntKind.u8 tl, Col.int IntKind.u8 vl])]]) (11))
 (Kret (PV.tf false) ([[(0, false, Blk.cols ml [Col.int IntKind.u8 tl, Col.int IntKind.u8 vl])]]) (11)))
 (test (Prod.snd
 (S.safS (List.length x6)
 (S.netE (List.length x6) (fun (j : Nat) => (S.at' x6 j).1)
 (fun (j : Nat) => (S.at' x6 j).2.1)
 (fun (j : Nat) => (S.at' x6 j).2.2) (1 : Int))
 (1)
 (fun (j : Nat) =>
 S.lit
 [Int.tmod pt
 (↑(List.length (S.madeL nl (fun (j : Nat) => tl (j + al)) fun (j : Nat) => vl (j + al))) : Int)]
 (0 : Int) j)
 (2) (fun (j : Nat) => S.lit [x9, (S.at' x8 (Int.toNat x5 + x2)).1] (0 : Int) j)
 (fun (j : Nat) => S.lit [x10, (S.at' x8 (Int.toNat x5 + x2)).2.1] (0 : Int) j)
 fun (j : Nat) => S.lit [x11, (S.at' x8 (Int.toNat x5 + x2)).2.2] (0 : Int) j) !=
 (0 : Int))
 (Kret (PV.tf false) ([[(0, false, Blk.cols ml [Col.int IntKind.u8 tl, Col.int IntKind.u8 vl])]]) (11))
 (test (lim IntKind.i64 (x5 + (1 : Int)))
 (Kst (hd Try.f9 1) ([PV.ptr (PA.mk (1) (0) (0) (0)),
 PV.int IntKind.i64
 (Int.tmod pt (↑(List.length (S.madeL nl (fun (j : Nat) => tl (j + al)) fun (j : Nat) => vl (j + al))) : Int)),
 PV.own (3) (6) (List.length x7), PV.own (4) (3) (List.length x8),
 PV.int IntKind.i64 x0, PV.ptr (PA.mk (5) (0) (0) (0)),
 PV.own (4) (3) (List.length x8),
 PV.int IntKind.i64
 (↑(List.length
 (Prod.snd
 (S.faiS (List.length (S.madeL nl (fun (j : Nat) => tl (j + al)) fun (j : Nat) => vl (j + al)))
 (S.netE (List.length (S.madeL nl (fun (j : Nat) => tl (j + al)) fun (j : Nat) => vl (j + al)))
 (fun (j : Nat) =>
 Prod.fst
 (S.at' (S.madeL nl (fun (j : Nat) => tl (j + al)) fun (j : Nat) => vl (j + al)) j))
 (fun (j : Nat) =>
 Prod.fst
 (Prod.snd
 (S.at' (S.madeL nl (fun (j : Nat) => tl (j + al)) fun (j : Nat) => vl (j + al)) j)))
 (fun (j : Nat) =>
 Prod.snd
 (Prod.snd
 (S.at' (S.madeL nl (fun (j : Nat) => tl (j + al)) fun (j : Nat) => vl (j + al)) j)))
 (1 : Int))))) :
 Int),
 PV.int IntKind.i64 x1, PV.loose (PA.mk (4) (3) x2 (0)) x3,
 PV.int IntKind.i64 x4, PV.int IntKind.i64 (x5 + (1 : Int))]) ([[(0, false, Blk.cols ml [Col.int IntKind.u8 tl, Col.int IntKind.u8 vl]),
 (4, true,
 Blk.cols (List.length x8)
 [Col.int IntKind.i64 fun (j : Nat) => (S.at' x8 j).1,
 Col.int IntKind.i64 fun (j : Nat) => (S.at' x8 j).2.1,
 Col.int IntKind.i64 fun (j : Nat) => (S.at' x8 j).2.2]),
 (5, true,
 Blk.cells
 [PV.int IntKind.i64 x9, PV.int IntKind.i64 x10, PV.int IntKind.i64 x11]),
 (3, true,
 Blk.cols (List.length x7)
 [Col.int IntKind.i64 fun (j : Nat) => (S.at' x7 j).1,
 Col.int IntKind.i64 fun (j : Nat) => (S.at' x7 j).2.1,
 Col.int IntKind.i64 fun (j : Nat) => (S.at' x7 j).2.2.1,
 Col.int IntKind.i64 fun (j : Nat) => (S.at' x7 j).2.2.2.1,
 Col.int IntKind.i64 fun (j : Nat) =>
 (S.at' x7 j).2.2.2.2.1,
 Col.int IntKind.i64 fun (j : Nat) =>
 (S.at' x7 j).2.2.2.2.2]),
 (1, true,
 Blk.cells [PV.own (2) (3) (List.length x6), PV.int IntKind.i64 (1 : Int)]),
 (2, true,
 Blk.cols (List.length x6)
 [Col.str fun (j : Nat) => (S.at' x6 j).1,
 Col.int IntKind.i64 fun (j : Nat) => (S.at' x6 j).2.1,
 Col.int IntKind.i64 fun (j : Nat) => (S.at' x6 j).2.2])]]) (11))
 (False))))
 (False))
 (test (decide (0 + List.length x7 ≤ List.length x7 ∧ List.length x7 ≤ 1000000))
 (test (S.any
 (fun (j : Nat) =>
 decide ((S.at' x7 j).1 = x9) &&
 decide ((S.at' x7 j).2.1 = x10) &&
 decide ((S.at' x7 j).2.2.1 = x11) &&
 decide
 ((S.at' x7 j).2.2.2.1 =
 (S.at' x8 (Int.toNat x5 + x2)).1) &&
 decide
 ((S.at' x7 j).2.2.2.2.1 =
 (S.at' x8 (Int.toNat x5 + x2)).2.1) &&
 decide
 ((S.at' x7 j).2.2.2.2.2 =
 (S.at' x8 (Int.toNat x5 + x2)).2.2))
 (List.length x7))
 (test (Prod.snd
 (S.safS (List.length x6)
 (S.netE (List.length x6) (fun (j : Nat) => (S.at' x6 j).1)
 (fun (j : Nat) => (S.at' x6 j).2.1)
 (fun (j : Nat) => (S.at' x6 j).2.2) (1 : Int))
 (1)
 (fun (j : Nat) =>
 S.lit
 [Int.tmod pt
 (↑(List.length (S.madeL nl (fun (j : Nat) => tl (j + al)) fun (j : Nat) => vl (j + al))) : Int)]
 (0 : Int) j)
 (2) (fun (j : Nat) => S.lit [x9, (S.at' x8 (Int.toNat x5 + x2)).1] (0 : Int) j)
 (fun (j : Nat) => S.lit [x10, (S.at' x8 (Int.toNat x5 + x2)).2.1] (0 : Int) j)
 fun (j : Nat) => S.lit [x11, (S.at' x8 (Int.toNat x5 + x2)).2.2] (0 : Int) j) !=
 (0 : Int))
 (Kret (PV.tf false) ([[(0, false, Blk.cols ml [Col.int IntKind.u8 tl, Col.int IntKind.u8 vl])]]) (11))
 (test (lim IntKind.i64 (x0 + (1 : Int)))
 (test (lim IntKind.i64 (x5 + (1 : Int)))
 (Kst (hd Try.f9 1) ([PV.ptr (PA.mk (1) (0) (0) (0)),
 PV.int IntKind.i64
 (Int.tmod pt (↑(List.length (S.madeL nl (fun (j : Nat) => tl (j + al)) fun (j : Nat) => vl (j + al))) : Int)),
 PV.own (3) (6) (List.length x7), PV.own (4) (3) (List.length x8),
 PV.int IntKind.i64 (x0 + (1 : Int)),
 PV.ptr (PA.mk (5) (0) (0) (0)),
 PV.own (4) (3) (List.length x8),
 PV.int IntKind.i64
 (↑(List.length
 (Prod.snd
 (S.faiS (List.length (S.madeL nl (fun (j : Nat) => tl (j + al)) fun (j : Nat) => vl (j + al)))
 (S.netE (List.length (S.madeL nl (fun (j : Nat) => tl (j + al)) fun (j : Nat) => vl (j + al)))
 (fun (j : Nat) =>
 Prod.fst
 (S.at' (S.madeL nl (fun (j : Nat) => tl (j + al)) fun (j : Nat) => vl (j + al)) j))
 (fun (j : Nat) =>
 Prod.fst
 (Prod.snd
 (S.at' (S.madeL nl (fun (j : Nat) => tl (j + al)) fun (j : Nat) => vl (j + al)) j)))
 (fun (j : Nat) =>
 Prod.snd
 (Prod.snd
 (S.at' (S.madeL nl (fun (j : Nat) => tl (j + al)) fun (j : Nat) => vl (j + al)) j)))
 (1 : Int))))) :
 Int),
 PV.int IntKind.i64 x1, PV.loose (PA.mk (4) (3) x2 (0)) x3,
 PV.int IntKind.i64 x4, PV.int IntKind.i64 (x5 + (1 : Int))]) ([[(0, false, Blk.cols ml [Col.int IntKind.u8 tl, Col.int IntKind.u8 vl]),
 (4, true,
 Blk.cols (List.length x8)
 [Col.int IntKind.i64 fun (j : Nat) => (S.at' x8 j).1,
 Col.int IntKind.i64 fun (j : Nat) => (S.at' x8 j).2.1,
 Col.int IntKind.i64 fun (j : Nat) => (S.at' x8 j).2.2]),
 (5, true,
 Blk.cells
 [PV.int IntKind.i64 x9, PV.int IntKind.i64 x10, PV.int IntKind.i64 x11]),
 (3, true,
 Blk.cols (List.length x7)
 [Col.int IntKind.i64 fun (j : Nat) => (S.at' x7 j).1,
 Col.int IntKind.i64 fun (j : Nat) => (S.at' x7 j).2.1,
 Col.int IntKind.i64 fun (j : Nat) => (S.at' x7 j).2.2.1,
 Col.int IntKind.i64 fun (j : Nat) => (S.at' x7 j).2.2.2.1,
 Col.int IntKind.i64 fun (j : Nat) =>
 (S.at' x7 j).2.2.2.2.1,
 Col.int IntKind.i64 fun (j : Nat) =>
 (S.at' x7 j).2.2.2.2.2]),
 (1, true,
 Blk.cells [PV.own (2) (3) (List.length x6), PV.int IntKind.i64 (1 : Int)]),
 (2, true,
 Blk.cols (List.length x6)
 [Col.str fun (j : Nat) => (S.at' x6 j).1,
 Col.int IntKind.i64 fun (j : Nat) => (S.at' x6 j).2.1,
 Col.int IntKind.i64 fun (j : Nat) => (S.at' x6 j).2.2])]]) (11))
 (False))
 (False)))
 (test (Prod.snd
 (S.safS (List.length x6)
 (S.netE (List.length x6) (fun (j : Nat) => (S.at' x6 j).1)
 (fun (j : Nat) => (S.at' x6 j).2.1)
 (fun (j : Nat) => (S.at' x6 j).2.2) (1 : Int))
 (1)
 (fun (j : Nat) =>
 S.lit
 [Int.tmod pt
 (↑(List.length (S.madeL nl (fun (j : Nat) => tl (j + al)) fun (j : Nat) => vl (j + al))) : Int)]
 (0 : Int) j)
 (2) (fun (j : Nat) => S.lit [x9, (S.at' x8 (Int.toNat x5 + x2)).1] (0 : Int) j)
 (fun (j : Nat) => S.lit [x10, (S.at' x8 (Int.toNat x5 + x2)).2.1] (0 : Int) j)
 fun (j : Nat) => S.lit [x11, (S.at' x8 (Int.toNat x5 + x2)).2.2] (0 : Int) j) !=
 (0 : Int))
 (Kret (PV.tf false) ([[(0, false, Blk.cols ml [Col.int IntKind.u8 tl, Col.int IntKind.u8 vl])]]) (11))
 (Kret (PV.tf false) ([[(0, false, Blk.cols ml [Col.int IntKind.u8 tl, Col.int IntKind.u8 vl])]]) (11))))
 (False)))
 (False))
 (False))
 (False))
 (False))
 (False))
 (test (lim IntKind.i64 (x1 + (1 : Int)))
 (Kst (hd Try.f9 0) ([PV.ptr (PA.mk (1) (0) (0) (0)),
 PV.int IntKind.i64
 (Int.tmod pt (↑(List.length (S.madeL nl (fun (j : Nat) => tl (j + al)) fun (j : Nat) => vl (j + al))) : Int)),
 PV.own (3) (6) (List.length x7), PV.own (4) (3) (List.length x8),
 PV.int IntKind.i64 x0, PV.ptr (PA.mk (5) (0) (0) (0)),
 PV.own (4) (3) (List.length x8),
 PV.int IntKind.i64
 (↑(List.length
 (Prod.snd
 (S.faiS (List.length (S.madeL nl (fun (j : Nat) => tl (j + al)) fun (j : Nat) => vl (j + al)))
 (S.netE (List.length (S.madeL nl (fun (j : Nat) => tl (j + al)) fun (j : Nat) => vl (j + al)))
 (fun (j : Nat) =>
 Prod.fst
 (S.at' (S.madeL nl (fun (j : Nat) => tl (j + al)) fun (j : Nat) => vl (j + al)) j))
 (fun (j : Nat) =>
 Prod.fst
 (Prod.snd
 (S.at' (S.madeL nl (fun (j : Nat) => tl (j + al)) fun (j : Nat) => vl (j + al)) j)))
 (fun (j : Nat) =>
 Prod.snd
 (Prod.snd
 (S.at' (S.madeL nl (fun (j : Nat) => tl (j + al)) fun (j : Nat) => vl (j + al)) j)))
 (1 : Int))))) :
 Int),
 PV.int IntKind.i64 (x1 + (1 : Int)), PV.loose (PA.mk (4) (3) x2 (0)) x3,
 PV.int IntKind.i64 x4, PV.int IntKind.i64 x5]) ([[(0, false, Blk.cols ml [Col.int IntKind.u8 tl, Col.int IntKind.u8 vl]),
 (4, true,
 Blk.cols (List.length x8)
 [Col.int IntKind.i64 fun (j : Nat) => (S.at' x8 j).1,
 Col.int IntKind.i64 fun (j : Nat) => (S.at' x8 j).2.1,
 Col.int IntKind.i64 fun (j : Nat) => (S.at' x8 j).2.2]),
 (5, true,
 Blk.cells
 [PV.int IntKind.i64 x9, PV.int IntKind.i64 x10, PV.int IntKind.i64 x11]),
 (3, true,
 Blk.cols (List.length x7)
 [Col.int IntKind.i64 fun (j : Nat) => (S.at' x7 j).1,
 Col.int IntKind.i64 fun (j : Nat) => (S.at' x7 j).2.1,
 Col.int IntKind.i64 fun (j : Nat) => (S.at' x7 j).2.2.1,
 Col.int IntKind.i64 fun (j : Nat) => (S.at' x7 j).2.2.2.1,
 Col.int IntKind.i64 fun (j : Nat) =>
 (S.at' x7 j).2.2.2.2.1,
 Col.int IntKind.i64 fun (j : Nat) =>
 (S.at' x7 j).2.2.2.2.2]),
 (1, true,
 Blk.cells [PV.own (2) (3) (List.length x6), PV.int IntKind.i64 (1 : Int)]),
 (2, true,
 Blk.cols (List.length x6)
 [Col.str fun (j : Nat) => (S.at' x6 j).1,
 Col.int IntKind.i64 fun (j : Nat) => (S.at' x6 j).2.1,
 Col.int IntKind.i64 fun (j : Nat) => (S.at' x6 j).2.2])]]) (6))
 (False))
set_option maxRecDepth 100000 in
theorem t9_1 (test : Bool → Prop → Prop → Prop) (Kst : KS) (Kret : KR) (al nl ml : Nat) (tl : Nat → Int) (vl : Nat → Int) (pt : Int) (x0 : Int) (x1 : Int) (x2 : Nat) (x3 : Nat) (x4 : Int) (x5 : Int) (x6 : List (ByteArray × Int × Int)) (x7 : List (Int × Int × Int × Int × Int × Int)) (x8 : List (Int × Int × Int)) (x9 : Int) (x10 : Int) (x11 : Int) : run test Try.env true (xL6 test) true 400 ⟨9, hd Try.f9 1, zipT [5, 6, 7, 9, 11, 13, 52, 53, 54, 62, 63, 64] [PV.ptr (PA.mk (1) (0) (0) (0)),
 PV.int IntKind.i64
 (Int.tmod pt (↑(List.length (S.madeL nl (fun (j : Nat) => tl (j + al)) fun (j : Nat) => vl (j + al))) : Int)),
 PV.own (3) (6) (List.length x7), PV.own (4) (3) (List.length x8),
 PV.int IntKind.i64 x0, PV.ptr (PA.mk (5) (0) (0) (0)),
 PV.own (4) (3) (List.length x8),
 PV.int IntKind.i64
 (↑(List.length
 (Prod.snd
 (S.faiS (List.length (S.madeL nl (fun (j : Nat) => tl (j + al)) fun (j : Nat) => vl (j + al)))
 (S.netE (List.length (S.madeL nl (fun (j : Nat) => tl (j + al)) fun (j : Nat) => vl (j + al)))
 (fun (j : Nat) =>
 Prod.fst
 (S.at' (S.madeL nl (fun (j : Nat) => tl (j + al)) fun (j : Nat) => vl (j + al)) j))
 (fun (j : Nat) =>
 Prod.fst
 (Prod.snd
 (S.at' (S.madeL nl (fun (j : Nat) => tl (j + al)) fun (j : Nat) => vl (j + al)) j)))
 (fun (j : Nat) =>
 Prod.snd
 (Prod.snd
 (S.at' (S.madeL nl (fun (j : Nat) => tl (j + al)) fun (j : Nat) => vl (j + al)) j)))
 (1 : Int))))) :
 Int),
 PV.int IntKind.i64 x1, PV.loose (PA.mk (4) (3) x2 (0)) x3,
 PV.int IntKind.i64 x4, PV.int IntKind.i64 x5], [[(1, (true, Blk.cells [PV.own (2) (3) (List.length x6), PV.int IntKind.i64 (1 : Int)])), (2, (true, Blk.cols (List.length x6)
 [Col.str fun (j : Nat) => (S.at' x6 j).1,
 Col.int IntKind.i64 fun (j : Nat) => (S.at' x6 j).2.1,
 Col.int IntKind.i64 fun (j : Nat) => (S.at' x6 j).2.2])), (3, (true, Blk.cols (List.length x7)
 [Col.int IntKind.i64 fun (j : Nat) => (S.at' x7 j).1,
 Col.int IntKind.i64 fun (j : Nat) => (S.at' x7 j).2.1,
 Col.int IntKind.i64 fun (j : Nat) => (S.at' x7 j).2.2.1,
 Col.int IntKind.i64 fun (j : Nat) => (S.at' x7 j).2.2.2.1,
 Col.int IntKind.i64 fun (j : Nat) =>
 (S.at' x7 j).2.2.2.2.1,
 Col.int IntKind.i64 fun (j : Nat) =>
 (S.at' x7 j).2.2.2.2.2])), (4, (true, Blk.cols (List.length x8)
 [Col.int IntKind.i64 fun (j : Nat) => (S.at' x8 j).1,
 Col.int IntKind.i64 fun (j : Nat) => (S.at' x8 j).2.1,
 Col.int IntKind.i64 fun (j : Nat) => (S.at' x8 j).2.2])), (5, (true, Blk.cells [PV.int IntKind.i64 x9, PV.int IntKind.i64 x10, PV.int IntKind.i64 x11]))], [(0, (false, .cols ml [.int .u8 tl, .int .u8 vl]))]], 6⟩ (proj 1 [5, 6, 7, 9, 11, 13, 52, 53, 54, 62, 63, 64] Kst Kret) =
  T9_1 test Kst Kret al nl ml tl vl pt x0 x1 x2 x3 x4 x5 x6 x7 x8 x9 x10 x11 := by kernel_rfl
set_option maxRecDepth 100000 in
theorem be9 (al nl ml : Nat) (tl : Nat → Int) (vl : Nat → Int) (pt : Int) (Kst : KS) (Kret : KR) (x : St9 ⊕ Rt9) (hS : HS 1 400 ((I9 al nl ml tl vl pt)) Kst x) (hR : HR 1 400 ((V9 al nl ml tl vl pt)) (fun r => [newL (1 + 1) ((N9 al nl ml tl vl pt) r) ++ [(0, (false, .cols ml [.int .u8 tl, .int .u8 vl]))]]) Kret x) (h : (bif (decide ((↑nl : Int) > (4 : Int)))
 then (some (.inr (true)))
 else (bif (decide
 ((al + nl ≤ ml ∧ nl ≤ 1000000) ∧
 ((0 : Int) ≤ (1 : Int) ∧ (1 : Int) ≤ (255 : Int)) ∧
 S.byB (fun (j : Nat) => tl (j + al)) nl = true ∧
 S.byB (fun (j : Nat) => vl (j + al)) nl = true))
 then (bif (lim IntKind.i64 pt)
 then (bif (decide
 ((↑(List.length (S.madeL nl (fun (j : Nat) => tl (j + al)) fun (j : Nat) => vl (j + al))) : Int) = (0 : Int)))
 then (none)
 else (bif (decide
 (0 + List.length (S.madeL nl (fun (j : Nat) => tl (j + al)) fun (j : Nat) => vl (j + al)) ≤
 List.length (S.madeL nl (fun (j : Nat) => tl (j + al)) fun (j : Nat) => vl (j + al)) ∧
 List.length (S.madeL nl (fun (j : Nat) => tl (j + al)) fun (j : Nat) => vl (j + al)) ≤ 1000000))
 then (bif (Prod.fst
 (S.dblE (List.length (S.madeL nl (fun (j : Nat) => tl (j + al)) fun (j : Nat) => vl (j + al)))
 (S.netE (List.length (S.madeL nl (fun (j : Nat) => tl (j + al)) fun (j : Nat) => vl (j + al)))
 (fun (j : Nat) =>
 (S.at' (S.madeL nl (fun (j : Nat) => tl (j + al)) fun (j : Nat) => vl (j + al)) j).1)
 (fun (j : Nat) =>
 Prod.fst
 ((S.at' (S.madeL nl (fun (j : Nat) => tl (j + al)) fun (j : Nat) => vl (j + al)) j).2))
 (fun (j : Nat) =>
 Prod.snd
 ((S.at' (S.madeL nl (fun (j : Nat) => tl (j + al)) fun (j : Nat) => vl (j + al)) j).2))
 (1 : Int))
 (Int.tmod pt
 (↑(List.length (S.madeL nl (fun (j : Nat) => tl (j + al)) fun (j : Nat) => vl (j + al))) : Int))) !=
 (0 : Int))
 then (some (.inr (false)))
 else (bif (Prod.fst
 (S.faiS (List.length (S.madeL nl (fun (j : Nat) => tl (j + al)) fun (j : Nat) => vl (j + al)))
 (S.netE (List.length (S.madeL nl (fun (j : Nat) => tl (j + al)) fun (j : Nat) => vl (j + al)))
 (fun (j : Nat) =>
 (S.at' (S.madeL nl (fun (j : Nat) => tl (j + al)) fun (j : Nat) => vl (j + al)) j).1)
 (fun (j : Nat) =>
 Prod.fst
 ((S.at' (S.madeL nl (fun (j : Nat) => tl (j + al)) fun (j : Nat) => vl (j + al)) j).2))
 (fun (j : Nat) =>
 Prod.snd
 ((S.at' (S.madeL nl (fun (j : Nat) => tl (j + al)) fun (j : Nat) => vl (j + al)) j).2))
 (1 : Int))) !=
 (0 : Int))
 then (some (.inr (false)))
 else (some (.inl (.h0 ((0 : Int)) ((0 : Int)) (S.madeL nl (fun (j : Nat) => tl (j + al)) fun (j : Nat) => vl (j + al)) (Prod.snd
 (S.dblE (List.length (S.madeL nl (fun (j : Nat) => tl (j + al)) fun (j : Nat) => vl (j + al)))
 (S.netE (List.length (S.madeL nl (fun (j : Nat) => tl (j + al)) fun (j : Nat) => vl (j + al)))
 (fun (j : Nat) =>
 (S.at' (S.madeL nl (fun (j : Nat) => tl (j + al)) fun (j : Nat) => vl (j + al)) j).1)
 (fun (j : Nat) =>
 Prod.fst
 ((S.at' (S.madeL nl (fun (j : Nat) => tl (j + al)) fun (j : Nat) => vl (j + al)) j).2))
 (fun (j : Nat) =>
 Prod.snd
 ((S.at' (S.madeL nl (fun (j : Nat) => tl (j + al)) fun (j : Nat) => vl (j + al)) j).2))
 (1 : Int))
 (Int.tmod pt (↑(List.length (S.madeL nl (fun (j : Nat) => tl (j + al)) fun (j : Nat) => vl (j + al))) : Int)))) (Prod.snd
 (S.faiS (List.length (S.madeL nl (fun (j : Nat) => tl (j + al)) fun (j : Nat) => vl (j + al)))
 (S.netE (List.length (S.madeL nl (fun (j : Nat) => tl (j + al)) fun (j : Nat) => vl (j + al)))
 (fun (j : Nat) =>
 (S.at' (S.madeL nl (fun (j : Nat) => tl (j + al)) fun (j : Nat) => vl (j + al)) j).1)
 (fun (j : Nat) =>
 Prod.fst
 ((S.at' (S.madeL nl (fun (j : Nat) => tl (j + al)) fun (j : Nat) => vl (j + al)) j).2))
 (fun (j : Nat) =>
 Prod.snd
 ((S.at' (S.madeL nl (fun (j : Nat) => tl (j + al)) fun (j : Nat) => vl (j + al)) j).2))
 (1 : Int)))))))))
 else (none)))
 else (none))
 else (none)) : Option (St9 ⊕ Rt9)) = some x) : Te9 cond Kst Kret al nl ml tl vl pt := by
  unfold Te9
  exact cond_yes rfl (cond_yes rfl (bif_split h
   (fun c0 h => cond_yes rfl (cond_yes rfl (ret_at hR _ h (fun n => n) rfl rfl rfl (rn_bool_tf rfl) rfl (entl_bor (use_lo rfl) rfl rfl entl_nil))))
   (fun c0 h => bif_split h
   (fun c1 h => bif_split h
   (fun c2 h => bif_split h
   (fun c3 h => no_some h)
   (fun c3 h => bif_split h
   (fun c4 h => cond_yes c4 (bif_split h
   (fun c5 h => ret_at hR _ h (fun n => n) rfl rfl rfl (rn_bool_tf rfl) rfl (entl_bor (use_lo rfl) rfl rfl entl_nil))
   (fun c5 h => bif_split h
   (fun c6 h => ret_at hR _ h (fun n => n) rfl rfl rfl (rn_bool_tf rfl) rfl (entl_bor (use_lo rfl) rfl rfl entl_nil))
   (fun c6 h => stop_at hS _ h (fun n => bif Nat.beq n 1 then 4 else bif Nat.beq n 2 then 3 else bif Nat.beq n 3 then 6 else bif Nat.beq n 4 then 8 else n) rfl rfl rfl ⟨(rn_ptr (use_own rfl) rfl rfl), ⟨(rn_int rfl), ⟨(rn_own (use_own rfl) rfl rfl), ⟨(rn_own (use_own rfl) rfl rfl), ⟨(rn_int rfl), ⟨(rn_unk _), ⟨(rn_own (use_own rfl) rfl rfl), ⟨(rn_int rfl), ⟨(rn_int rfl), ⟨(rn_unk _), ⟨(rn_unk _), ⟨(rn_unk _), trivial⟩⟩⟩⟩⟩⟩⟩⟩⟩⟩⟩⟩ rfl (entl_b (use_own rfl) rfl (by simp) (rb_cells ⟨(rn_own (use_own rfl) rfl rfl), (rn_int rfl), trivial⟩) (entl_new (use_own rfl) rfl (Nat.le_of_eq rfl) (rcs_str (fun _ _ => rfl) (rcs_int (fun _ _ => rfl) (rcs_int (fun _ _ => rfl) rcs_nil))) (entl_new (use_own rfl) rfl (Nat.le_of_eq rfl) (rcs_int (fun _ _ => rfl) (rcs_int (fun _ _ => rfl) (rcs_int (fun _ _ => rfl) (rcs_int (fun _ _ => rfl) (rcs_int (fun _ _ => rfl) (rcs_int (fun _ _ => rfl) rcs_nil)))))) (entl_new (use_own rfl) rfl (Nat.le_of_eq rfl) (rcs_int (fun _ _ => rfl) (rcs_int (fun _ _ => rfl) (rcs_int (fun _ _ => rfl) rcs_nil))) (entl_bor (use_lo rfl) rfl rfl entl_nil)))))))))
   (fun c4 h => no_some h)))
   (fun c2 h => no_some h))
   (fun c1 h => no_some h))))
set_option maxRecDepth 100000 in
theorem b9_0 (al nl ml : Nat) (tl : Nat → Int) (vl : Nat → Int) (pt : Int) (Kst : KS) (Kret : KR) (x : St9 ⊕ Rt9) (hS : HS 1 400 ((I9 al nl ml tl vl pt)) Kst x) (hR : HR 1 400 ((V9 al nl ml tl vl pt)) (fun r => [newL (1 + 1) ((N9 al nl ml tl vl pt) r) ++ [(0, (false, .cols ml [.int .u8 tl, .int .u8 vl]))]]) Kret x) (x0 : Int) (x1 : Int) (x2 : List (ByteArray × Int × Int)) (x3 : List (Int × Int × Int × Int × Int × Int)) (x4 : List (Int × Int × Int)) (h : (bif (decide
 (x1 <
 (↑(List.length
 (Prod.snd
 (S.faiS (List.length (S.madeL nl (fun (j : Nat) => tl (j + al)) fun (j : Nat) => vl (j + al)))
 (S.netE (List.length (S.madeL nl (fun (j : Nat) => tl (j + al)) fun (j : Nat) => vl (j + al)))
 (fun (j : Nat) =>
 Prod.fst
 (S.at' (S.madeL nl (fun (j : Nat) => tl (j + al)) fun (j : Nat) => vl (j + al)) j))
 (fun (j : Nat) =>
 Prod.fst
 (Prod.snd
 (S.at' (S.madeL nl (fun (j : Nat) => tl (j + al)) fun (j : Nat) => vl (j + al)) j)))
 (fun (j : Nat) =>
 Prod.snd
 (Prod.snd
 (S.at' (S.madeL nl (fun (j : Nat) => tl (j + al)) fun (j : Nat) => vl (j + al)) j)))
 (1 : Int))))) :
 Int)))
 then (bif (decide ((0 : Int) ≤ x1 ∧ x1 < (↑(List.length x4) : Int)))
 then (bif (decide (Int.toNat x1 < List.length x4))
 then (bif (lim IntKind.i64 (x1 + (1 : Int)))
 then (bif (decide
 ((0 : Int) ≤ x1 + (1 : Int) ∧
 x1 + (1 : Int) ≤ (↑(List.length x4) : Int) ∧ (↑(List.length x4) : Int) ≤ (↑(List.length x4) : Int)))
 then (some (.inl (.h1 (x0) (x1) (Int.toNat (x1 + (1 : Int))) (List.length x4 - Int.toNat (x1 + (1 : Int))) ((↑(List.length x4 - Int.toNat (x1 + (1 : Int))) : Int)) ((0 : Int)) (x2) (x3) (x4) ((S.at' x4 (Int.toNat x1)).1) ((S.at' x4 (Int.toNat x1)).2.1) ((S.at' x4 (Int.toNat x1)).2.2))))
 else (none))
 else (none))
 else (none))
 else (none))
 else (bif (x0 == (↑(List.length x3) : Int))
 then (some (.inr (true)))
 else (some (.inr (false)))) : Option (St9 ⊕ Rt9)) = some x) : T9_0 cond Kst Kret al nl ml tl vl pt x0 x1 x2 x3 x4 := by
  unfold T9_0
  exact bif_split h
   (fun c0 h => bif_split h
   (fun c1 h => bif_split h
   (fun c2 h => cond_yes c2 (cond_yes c2 (bif_split h
   (fun c3 h => bif_split h
   (fun c4 h => stop_at hS _ h (fun n => bif Nat.beq n 1 then 1 else bif Nat.beq n 2 then 2 else bif Nat.beq n 3 then 3 else bif Nat.beq n 4 then 4 else bif Nat.beq n 5 then 5 else n) rfl rfl rfl ⟨(rn_ptr (use_own rfl) rfl rfl), ⟨(rn_int rfl), ⟨(rn_own (use_own rfl) rfl rfl), ⟨(rn_own (use_own rfl) rfl rfl), ⟨(rn_int rfl), ⟨(rn_ptr (use_own rfl) rfl rfl), ⟨(rn_own (use_own rfl) rfl rfl), ⟨(rn_int rfl), ⟨(rn_int rfl), ⟨(rn_loose (use_own rfl) rfl rfl rfl), ⟨(rn_int rfl), ⟨(rn_int rfl), trivial⟩⟩⟩⟩⟩⟩⟩⟩⟩⟩⟩⟩ rfl (entl_b (use_own rfl) rfl (by simp) (rb_cells ⟨(rn_own (use_own rfl) rfl rfl), (rn_int rfl), trivial⟩) (entl_new (use_own rfl) rfl (Nat.le_of_eq rfl) (rcs_str (fun _ _ => rfl) (rcs_int (fun _ _ => rfl) (rcs_int (fun _ _ => rfl) rcs_nil))) (entl_new (use_own rfl) rfl (Nat.le_of_eq rfl) (rcs_int (fun _ _ => rfl) (rcs_int (fun _ _ => rfl) (rcs_int (fun _ _ => rfl) (rcs_int (fun _ _ => rfl) (rcs_int (fun _ _ => rfl) (rcs_int (fun _ _ => rfl) rcs_nil)))))) (entl_new (use_own rfl) rfl (Nat.le_of_eq rfl) (rcs_int (fun _ _ => rfl) (rcs_int (fun _ _ => rfl) (rcs_int (fun _ _ => rfl) rcs_nil))) (entl_b (use_own rfl) rfl (by simp) (rb_cells ⟨(rn_int rfl), (rn_int rfl), (rn_int rfl), trivial⟩) (entl_bor (use_lo rfl) rfl rfl entl_nil)))))))
   (fun c4 h => no_some h))
   (fun c3 h => no_some h))))
   (fun c2 h => no_some h))
   (fun c1 h => no_some h))
   (fun c0 h => bif_split h
   (fun c1 h => ret_at hR _ h (fun n => n) rfl rfl rfl (rn_bool_tf rfl) rfl (entl_bor (use_lo rfl) rfl rfl entl_nil))
   (fun c1 h => ret_at hR _ h (fun n => n) rfl rfl rfl (rn_bool_tf rfl) rfl (entl_bor (use_lo rfl) rfl rfl entl_nil)))
set_option maxRecDepth 100000 in
theorem b9_1 (al nl ml : Nat) (tl : Nat → Int) (vl : Nat → Int) (pt : Int) (Kst : KS) (Kret : KR) (x : St9 ⊕ Rt9) (hS : HS 1 400 ((I9 al nl ml tl vl pt)) Kst x) (hR : HR 1 400 ((V9 al nl ml tl vl pt)) (fun r => [newL (1 + 1) ((N9 al nl ml tl vl pt) r) ++ [(0, (false, .cols ml [.int .u8 tl, .int .u8 vl]))]]) Kret x) (x0 : Int) (x1 : Int) (x2 : Nat) (x3 : Nat) (x4 : Int) (x5 : Int) (x6 : List (ByteArray × Int × Int)) (x7 : List (Int × Int × Int × Int × Int × Int)) (x8 : List (Int × Int × Int)) (x9 : Int) (x10 : Int) (x11 : Int) (h : (bif (decide (x5 < x4))
 then (bif (decide ((0 : Int) ≤ x5 ∧ x5 < (↑x3 : Int)))
 then (bif (decide (Int.toNat x5 + x2 < List.length x8))
 then (bif (decide
 (0 + List.length x6 ≤ List.length x6 ∧
 List.length x6 ≤ 1000000 ∧
 (1 ≤ 1 ∧ 1 ≤ 1000000) ∧ 2 ≤ 2 ∧ 2 ≤ 1000000))
 then (bif (Prod.fst
 (S.safS (List.length x6)
 (S.netE (List.length x6) (fun (j : Nat) => (S.at' x6 j).1)
 (fun (j : Nat) => (S.at' x6 j).2.1)
 (fun (j : Nat) => (S.at' x6 j).2.2) (1 : Int))
 (1)
 (fun (j : Nat) =>
 S.lit
 [Int.tmod pt
 (↑(List.length (S.madeL nl (fun (j : Nat) => tl (j + al)) fun (j : Nat) => vl (j + al))) : Int)]
 (0 : Int) j)
 (2) (fun (j : Nat) => S.lit [x9, (S.at' x8 (Int.toNat x5 + x2)).1] (0 : Int) j)
 (fun (j : Nat) => S.lit [x10, (S.at' x8 (Int.toNat x5 + x2)).2.1] (0 : Int) j)
 fun (j : Nat) => S.lit [x11, (S.at' x8 (Int.toNat x5 + x2)).2.2] (0 : Int) j))
 then (bif (decide (0 + List.length x7 ≤ List.length x7 ∧ List.length x7 ≤ 1000000))
 then (bif (S.any
 (fun (j : Nat) =>
 decide ((S.at' x7 j).1 = x9) &&
 decide ((S.at' x7 j).2.1 = x10) &&
 decide ((S.at' x7 j).2.2.1 = x11) &&
 decide
 ((S.at' x7 j).2.2.2.1 =
 (S.at' x8 (Int.toNat x5 + x2)).1) &&
 decide
 ((S.at' x7 j).2.2.2.2.1 =
 (S.at' x8 (Int.toNat x5 + x2)).2.1) &&
 decide
 ((S.at' x7 j).2.2.2.2.2 =
 (S.at' x8 (Int.toNat x5 + x2)).2.2))
 (List.length x7))
 then (bif (Prod.snd
 (S.safS (List.length x6)
 (S.netE (List.length x6) (fun (j : Nat) => (S.at' x6 j).1)
 (fun (j : Nat) => (S.at' x6 j).2.1)
 (fun (j : Nat) => (S.at' x6 j).2.2) (1 : Int))
 (1)
 (fun (j : Nat) =>
 S.lit
 [Int.tmod pt
 (↑(List.length (S.madeL nl (fun (j : Nat) => tl (j + al)) fun (j : Nat) => vl (j + al))) : Int)]
 (0 : Int) j)
 (2) (fun (j : Nat) => S.lit [x9, (S.at' x8 (Int.toNat x5 + x2)).1] (0 : Int) j)
 (fun (j : Nat) => S.lit [x10, (S.at' x8 (Int.toNat x5 + x2)).2.1] (0 : Int) j)
 fun (j : Nat) => S.lit [x11, (S.at' x8 (Int.toNat x5 + x2)).2.2] (0 : Int) j) !=
 (0 : Int))
 then (some (.inr (false)))
 else (some (.inr (false))))
 else (bif (Prod.snd
 (S.safS (List.length x6)
 (S.netE (List.length x6) (fun (j : Nat) => (S.at' x6 j).1)
 (fun (j : Nat) => (S.at' x6 j).2.1)
 (fun (j : Nat) => (S.at' x6 j).2.2) (1 : Int))
 (1)
 (fun (j : Nat) =>
 S.lit
 [Int.tmod pt
 (↑(List.length (S.madeL nl (fun (j : Nat) => tl (j + al)) fun (j : Nat) => vl (j + al))) : Int)]
 (0 : Int) j)
 (2) (fun (j : Nat) => S.lit [x9, (S.at' x8 (Int.toNat x5 + x2)).1] (0 : Int) j)
 (fun (j : Nat) => S.lit [x10, (S.at' x8 (Int.toNat x5 + x2)).2.1] (0 : Int) j)
 fun (j : Nat) => S.lit [x11, (S.at' x8 (Int.toNat x5 + x2)).2.2] (0 : Int) j) !=
 (0 : Int))
 then (some (.inr (false)))
 else (bif (lim IntKind.i64 (x5 + (1 : Int)))
 then (some (.inl (.h1 (x0) (x1) (x2) (x3) (x4) (x5 + (1 : Int)) (x6) (x7) (x8) (x9) (x10) (x11))))
 else (none))))
 else (none))
 else (bif (decide (0 + List.length x7 ≤ List.length x7 ∧ List.length x7 ≤ 1000000))
 then (bif (S.any
 (fun (j : Nat) =>
 decide ((S.at' x7 j).1 = x9) &&
 decide ((S.at' x7 j).2.1 = x10) &&
 decide ((S.at' x7 j).2.2.1 = x11) &&
 decide
 ((S.at' x7 j).2.2.2.1 =
 (S.at' x8 (Int.toNat x5 + x2)).1) &&
 decide
 ((S.at' x7 j).2.2.2.2.1 =
 (S.at' x8 (Int.toNat x5 + x2)).2.1) &&
 decide
 ((S.at' x7 j).2.2.2.2.2 =
 (S.at' x8 (Int.toNat x5 + x2)).2.2))
 (List.length x7))
 then (bif (Prod.snd
 (S.safS (List.length x6)
 (S.netE (List.length x6) (fun (j : Nat) => (S.at' x6 j).1)
 (fun (j : Nat) => (S.at' x6 j).2.1)
 (fun (j : Nat) => (S.at' x6 j).2.2) (1 : Int))
 (1)
 (fun (j : Nat) =>
 S.lit
 [Int.tmod pt
 (↑(List.length (S.madeL nl (fun (j : Nat) => tl (j + al)) fun (j : Nat) => vl (j + al))) : Int)]
 (0 : Int) j)
 (2) (fun (j : Nat) => S.lit [x9, (S.at' x8 (Int.toNat x5 + x2)).1] (0 : Int) j)
 (fun (j : Nat) => S.lit [x10, (S.at' x8 (Int.toNat x5 + x2)).2.1] (0 : Int) j)
 fun (j : Nat) => S.lit [x11, (S.at' x8 (Int.toNat x5 + x2)).2.2] (0 : Int) j) !=
 (0 : Int))
 then (some (.inr (false)))
 else (bif (lim IntKind.i64 (x0 + (1 : Int)))
 then (bif (lim IntKind.i64 (x5 + (1 : Int)))
 then (some (.inl (.h1 (x0 + (1 : Int)) (x1) (x2) (x3) (x4) (x5 + (1 : Int)) (x6) (x7) (x8) (x9) (x10) (x11))))
 else (none))
 else (none)))
 else (bif (Prod.snd
 (S.safS (List.length x6)
 (S.netE (List.length x6) (fun (j : Nat) => (S.at' x6 j).1)
 (fun (j : Nat) => (S.at' x6 j).2.1)
 (fun (j : Nat) => (S.at' x6 j).2.2) (1 : Int))
 (1)
 (fun (j : Nat) =>
 S.lit
 [Int.tmod pt
 (↑(List.length (S.madeL nl (fun (j : Nat) => tl (j + al)) fun (j : Nat) => vl (j + al))) : Int)]
 (0 : Int) j)
 (2) (fun (j : Nat) => S.lit [x9, (S.at' x8 (Int.toNat x5 + x2)).1] (0 : Int) j)
 (fun (j : Nat) => S.lit [x10, (S.at' x8 (Int.toNat x5 + x2)).2.1] (0 : Int) j)
 fun (j : Nat) => S.lit [x11, (S.at' x8 (Int.toNat x5 + x2)).2.2] (0 : Int) j) !=
 (0 : Int))
 then (some (.inr (false)))
 else (some (.inr (false)))))
 else (none)))
 else (none))
 else (none))
 else (none))
 else (bif (lim IntKind.i64 (x1 + (1 : Int)))
 then (some (.inl (.h0 (x0) (x1 + (1 : Int)) (x6) (x7) (x8))))
 else (none)) : Option (St9 ⊕ Rt9)) = some x) : T9_1 cond Kst Kret al nl ml tl vl pt x0 x1 x2 x3 x4 x5 x6 x7 x8 x9 x10 x11 := by
  unfold T9_1
  exact bif_split h
   (fun c0 h => bif_split h
   (fun c1 h => bif_split h
   (fun c2 h => cond_yes c2 (cond_yes c2 (bif_split h
   (fun c3 h => bif_split h
   (fun c4 h => bif_split h
   (fun c5 h => bif_split h
   (fun c6 h => bif_split h
   (fun c7 h => ret_at hR _ h (fun n => n) rfl rfl rfl (rn_bool_tf rfl) rfl (entl_bor (use_lo rfl) rfl rfl entl_nil))
   (fun c7 h => ret_at hR _ h (fun n => n) rfl rfl rfl (rn_bool_tf rfl) rfl (entl_bor (use_lo rfl) rfl rfl entl_nil)))
   (fun c6 h => bif_split h
   (fun c7 h => ret_at hR _ h (fun n => n) rfl rfl rfl (rn_bool_tf rfl) rfl (entl_bor (use_lo rfl) rfl rfl entl_nil))
   (fun c7 h => bif_split h
   (fun c8 h => stop_at hS _ h (fun n => bif Nat.beq n 1 then 1 else bif Nat.beq n 2 then 2 else bif Nat.beq n 3 then 3 else bif Nat.beq n 4 then 4 else bif Nat.beq n 5 then 5 else n) rfl rfl rfl ⟨(rn_ptr (use_own rfl) rfl rfl), ⟨(rn_int rfl), ⟨(rn_own (use_own rfl) rfl rfl), ⟨(rn_own (use_own rfl) rfl rfl), ⟨(rn_int rfl), ⟨(rn_ptr (use_own rfl) rfl rfl), ⟨(rn_own (use_own rfl) rfl rfl), ⟨(rn_int rfl), ⟨(rn_int rfl), ⟨(rn_loose (use_own rfl) rfl rfl rfl), ⟨(rn_int rfl), ⟨(rn_int rfl), trivial⟩⟩⟩⟩⟩⟩⟩⟩⟩⟩⟩⟩ rfl (entl_b (use_own rfl) rfl (by simp) (rb_cells ⟨(rn_own (use_own rfl) rfl rfl), (rn_int rfl), trivial⟩) (entl_new (use_own rfl) rfl (Nat.le_of_eq rfl) (rcs_str (fun _ _ => rfl) (rcs_int (fun _ _ => rfl) (rcs_int (fun _ _ => rfl) rcs_nil))) (entl_new (use_own rfl) rfl (Nat.le_of_eq rfl) (rcs_int (fun _ _ => rfl) (rcs_int (fun _ _ => rfl) (rcs_int (fun _ _ => rfl) (rcs_int (fun _ _ => rfl) (rcs_int (fun _ _ => rfl) (rcs_int (fun _ _ => rfl) rcs_nil)))))) (entl_new (use_own rfl) rfl (Nat.le_of_eq rfl) (rcs_int (fun _ _ => rfl) (rcs_int (fun _ _ => rfl) (rcs_int (fun _ _ => rfl) rcs_nil))) (entl_b (use_own rfl) rfl (by simp) (rb_cells ⟨(rn_int rfl), (rn_int rfl), (rn_int rfl), trivial⟩) (entl_bor (use_lo rfl) rfl rfl entl_nil)))))))
   (fun c8 h => no_some h))))
   (fun c5 h => no_some h))
   (fun c4 h => bif_split h
   (fun c5 h => bif_split h
   (fun c6 h => bif_split h
   (fun c7 h => ret_at hR _ h (fun n => n) rfl rfl rfl (rn_bool_tf rfl) rfl (entl_bor (use_lo rfl) rfl rfl entl_nil))
   (fun c7 h => bif_split h
   (fun c8 h => bif_split h
   (fun c9 h => stop_at hS _ h (fun n => bif Nat.beq n 1 then 1 else bif Nat.beq n 2 then 2 else bif Nat.beq n 3 then 3 else bif Nat.beq n 4 then 4 else bif Nat.beq n 5 then 5 else n) rfl rfl rfl ⟨(rn_ptr (use_own rfl) rfl rfl), ⟨(rn_int rfl), ⟨(rn_own (use_own rfl) rfl rfl), ⟨(rn_own (use_own rfl) rfl rfl), ⟨(rn_int rfl), ⟨(rn_ptr (use_own rfl) rfl rfl), ⟨(rn_own (use_own rfl) rfl rfl), ⟨(rn_int rfl), ⟨(rn_int rfl), ⟨(rn_loose (use_own rfl) rfl rfl rfl), ⟨(rn_int rfl), ⟨(rn_int rfl), trivial⟩⟩⟩⟩⟩⟩⟩⟩⟩⟩⟩⟩ rfl (entl_b (use_own rfl) rfl (by simp) (rb_cells ⟨(rn_own (use_own rfl) rfl rfl), (rn_int rfl), trivial⟩) (entl_new (use_own rfl) rfl (Nat.le_of_eq rfl) (rcs_str (fun _ _ => rfl) (rcs_int (fun _ _ => rfl) (rcs_int (fun _ _ => rfl) rcs_nil))) (entl_new (use_own rfl) rfl (Nat.le_of_eq rfl) (rcs_int (fun _ _ => rfl) (rcs_int (fun _ _ => rfl) (rcs_int (fun _ _ => rfl) (rcs_int (fun _ _ => rfl) (rcs_int (fun _ _ => rfl) (rcs_int (fun _ _ => rfl) rcs_nil)))))) (entl_new (use_own rfl) rfl (Nat.le_of_eq rfl) (rcs_int (fun _ _ => rfl) (rcs_int (fun _ _ => rfl) (rcs_int (fun _ _ => rfl) rcs_nil))) (entl_b (use_own rfl) rfl (by simp) (rb_cells ⟨(rn_int rfl), (rn_int rfl), (rn_int rfl), trivial⟩) (entl_bor (use_lo rfl) rfl rfl entl_nil)))))))
   (fun c9 h => no_some h))
   (fun c8 h => no_some h)))
   (fun c6 h => bif_split h
   (fun c7 h => ret_at hR _ h (fun n => n) rfl rfl rfl (rn_bool_tf rfl) rfl (entl_bor (use_lo rfl) rfl rfl entl_nil))
   (fun c7 h => ret_at hR _ h (fun n => n) rfl rfl rfl (rn_bool_tf rfl) rfl (entl_bor (use_lo rfl) rfl rfl entl_nil))))
   (fun c5 h => no_some h)))
   (fun c3 h => no_some h))))
   (fun c2 h => no_some h))
   (fun c1 h => no_some h))
   (fun c0 h => bif_split h
   (fun c1 h => stop_at hS _ h (fun n => bif Nat.beq n 1 then 1 else bif Nat.beq n 2 then 2 else bif Nat.beq n 3 then 3 else bif Nat.beq n 4 then 4 else n) rfl rfl rfl ⟨(rn_ptr (use_own rfl) rfl rfl), ⟨(rn_int rfl), ⟨(rn_own (use_own rfl) rfl rfl), ⟨(rn_own (use_own rfl) rfl rfl), ⟨(rn_int rfl), ⟨(rn_unk _), ⟨(rn_own (use_own rfl) rfl rfl), ⟨(rn_int rfl), ⟨(rn_int rfl), ⟨(rn_unk _), ⟨(rn_unk _), ⟨(rn_unk _), trivial⟩⟩⟩⟩⟩⟩⟩⟩⟩⟩⟩⟩ rfl (entl_b (use_own rfl) rfl (by simp) (rb_cells ⟨(rn_own (use_own rfl) rfl rfl), (rn_int rfl), trivial⟩) (entl_new (use_own rfl) rfl (Nat.le_of_eq rfl) (rcs_str (fun _ _ => rfl) (rcs_int (fun _ _ => rfl) (rcs_int (fun _ _ => rfl) rcs_nil))) (entl_new (use_own rfl) rfl (Nat.le_of_eq rfl) (rcs_int (fun _ _ => rfl) (rcs_int (fun _ _ => rfl) (rcs_int (fun _ _ => rfl) (rcs_int (fun _ _ => rfl) (rcs_int (fun _ _ => rfl) (rcs_int (fun _ _ => rfl) rcs_nil)))))) (entl_new (use_own rfl) rfl (Nat.le_of_eq rfl) (rcs_int (fun _ _ => rfl) (rcs_int (fun _ _ => rfl) (rcs_int (fun _ _ => rfl) rcs_nil))) (entl_bor (use_lo rfl) rfl rfl entl_nil))))))
   (fun c1 h => no_some h))
theorem a9 (al nl ml : Nat) (tl : Nat → Int) (vl : Nat → Int) (pt : Int) {r : Rt9} (h : Goes ((q9 al nl ml tl vl pt)) ((p9 al nl ml tl vl pt)) r) : CallR Try.prog 9 [.loose ⟨0, 2, al, 0⟩ nl, .int .u8 pt] [[(0, (false, .cols ml [.int .u8 tl, .int .u8 vl]))]] 1 ((V9 al nl ml tl vl pt) r) ((fun r => [newL (1 + 1) ((N9 al nl ml tl vl pt) r) ++ [(0, (false, .cols ml [.int .u8 tl, .int .u8 vl]))]]) r) 400 ∧ ∃ F, Try.prog.funcs[9]? = some F ∧ F.body.isSome = true ∧ (F.name == "runtime.NumGoroutine") = false := by
  refine dec_calls (f := 9) (lo := 1) (hi := 400) (H := [[(0, (false, .cols ml [.int .u8 tl, .int .u8 vl]))]]) (args := [.loose ⟨0, 2, al, 0⟩ nl, .int .u8 pt]) Try.envOk Try.mixed xL6_ok ((I9 al nl ml tl vl pt)) ((V9 al nl ml tl vl pt)) (fun r => [newL (1 + 1) ((N9 al nl ml tl vl pt) r) ++ [(0, (false, .cols ml [.int .u8 tl, .int .u8 vl]))]]) (fn := mkFn Try.f9) (ts := [5, 6, 7, 9, 11, 13, 52, 53, 54, 62, 63, 64]) (n := 400) rfl (by decide) (by simp) (names_of rfl) ?_ ?_ ?_ h
  · intro s; cases s <;> exact ⟨hd_ok _ _, by simp [I9], names_of rfl, Nat.le_of_ble_eq_true rfl⟩
  · intro Kst Kret x hS hR h
    exact Holds.eq (te9 cond Kst Kret al nl ml tl vl pt) (be9 al nl ml tl vl pt Kst Kret x hS hR h)
  · intro Kst Kret x hS hR s h
    cases s with
    | h0 x0 x1 x2 x3 x4 => exact Holds.eq (t9_0 cond Kst Kret al nl ml tl vl pt x0 x1 x2 x3 x4) (b9_0 al nl ml tl vl pt Kst Kret x hS hR x0 x1 x2 x3 x4 h)
    | h1 x0 x1 x2 x3 x4 x5 x6 x7 x8 x9 x10 x11 => exact Holds.eq (t9_1 cond Kst Kret al nl ml tl vl pt x0 x1 x2 x3 x4 x5 x6 x7 x8 x9 x10 x11) (b9_1 al nl ml tl vl pt Kst Kret x hS hR x0 x1 x2 x3 x4 x5 x6 x7 x8 x9 x10 x11 h)
noncomputable def k9 : Con := ⟨9, [.one (.list [.int .u8, .int .u8]), .one (.plain (.int .u8))], fun (x : (Nat × Nat × Nat × (Nat → Int) × (Nat → Int) × Unit) × Int × Unit) => (fun (al nl ml : Nat) (tl : Nat → Int) (vl : Nat → Int) (pt : Int) => decide ((al + nl ≤ ml) ∧ (0 ≤ pt ∧ pt ≤ 255) ∧ S.byB (fun j => tl (j + al)) nl = true ∧ S.byB (fun j => vl (j + al)) nl = true)) x.1.1 x.1.2.1 x.1.2.2.1 x.1.2.2.2.1 x.1.2.2.2.2.1 x.2.1, fun (x : (Nat × Nat × Nat × (Nat → Int) × (Nat → Int) × Unit) × Int × Unit) => (fun (al nl ml : Nat) (tl : Nat → Int) (vl : Nat → Int) (pt : Int) => (V9 al nl ml tl vl pt) (true)) x.1.1 x.1.2.1 x.1.2.2.1 x.1.2.2.2.1 x.1.2.2.2.2.1 x.2.1, fun (x : (Nat × Nat × Nat × (Nat → Int) × (Nat → Int) × Unit) × Int × Unit) => (fun (al nl ml : Nat) (tl : Nat → Int) (vl : Nat → Int) (pt : Int) => (N9 al nl ml tl vl pt) (true)) x.1.1 x.1.2.1 x.1.2.2.1 x.1.2.2.2.1 x.1.2.2.2.2.1 x.2.1, fun _ _ => .dead⟩
theorem s9i (al nl ml : Nat) (tl : Nat → Int) (vl : Nat → Int) (pt : Int) (M : List (ByteArray × Int × Int)) (hM : S.madeL nl (fun j => tl (j + al)) (fun j => vl (j + al)) = M) (hv : S.netL M 1 = 0) (st : Int) (hst : (Int.tmod pt (M.length : Int)) = st) (h0 : 0 ≤ st ∧ st < (M.length : Int)) (L : List (Int × Int × Int)) (hL : L.length ≤ 62) (hLok : ∀ j, j < L.length → S.okF M.length (S.at' L j).1 (S.at' L j).2.1 (S.at' L j).2.2) (D : List S.P6) (hD : Holds (D = S.dblS M.length st L)) (hDl : D.length ≤ 1000000) (i : Nat) (hi : i < L.length) (xk xl xp : Int) (hx : S.at' L i = (xk, xl, xp)) : ∀ (c j : Nat) (E : List S.P6), j + c = L.length - (i + 1) → E.length ≤ 62 * i + j → Comes (q9 al nl ml tl vl pt) (.h0 (((S.fold (S.dblT M.length st L i) (j + (i + 1)) c E).length : Nat) : Int) (((i + 1 : Nat)) : Int) M D L) true → Comes (q9 al nl ml tl vl pt) (.h1 ((E.length : Nat) : Int) (i : Int) (i + 1) (L.length - (i + 1)) (((L.length - (i + 1) : Nat)) : Int) (j : Int) M D L xk xl xp) true := by
  obtain ⟨v1, v2, v3⟩ := net_ok hv
  intro c
  induction c with
  | zero =>
    intro j E hj hE hm
    rw [Int.natCast_add, Int.natCast_one] at hm
    apply Comes.of
    show Goes _ _ _
    (first | rw [q9] | unfold q9)
    repeat' first
      | with_reducible refine goes_if (fun h => ?_) (fun h => ?_) <;> (try simp only [lim64, imp_false, decide_eq_true_eq, decide_eq_false_iff_not, Int.toNat_natCast, toNat_pred, toNat_succ, Option.getD_some, Option.getD_none, Bool.not_eq_true', Bool.not_eq_false', Bool.and_eq_true, Bool.or_eq_true, Bool.and_eq_false_iff, Bool.or_eq_false_iff, bne_iff_ne, beq_iff_eq, bne_eq_false_iff_eq, beq_eq_false_iff_ne, ne_eq, not_and, Int.not_le, Int.not_lt, ge_iff_le, gt_iff_lt, Nat.not_lt, Nat.not_le, Bool.not_eq_true, Bool.not_eq_false, Bool.true_eq_false, Bool.false_eq_true, not_false_eq_true, not_true_eq_false] at h)
      | exact goes_none.mpr (by omega)
    all_goals first | (exfalso; omega) | exact hm
  | succ c ih =>
    intro j E hj hE hm
    simp only [S.fold] at hm
    rw [show j + (i + 1) + 1 = j + 1 + (i + 1) by omega] at hm
    have hs : S.safS M.length 0 1 (fun j => S.lit [st] 0 j) 2 (fun r => S.lit [xk, (S.at' L (j + (i + 1))).1] 0 r) (fun r => S.lit [xl, (S.at' L (j + (i + 1))).2.1] 0 r) (fun r => S.lit [xp, (S.at' L (j + (i + 1))).2.2] 0 r) = (S.twoB M.length st (xk, xl, xp) (S.at' L (j + (i + 1))), 0) := saf_two (x := (xk, xl, xp)) h0 (by rw [← hx]; exact hLok i hi) (hLok _ (by omega))
    have ha : decide ((xk, xl, xp, (S.at' L (j + (i + 1))).1, (S.at' L (j + (i + 1))).2.1, (S.at' L (j + (i + 1))).2.2) ∈ D) = !S.twoB M.length st (xk, xl, xp) (S.at' L (j + (i + 1))) := by
      have := any_two (n := M.length) (st := st) (L := L) (i := i) (k := j + (i + 1)) (by omega) (by omega)
      rw [hx] at this
      rw [hD.get]; exact this
    have eD : S.dblT M.length st L i E (j + (i + 1)) = if S.twoB M.length st (xk, xl, xp) (S.at' L (j + (i + 1))) = true then E else S.snoc E (xk, xl, xp, (S.at' L (j + (i + 1))).1, (S.at' L (j + (i + 1))).2.1, (S.at' L (j + (i + 1))).2.2) := by unfold S.dblT; rw [hx]
    rw [eD] at hm
    have hk1 : (1 : Nat) ≤ 1000000 := by decide
    by_cases ht : S.twoB M.length st (xk, xl, xp) (S.at' L (j + (i + 1))) = true
    · rw [if_pos ht] at hm
      have ih := ih (j + 1) E (by omega) (by omega) hm
      clear hm eD
      rw [ht] at ha hs
      apply Comes.of
      show Goes _ _ _
      rw [q9]
      simp only [hM, net_nil, hv, Int.toNat_natCast, hst, hs, any_mem, ha]
      clear hs ha
      show Goes _ _ _
      repeat' first
        | with_reducible refine goes_if (fun h => ?_) (fun h => ?_) <;> (try simp only [lim64, imp_false, decide_eq_true_eq, decide_eq_false_iff_not, Int.toNat_natCast, toNat_pred, toNat_succ, Option.getD_some, Option.getD_none, Bool.not_eq_true', Bool.not_eq_false', Bool.and_eq_true, Bool.or_eq_true, Bool.and_eq_false_iff, Bool.or_eq_false_iff, bne_iff_ne, beq_iff_eq, bne_eq_false_iff_eq, beq_eq_false_iff_ne, ne_eq, not_and, Int.not_le, Int.not_lt, ge_iff_le, gt_iff_lt, Nat.not_lt, Nat.not_le, Bool.not_eq_true, Bool.not_eq_false, Bool.true_eq_false, Bool.false_eq_true, not_false_eq_true, not_true_eq_false] at h)
        | exact goes_none.mpr (by omega)
      all_goals first | (exfalso; omega) | exact ih | (exfalso; simp_all; done) | (exfalso; simp at *; done)
    · rw [if_neg ht] at hm
      rw [Bool.not_eq_true] at ht
      have ih := ih (j + 1) _ (by omega) (by rw [snoc_len]; omega) hm
      rw [snoc_len, Int.natCast_add, Int.natCast_one] at ih
      clear hm eD
      rw [ht] at ha hs
      apply Comes.of
      show Goes _ _ _
      rw [q9]
      simp only [hM, net_nil, hv, Int.toNat_natCast, hst, hs, any_mem, ha]
      clear hs ha
      show Goes _ _ _
      repeat' first
        | with_reducible refine goes_if (fun h => ?_) (fun h => ?_) <;> (try simp only [lim64, imp_false, decide_eq_true_eq, decide_eq_false_iff_not, Int.toNat_natCast, toNat_pred, toNat_succ, Option.getD_some, Option.getD_none, Bool.not_eq_true', Bool.not_eq_false', Bool.and_eq_true, Bool.or_eq_true, Bool.and_eq_false_iff, Bool.or_eq_false_iff, bne_iff_ne, beq_iff_eq, bne_eq_false_iff_eq, beq_eq_false_iff_ne, ne_eq, not_and, Int.not_le, Int.not_lt, ge_iff_le, gt_iff_lt, Nat.not_lt, Nat.not_le, Bool.not_eq_true, Bool.not_eq_false, Bool.true_eq_false, Bool.false_eq_true, not_false_eq_true, not_true_eq_false] at h)
        | exact goes_none.mpr (by omega)
      all_goals first | (exfalso; omega) | exact ih | (exfalso; simp_all; done) | (exfalso; simp at *; done)
theorem s9' (al nl ml : Nat) (tl : Nat → Int) (vl : Nat → Int) (pt : Int) (M : List (ByteArray × Int × Int)) (hM : S.madeL nl (fun j => tl (j + al)) (fun j => vl (j + al)) = M) (hv : S.netL M 1 = 0) (st : Int) (hst : (Int.tmod pt (M.length : Int)) = st) (h0 : 0 ≤ st ∧ st < (M.length : Int)) (L : List (Int × Int × Int)) (hs : S.failL M.length = L) (hL : L.length ≤ 62) (hLok : ∀ j, j < L.length → S.okF M.length (S.at' L j).1 (S.at' L j).2.1 (S.at' L j).2.2) (D : List S.P6) (hD : Holds (D = S.dblS M.length st L)) (hDl : D.length ≤ 1000000) : ∀ (c i : Nat) (E : List S.P6), i + c = L.length → E.length ≤ 62 * i → Holds (S.fold (fun D i => S.fold (S.dblT M.length st L i) (i + 1) (L.length - (i + 1)) D) i c E = D) → Comes (q9 al nl ml tl vl pt) (.h0 ((E.length : Nat) : Int) (i : Int) M D L) true := by
  have hf1 : S.faiS M.length 0 = (0, L) := by rw [← hs]; rfl
  intro c
  induction c with
  | zero =>
    intro i E hi hE he
    have he : E = D := he.get
    subst he
    apply Comes.of
    show Goes _ _ _
    rw [q9]
    simp only [hM, net_nil, hv, hf1]
    show Goes _ _ _
    repeat' first
      | with_reducible refine goes_if (fun h => ?_) (fun h => ?_) <;> (try simp only [lim64, imp_false, decide_eq_true_eq, decide_eq_false_iff_not, Int.toNat_natCast, toNat_pred, toNat_succ, Option.getD_some, Option.getD_none, Bool.not_eq_true', Bool.not_eq_false', Bool.and_eq_true, Bool.or_eq_true, Bool.and_eq_false_iff, Bool.or_eq_false_iff, bne_iff_ne, beq_iff_eq, bne_eq_false_iff_eq, beq_eq_false_iff_ne, ne_eq, not_and, Int.not_le, Int.not_lt, ge_iff_le, gt_iff_lt, Nat.not_lt, Nat.not_le, Bool.not_eq_true, Bool.not_eq_false, Bool.true_eq_false, Bool.false_eq_true, not_false_eq_true, not_true_eq_false] at h)
      | exact goes_none.mpr (by omega)
    all_goals first | (exfalso; omega) | exact goes_inr.mpr rfl | (exfalso; simp_all; done)
  | succ c ih =>
    intro i E hi hE he
    have hm := s9i al nl ml tl vl pt M hM hv st hst h0 L hL hLok D hD hDl i (by omega) _ _ _ rfl (L.length - (i + 1)) 0 E (Nat.zero_add _) (by omega) (by
      rw [Nat.zero_add]
      exact ih (i + 1) _ (by omega) (by have := dbl_len (n := M.length) (st := st) (L := L) (i := i) (c := L.length - (i + 1)) (k := i + 1) (D := E); omega) ⟨he.get⟩)
    have e1 : ((i : Int) + 1).toNat = i + 1 := by omega
    apply Comes.of
    show Goes _ _ _
    rw [q9]
    simp only [hM, net_nil, hv, hf1, e1, Int.toNat_natCast]
    show Goes _ _ _
    repeat' first
      | with_reducible refine goes_if (fun h => ?_) (fun h => ?_) <;> (try simp only [lim64, imp_false, decide_eq_true_eq, decide_eq_false_iff_not, Int.toNat_natCast, toNat_pred, toNat_succ, Option.getD_some, Option.getD_none, Bool.not_eq_true', Bool.not_eq_false', Bool.and_eq_true, Bool.or_eq_true, Bool.and_eq_false_iff, Bool.or_eq_false_iff, bne_iff_ne, beq_iff_eq, bne_eq_false_iff_eq, beq_eq_false_iff_ne, ne_eq, not_and, Int.not_le, Int.not_lt, ge_iff_le, gt_iff_lt, Nat.not_lt, Nat.not_le, Bool.not_eq_true, Bool.not_eq_false, Bool.true_eq_false, Bool.false_eq_true, not_false_eq_true, not_true_eq_false] at h)
      | exact goes_none.mpr (by omega)
    all_goals first | (exfalso; omega) | exact hm | (exfalso; simp_all; done)
theorem s9 (al nl ml : Nat) (tl : Nat → Int) (vl : Nat → Int) (pt : Int) (hp : (al + nl ≤ ml) ∧ (0 ≤ pt ∧ pt ≤ 255) ∧ S.byB (fun j => tl (j + al)) nl = true ∧ S.byB (fun j => vl (j + al)) nl = true) : Goes ((q9 al nl ml tl vl pt)) ((p9 al nl ml tl vl pt)) (true) := by
  obtain ⟨hp1, hb0, ht, hv⟩ := hp
  by_cases h8 : nl ≤ 4
  · obtain ⟨m1, m2⟩ := made_ok (by omega) ht hv
    generalize hM : S.madeL nl (fun j => tl (j + al)) (fun j => vl (j + al)) = M at *
    have hv0 := net_yes (L := M) (de := 1) m1 (by decide) (fun j hj => by have := m2 j hj; exact ⟨this.1, by omega, by omega⟩)
    have hk : 0 ≤ (Int.tmod pt (M.length : Int)) ∧ (Int.tmod pt (M.length : Int)) < (M.length : Int) := ⟨Int.tmod_nonneg _ hb0.1, Int.tmod_lt_of_pos _ (by omega)⟩
    generalize hst : (Int.tmod pt (M.length : Int)) = st at *
    have hfl := fail_len (n := M.length)
    have hok : ∀ j, j < (S.failL M.length).length → S.okF M.length (S.at' (S.failL M.length) j).1 (S.at' (S.failL M.length) j).2.1 (S.at' (S.failL M.length) j).2.2 := fun j hj => all_memF (List.mem_cons_of_mem _ (at_mem hj))
    have hdl := dbe_len (n := M.length) (e := 0) (st := st) (by omega)
    have hd1 : S.dblE M.length 0 st = (0, S.dblS M.length st (S.failL M.length)) := by unfold S.dblE; rw [if_pos rfl, if_pos hk]
    rw [hd1] at hdl
    have hf1 : S.faiS M.length 0 = (0, S.failL M.length) := rfl
    have hm := s9' al nl ml tl vl pt M hM hv0 st hst hk (S.failL M.length) rfl (by omega) hok _ ⟨rfl⟩ hdl (S.failL M.length).length 0 [] (Nat.zero_add _) (Nat.zero_le _) ⟨rfl⟩
    unfold p9
    simp only [hM, net_nil, hv0, hf1, hst, hd1, ht, hv]
    show Goes _ _ _
    repeat' first
      | with_reducible exact goes_inr.mpr rfl
      | with_reducible refine goes_if (fun h => ?_) (fun h => ?_) <;> (try simp only [lim64, imp_false, decide_eq_true_eq, decide_eq_false_iff_not, Int.toNat_natCast, toNat_pred, toNat_succ, Option.getD_some, Option.getD_none, Bool.not_eq_true', Bool.not_eq_false', Bool.and_eq_true, Bool.or_eq_true, Bool.and_eq_false_iff, Bool.or_eq_false_iff, bne_iff_ne, beq_iff_eq, bne_eq_false_iff_eq, beq_eq_false_iff_ne, ne_eq, not_and, Int.not_le, Int.not_lt, ge_iff_le, gt_iff_lt, Nat.not_lt, Nat.not_le, Bool.not_eq_true, Bool.not_eq_false, Bool.true_eq_false, Bool.false_eq_true, not_false_eq_true, not_true_eq_false] at h)
      | exact goes_none.mpr (by omega)
    all_goals first | (exfalso; omega) | exact hm | (exfalso; simp_all; done) | (exfalso; simp at *; done)
  · unfold p9
    rw [decide_eq_true (show (nl : Int) > 4 by omega)]
    exact goes_inr.mpr rfl
theorem k9_ok : k9.ok Try.prog := by
  intro x hx
  obtain ⟨⟨al, nl, ml, tl, vl, _⟩, pt, _⟩ := x
  obtain ⟨h1, h2⟩ := a9 al nl ml tl vl pt (s9 al nl ml tl vl pt (of_dec hx rfl))
  exact ⟨⟨400, (by decide : 1 + 1 + 0 ≤ 400), h1⟩, h2⟩
theorem pre9 {x : SsI k9.ss} (hx : ssFits k9.ss x) : k9.pre (ssj k9.ss x) = true := by
  obtain ⟨⟨n, t, v, u'⟩, pt, u''⟩ := x
  obtain ⟨⟨hn, ht, hv, -⟩, h0, -⟩ := hx
  exact decide_eq_true ⟨Nat.le_of_eq (Nat.zero_add _), h0, byB_mk ht, byB_mk hv⟩
end Go.Ev
