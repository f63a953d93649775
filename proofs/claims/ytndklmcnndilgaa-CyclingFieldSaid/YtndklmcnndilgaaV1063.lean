/-
  The parts that the statement needs, 3 of 4.
-/
import Derived.Test.YtndklmcnndilgaaV1062
namespace Go.Ev
open Go.Proofs
open Go.IntWalk
set_option linter.unusedVariables false
set_option linter.unusedSimpArgs false
set_option maxRecDepth 100000
theorem s35b (ar nr mr : Nat) (tr : Nat → Int) (vr : Nat → Int) (gr : Nat → Int) (ao no mo : Nat) (to : Nat → Bool) (al nl ml : Nat) (tl : Nat → Int) (hp : ar + nr ≤ mr ∧ nr ≤ 1000000 ∧ ao + no ≤ mo ∧ no ≤ 1000000 ∧ al + nl ≤ ml ∧ nl ≤ 1000000) (i : Nat) (hi : i < nr) {R : Bool × Int} (h1 : S.any (fun j => decide (tl (j + al) ≥ tr (i + ar) ∨ tl (j + al) ≤ vr (i + ar))) nl = true → Comes (q35 ar nr mr tr vr gr ao no mo to al nl ml tl) (.h0 ((i : Int) + 1)) R) (h2 : S.any (fun j => decide (tl (j + al) ≥ tr (i + ar) ∨ tl (j + al) ≤ vr (i + ar))) nl = false → R = (false, 0)) : ∀ (k j : Nat) (f : Bool), j + k = nl → Holds (f = S.any (fun j => decide (tl (j + al) ≥ tr (i + ar) ∨ tl (j + al) ≤ vr (i + ar))) j) → Comes (q35 ar nr mr tr vr gr ao no mo to al nl ml tl) (.h1 (i : Int) f (j : Int)) R := by
  obtain ⟨hp1, hp2, hp3, hp4, hp5, hp6⟩ := hp
  intro k
  induction k with
  | zero =>
    intro j f hj ef
    have ef := ef.get
    obtain rfl : nl = j := by omega
    rw [← ef] at h1 h2
    cases f
    all_goals (
      apply Comes.of
      show Goes _ _ _
      (first | rw [q35] | unfold q35)
      repeat' first
        | with_reducible refine goes_if (fun h => ?_) (fun h => ?_) <;> (try simp only [lim64, imp_false, decide_eq_true_eq, decide_eq_false_iff_not, Int.toNat_natCast, toNat_pred, toNat_succ, Option.getD_some, Option.getD_none, Bool.not_eq_true', Bool.not_eq_false', Bool.and_eq_true, Bool.or_eq_true, Bool.and_eq_false_iff, Bool.or_eq_false_iff, bne_iff_ne, beq_iff_eq, bne_eq_false_iff_eq, beq_eq_false_iff_ne, ne_eq, not_and, Int.not_le, Int.not_lt, ge_iff_le, gt_iff_lt, Nat.not_lt, Nat.not_le, Bool.not_eq_true, Bool.not_eq_false, Bool.true_eq_false, Bool.false_eq_true, not_false_eq_true, not_true_eq_false] at h)
        | exact goes_none.mpr (by omega)
      )
    all_goals first | (exfalso; omega) | (exfalso; simp_all; done) | exact h1 rfl | exact goes_inr.mpr (h2 rfl).symm
  | succ k ih =>
    intro j f hj ef
    have ef := ef.get
    cases f
    all_goals (
      apply Comes.of
      show Goes _ _ _
      (first | rw [q35] | unfold q35)
      repeat' first
        | with_reducible refine goes_if (fun h => ?_) (fun h => ?_) <;> (try simp only [lim64, imp_false, decide_eq_true_eq, decide_eq_false_iff_not, Int.toNat_natCast, toNat_pred, toNat_succ, Option.getD_some, Option.getD_none, Bool.not_eq_true', Bool.not_eq_false', Bool.and_eq_true, Bool.or_eq_true, Bool.and_eq_false_iff, Bool.or_eq_false_iff, bne_iff_ne, beq_iff_eq, bne_eq_false_iff_eq, beq_eq_false_iff_ne, ne_eq, not_and, Int.not_le, Int.not_lt, ge_iff_le, gt_iff_lt, Nat.not_lt, Nat.not_le, Bool.not_eq_true, Bool.not_eq_false, Bool.true_eq_false, Bool.false_eq_true, not_false_eq_true, not_true_eq_false] at h)
        | exact goes_none.mpr (by omega)
      )
    all_goals first | (exfalso; omega) | (exfalso; simp_all; done) | (refine ih (j + 1) _ (by omega) ⟨?_⟩; rw [any_succ, ← ef]; first | rfl | (symm; rw [Bool.false_or, decide_eq_true_eq]; omega) | (symm; rw [Bool.false_or, decide_eq_false_iff_not]; (try simp only [Int.toNat_natCast] at *); omega))
theorem s35' (ar nr mr : Nat) (tr : Nat → Int) (vr : Nat → Int) (gr : Nat → Int) (ao no mo : Nat) (to : Nat → Bool) (al nl ml : Nat) (tl : Nat → Int) (hp : ar + nr ≤ mr ∧ nr ≤ 1000000 ∧ ao + no ≤ mo ∧ no ≤ 1000000 ∧ al + nl ≤ ml ∧ nl ≤ 1000000) : ∀ k i : Nat, i + k = nr → Comes (q35 ar nr mr tr vr gr ao no mo to al nl ml tl) (.h0 (i : Int)) (S.erB (fun j => tr (j + ar)) (fun j => vr (j + ar)) nl (fun j => tl (j + al)) i k, 0) := by
  have hp' := hp
  obtain ⟨hp1, hp2, hp3, hp4, hp5, hp6⟩ := hp
  intro k
  induction k with
  | zero =>
    intro i hi
    apply Comes.of
    show Goes _ _ _
    (first | rw [q35] | unfold q35)
    repeat' first
      | with_reducible refine goes_if (fun h => ?_) (fun h => ?_) <;> (try simp only [lim64, imp_false, decide_eq_true_eq, decide_eq_false_iff_not, Int.toNat_natCast, toNat_pred, toNat_succ, Option.getD_some, Option.getD_none, Bool.not_eq_true', Bool.not_eq_false', Bool.and_eq_true, Bool.or_eq_true, Bool.and_eq_false_iff, Bool.or_eq_false_iff, bne_iff_ne, beq_iff_eq, bne_eq_false_iff_eq, beq_eq_false_iff_ne, ne_eq, not_and, Int.not_le, Int.not_lt, ge_iff_le, gt_iff_lt, Nat.not_lt, Nat.not_le, Bool.not_eq_true, Bool.not_eq_false, Bool.true_eq_false, Bool.false_eq_true, not_false_eq_true, not_true_eq_false] at h)
      | exact goes_none.mpr (by omega)
    all_goals first | (exfalso; omega) | rfl
  | succ k ih =>
    intro i hi
    have ih := ih (i + 1) (by omega)
    have hb := s35b ar nr mr tr vr gr ao no mo to al nl ml tl hp' i (by omega) (R := (S.erB (fun j => tr (j + ar)) (fun j => vr (j + ar)) nl (fun j => tl (j + al)) i (k + 1), 0)) (fun h => by simp only [S.erB, h, if_true]; exact ih) (fun h => by simp only [S.erB, h, Bool.false_eq_true, if_false]) nl 0 false (by omega) ⟨rfl⟩
    apply Comes.of
    show Goes _ _ _
    (first | rw [q35] | unfold q35)
    repeat' first
      | with_reducible refine goes_if (fun h => ?_) (fun h => ?_) <;> (try simp only [lim64, imp_false, decide_eq_true_eq, decide_eq_false_iff_not, Int.toNat_natCast, toNat_pred, toNat_succ, Option.getD_some, Option.getD_none, Bool.not_eq_true', Bool.not_eq_false', Bool.and_eq_true, Bool.or_eq_true, Bool.and_eq_false_iff, Bool.or_eq_false_iff, bne_iff_ne, beq_iff_eq, bne_eq_false_iff_eq, beq_eq_false_iff_ne, ne_eq, not_and, Int.not_le, Int.not_lt, ge_iff_le, gt_iff_lt, Nat.not_lt, Nat.not_le, Bool.not_eq_true, Bool.not_eq_false, Bool.true_eq_false, Bool.false_eq_true, not_false_eq_true, not_true_eq_false] at h)
      | exact goes_none.mpr (by omega)
    all_goals first | (exfalso; omega) | exact hb
theorem s35 (ar nr mr : Nat) (tr : Nat → Int) (vr : Nat → Int) (gr : Nat → Int) (ao no mo : Nat) (to : Nat → Bool) (al nl ml : Nat) (tl : Nat → Int) (hp : ar + nr ≤ mr ∧ nr ≤ 1000000 ∧ ao + no ≤ mo ∧ no ≤ 1000000 ∧ al + nl ≤ ml ∧ nl ≤ 1000000) : Goes ((q35 ar nr mr tr vr gr ao no mo to al nl ml tl)) ((p35 ar nr mr tr vr gr ao no mo to al nl ml tl)) (S.erS nr (fun j => tr (j + ar)) (fun j => vr (j + ar)) (fun j => gr (j + ar)) no nl (fun j => tl (j + al))) := by
  unfold S.erS
  by_cases hv : S.histE nr (fun j => tr (j + ar)) (fun j => vr (j + ar)) (fun j => gr (j + ar)) no nl (fun j => tl (j + al)) = 0
  · have hm := s35' ar nr mr tr vr gr ao no mo to al nl ml tl hp nr 0 (by omega)
    obtain ⟨hp1, hp2, hp3, hp4, hp5, hp6⟩ := hp
    rw [if_pos hv]
    show Goes _ _ _
    unfold p35
    repeat' first
      | with_reducible refine goes_if (fun h => ?_) (fun h => ?_) <;> (try simp only [lim64, imp_false, decide_eq_true_eq, decide_eq_false_iff_not, Int.toNat_natCast, toNat_pred, toNat_succ, Option.getD_some, Option.getD_none, Bool.not_eq_true', Bool.not_eq_false', Bool.and_eq_true, Bool.or_eq_true, Bool.and_eq_false_iff, Bool.or_eq_false_iff, bne_iff_ne, beq_iff_eq, bne_eq_false_iff_eq, beq_eq_false_iff_ne, ne_eq, not_and, Int.not_le, Int.not_lt, ge_iff_le, gt_iff_lt, Nat.not_lt, Nat.not_le, Bool.not_eq_true, Bool.not_eq_false, Bool.true_eq_false, Bool.false_eq_true, not_false_eq_true, not_true_eq_false] at h)
      | exact goes_none.mpr (by omega)
    all_goals first | (exfalso; omega) | (exfalso; exact absurd hv (by assumption)) | exact hm
  · obtain ⟨hp1, hp2, hp3, hp4, hp5, hp6⟩ := hp
    rw [if_neg hv]
    show Goes _ _ _
    unfold p35
    repeat' first
      | with_reducible refine goes_if (fun h => ?_) (fun h => ?_) <;> (try simp only [lim64, imp_false, decide_eq_true_eq, decide_eq_false_iff_not, Int.toNat_natCast, toNat_pred, toNat_succ, Option.getD_some, Option.getD_none, Bool.not_eq_true', Bool.not_eq_false', Bool.and_eq_true, Bool.or_eq_true, Bool.and_eq_false_iff, Bool.or_eq_false_iff, bne_iff_ne, beq_iff_eq, bne_eq_false_iff_eq, beq_eq_false_iff_ne, ne_eq, not_and, Int.not_le, Int.not_lt, ge_iff_le, gt_iff_lt, Nat.not_lt, Nat.not_le, Bool.not_eq_true, Bool.not_eq_false, Bool.true_eq_false, Bool.false_eq_true, not_false_eq_true, not_true_eq_false] at h)
      | exact goes_none.mpr (by omega)
    all_goals first | (exfalso; omega) | (exfalso; exact hv (by assumption)) | rfl
theorem k35_ok : k35.ok Try.prog := by
  intro x hx
  obtain ⟨⟨⟨ar, nr, mr, tr, vr, gr, _⟩, ⟨ao, no, mo, to, _⟩, _⟩, ⟨al, nl, ml, tl, _⟩, _⟩ := x
  obtain ⟨h1, h2⟩ := a35 ar nr mr tr vr gr ao no mo to al nl ml tl (s35 ar nr mr tr vr gr ao no mo to al nl ml tl (of_dec hx rfl))
  exact ⟨⟨400, (by decide : 3 + 1 + 0 ≤ 400), h1⟩, h2⟩
inductive St24 where
  | h0 (x0 : Int) (x1 : List (Int × Int × Int)) (x2 : List Bool)
abbrev Rt24 := Int × List (Int × Int × Int) × List Bool
noncomputable def V24 (ar nr mr : Nat) (tr : Nat → Int) (vr : Nat → Int) (gr : Nat → Int) (ao no mo : Nat) (to : Nat → Bool) (al nl ml : Nat) (tl : Nat → Int) (r : Rt24) : PV := PV.tup
 [PV.agg
 [PV.own (4) (3) (List.length r.2.1), PV.own (5) (1) (List.length r.2.2)],
 PV.int IntKind.i64 r.1]
noncomputable def N24 (ar nr mr : Nat) (tr : Nat → Int) (vr : Nat → Int) (gr : Nat → Int) (ao no mo : Nat) (to : Nat → Bool) (al nl ml : Nat) (tl : Nat → Int) (r : Rt24) : List Blk := [Blk.cols (List.length r.2.1)
 [Col.int IntKind.i64 fun j => (S.at' r.2.1 j).1,
 Col.int IntKind.i64 fun j => (S.at' r.2.1 j).2.1,
 Col.int IntKind.i64 fun j => (S.at' r.2.1 j).2.2], Blk.cols (List.length r.2.2) [Col.bool fun j => S.at' r.2.2 j]]
noncomputable def I24 (ar nr mr : Nat) (tr : Nat → Int) (vr : Nat → Int) (gr : Nat → Int) (ao no mo : Nat) (to : Nat → Bool) (al nl ml : Nat) (tl : Nat → Int) : St24 → Hd
  | .h0 x0 x1 x2 => ⟨hd Try.f50 0, [PV.ptr (PA.mk (3) (0) (0) (0)),
 PV.ptr (PA.mk (4) (0) (0) (0)),
 PV.loose (PA.mk (2) (1) al (0)) nl, PV.int IntKind.i64 (↑nl : Int),
 PV.int IntKind.i64 x0], [[(3, (true, Blk.cells [PV.nils, PV.nils])), (4, (true, Blk.cells
 [PV.own (5) (3) (List.length x1), PV.own (6) (1) (List.length x2)])), (5, (true, Blk.cols (List.length x1)
 [Col.int IntKind.i64 fun j => (S.at' x1 j).1,
 Col.int IntKind.i64 fun j => (S.at' x1 j).2.1,
 Col.int IntKind.i64 fun j => (S.at' x1 j).2.2])), (6, (true, Blk.cols (List.length x2) [Col.bool fun j => S.at' x2 j]))], [(0, (false, .cols mr [.int .i64 tr, .int .i64 vr, .int .i64 gr])), (1, (false, .cols mo [.bool to])), (2, (false, .cols ml [.int .i64 tl]))]], 7⟩
noncomputable def q24 (ar nr mr : Nat) (tr : Nat → Int) (vr : Nat → Int) (gr : Nat → Int) (ao no mo : Nat) (to : Nat → Bool) (al nl ml : Nat) (tl : Nat → Int) : St24 → Option (St24 ⊕ Rt24)
  | .h0 x0 x1 x2 => bif (decide (x0 < (↑nl : Int)))
 then (bif (decide ((0 : Int) ≤ x0 ∧ x0 < (↑nl : Int)))
 then (bif (decide (Int.toNat x0 + al < ml))
 then (bif (decide (List.length x2 ≤ List.length x2))
 then (bif (decide
 (0 + List.length x1 ≤ List.length x1 ∧ List.length x1 ≤ 1000000 ∧ List.length x2 = List.length x1))
 then (bif (lim IntKind.i64 (x0 + (1 : Int)))
 then (some (.inl (.h0 (x0 + (1 : Int)) (x1) (S.mkl (List.length x2) fun j =>
 S.at'
 (S.mkl (List.length x2) fun j =>
 S.aft ((S.at' x1 j).1) ((S.at' x1 j).2.1) (S.at' x2 j)
 (tl (Int.toNat x0 + al)))
 j))))
 else (none))
 else (none))
 else (none))
 else (none))
 else (none))
 else (some (.inr ((0 : Int), x1, x2)))
noncomputable def p24 (ar nr mr : Nat) (tr : Nat → Int) (vr : Nat → Int) (gr : Nat → Int) (ao no mo : Nat) (to : Nat → Bool) (al nl ml : Nat) (tl : Nat → Int) : Option (St24 ⊕ Rt24) := bif (decide (ar + nr ≤ mr ∧ nr ≤ 1000000 ∧ al + nl ≤ ml ∧ nl ≤ 1000000))
 then (bif ((S.histE nr (fun j => tr (j + ar)) (fun j => vr (j + ar)) (fun j => gr (j + ar)) no nl
 fun j => tl (j + al)) !=
 (0 : Int))
 then (some (.inr (S.histE nr (fun j => tr (j + ar)) (fun j => vr (j + ar)) (fun j => gr (j + ar)) no nl
 fun j => tl (j + al), [], [])))
 else (bif (decide (ar + nr ≤ mr ∧ nr ≤ 1000000))
 then (bif (decide (ao + no ≤ mo ∧ no ≤ 1000000))
 then (some (.inl (.h0 ((0 : Int)) (S.mkl nr fun j => (tr (j + ar), vr (j + ar), gr (j + ar))) (S.mkl no fun j => to (j + ao)))))
 else (none))
 else (none)))
 else (none)
noncomputable def Te24 (test : Bool → Prop → Prop → Prop) (Kst : KS) (Kret : KR) (ar nr mr : Nat) (tr : Nat → Int) (vr : Nat → Int) (gr : Nat → Int) (ao no mo : Nat) (to : Nat → Bool) (al nl ml : Nat) (tl : Nat → Int) : Prop :=
  test (decide (ar + nr ≤ mr ∧ nr ≤ 1000000 ∧ al + nl ≤ ml ∧ nl ≤ 1000000))
 (test ((S.histE nr (fun j => tr (j + ar)) (fun j => vr (j + ar)) (fun j => gr (j + ar)) no nl
 fun j => tl (j + al)) !=
 (0 : Int))
 (Kret (PV.tup
 [PV.agg [PV.nils, PV.nils],
 PV.int IntKind.i64
 (S.histE nr (fun j => tr (j + ar)) (fun j => vr (j + ar)) (fun j => gr (j + ar)) no
 nl fun j => tl (j + al))]) ([[(2, false, Blk.cols ml [Col.int IntKind.i64 tl]),
 (1, false, Blk.cols mo [Col.bool to]),
 (0, false,
 Blk.cols mr
 [Col.int IntKind.i64 tr, Col.int IntKind.i64 vr, Col.int IntKind.i64 gr])]]) (6))
 (test (decide (ar + nr ≤ mr ∧ nr ≤ 1000000))
 (test (decide (ao + no ≤ mo ∧ no ≤ 1000000))
 (Kst (hd Try.f50 0) ([PV.ptr (PA.mk (4) (0) (0) (0)),
 PV.ptr (PA.mk (12) (0) (0) (0)),
 PV.loose (PA.mk (2) (1) al (0)) nl, PV.int IntKind.i64 (↑nl : Int),
 PV.int IntKind.i64 (0 : Int)]) ([[(2, false, Blk.cols ml [Col.int IntKind.i64 tl]),
 (1, false, Blk.cols mo [Col.bool to]),
 (0, false,
 Blk.cols mr
 [Col.int IntKind.i64 tr, Col.int IntKind.i64 vr, Col.int IntKind.i64 gr]),
 (12, true,
 Blk.cells [PV.own (9) (3) nr, PV.own (11) (1) no]),
 (4, true, Blk.cells [PV.nils, PV.nils]),
 (11, true, Blk.cols no [Col.bool fun j => to (j + ao)]),
 (9, true,
 Blk.cols nr
 [Col.int IntKind.i64 fun j => tr (j + ar),
 Col.int IntKind.i64 fun j => vr (j + ar),
 Col.int IntKind.i64 fun j => gr (j + ar)])]]) (13))
 (False))
 (False)))
 (False)
theorem te24 (test : Bool → Prop → Prop → Prop) (Kst : KS) (Kret : KR) (ar nr mr : Nat) (tr : Nat → Int) (vr : Nat → Int) (gr : Nat → Int) (ao no mo : Nat) (to : Nat → Bool) (al nl ml : Nat) (tl : Nat → Int) : run test Try.env true (xC test) true 400 ⟨50, [.cd (mkFn Try.f50).body], argT 0 [.agg [.loose ⟨0, 3, ar, 0⟩ nr, .loose ⟨1, 1, ao, 0⟩ no], .loose ⟨2, 1, al, 0⟩ nl], [[], [(0, (false, .cols mr [.int .i64 tr, .int .i64 vr, .int .i64 gr])), (1, (false, .cols mo [.bool to])), (2, (false, .cols ml [.int .i64 tl]))]], 3⟩ (proj 3 [4, 7, 19, 20, 21] Kst Kret) =
  Te24 test Kst Kret ar nr mr tr vr gr ao no mo to al nl ml tl := by kernel_rfl
noncomputable def T24_0 (test : Bool → Prop → Prop → Prop) (Kst : KS) (Kret : KR) (ar nr mr : Nat) (tr : Nat → Int) (vr : Nat → Int) (gr : Nat → Int) (ao no mo : Nat) (to : Nat → Bool) (al nl ml : Nat) (tl : Nat → Int) (x0 : Int) (x1 : List (Int × Int × Int)) (x2 : List Bool) : Prop :=
  test (decide (x0 < (↑nl : Int)))
 (test (decide ((0 : Int) ≤ x0 ∧ x0 < (↑nl : Int)))
 (test (decide (Int.toNat x0 + al < ml))
 (test (decide (List.length x2 ≤ List.length x2))
 (test (decide
 (0 + List.length x1 ≤ List.length x1 ∧ List.length x1 ≤ 1000000 ∧ List.length x2 = List.length x1))
 (test (lim IntKind.i64 (x0 + (1 : Int)))
 (Kst (hd Try.f50 0) ([PV.ptr (PA.mk (3) (0) (0) (0)),
 PV.ptr (PA.mk (4) (0) (0) (0)),
 PV.loose (PA.mk (2) (1) al (0)) nl, PV.int IntKind.i64 (↑nl : Int),
 PV.int IntKind.i64 (x0 + (1 : Int))]) ([[(2, false, Blk.cols ml [Col.int IntKind.i64 tl]),
 (1, false, Blk.cols mo [Col.bool to]),
 (0, false,
 Blk.cols mr
 [Col.int IntKind.i64 tr, Col.int IntKind.i64 vr, Col.int IntKind.i64 gr]),
 (4, true,
 Blk.cells
 [PV.own (5) (3) (List.length x1), PV.own (6) (1) (List.length x2)]),
 (3, true, Blk.cells [PV.nils, PV.nils]),
 (6, true,
 Blk.cols
 (List.length
 (S.mkl (List.length x2) fun j =>
 S.aft ((S.at' x1 j).1) ((S.at' x1 j).2.1) (S.at' x2 j)
 (tl (Int.toNat x0 + al))))
 [Col.bool fun j =>
 S.at'
 (S.mkl (List.length x2) fun j =>
 S.aft ((S.at' x1 j).1) ((S.at' x1 j).2.1) (S.at' x2 j)
 (tl (Int.toNat x0 + al)))
 j]),
 (5, true,
 Blk.cols (List.length x1)
 [Col.int IntKind.i64 fun j => (S.at' x1 j).1,
 Col.int IntKind.i64 fun j => (S.at' x1 j).2.1,
 Col.int IntKind.i64 fun j => (S.at' x1 j).2.2])]]) (8))
 (False))
 (False))
 (False))
 (False))
 (False))
 (Kret (PV.tup
 [PV.agg
 [PV.own (5) (3) (List.length x1), PV.own (6) (1) (List.length x2)],
 PV.int IntKind.i64 (0 : Int)]) ([[(2, false, Blk.cols ml [Col.int IntKind.i64 tl]),
 (1, false, Blk.cols mo [Col.bool to]),
 (0, false,
 Blk.cols mr
 [Col.int IntKind.i64 tr, Col.int IntKind.i64 vr, Col.int IntKind.i64 gr]),
 (6, true, Blk.cols (List.length x2) [Col.bool fun j => S.at' x2 j]),
 (5, true,
 Blk.cols (List.length x1)
 [Col.int IntKind.i64 fun j => (S.at' x1 j).1,
 Col.int IntKind.i64 fun j => (S.at' x1 j).2.1,
 Col.int IntKind.i64 fun j => (S.at' x1 j).2.2])]]) (7))
theorem t24_0 (test : Bool → Prop → Prop → Prop) (Kst : KS) (Kret : KR) (ar nr mr : Nat) (tr : Nat → Int) (vr : Nat → Int) (gr : Nat → Int) (ao no mo : Nat) (to : Nat → Bool) (al nl ml : Nat) (tl : Nat → Int) (x0 : Int) (x1 : List (Int × Int × Int)) (x2 : List Bool) : run test Try.env true (xC test) true 400 ⟨50, hd Try.f50 0, zipT [4, 7, 19, 20, 21] [PV.ptr (PA.mk (3) (0) (0) (0)),
 PV.ptr (PA.mk (4) (0) (0) (0)),
 PV.loose (PA.mk (2) (1) al (0)) nl, PV.int IntKind.i64 (↑nl : Int),
 PV.int IntKind.i64 x0], [[(3, (true, Blk.cells [PV.nils, PV.nils])), (4, (true, Blk.cells
 [PV.own (5) (3) (List.length x1), PV.own (6) (1) (List.length x2)])), (5, (true, Blk.cols (List.length x1)
 [Col.int IntKind.i64 fun j => (S.at' x1 j).1,
 Col.int IntKind.i64 fun j => (S.at' x1 j).2.1,
 Col.int IntKind.i64 fun j => (S.at' x1 j).2.2])), (6, (true, Blk.cols (List.length x2) [Col.bool fun j => S.at' x2 j]))], [(0, (false, .cols mr [.int .i64 tr, .int .i64 vr, .int .i64 gr])), (1, (false, .cols mo [.bool to])), (2, (false, .cols ml [.int .i64 tl]))]], 7⟩ (proj 3 [4, 7, 19, 20, 21] Kst Kret) =
  T24_0 test Kst Kret ar nr mr tr vr gr ao no mo to al nl ml tl x0 x1 x2 := by kernel_rfl
theorem be24 (ar nr mr : Nat) (tr : Nat → Int) (vr : Nat → Int) (gr : Nat → Int) (ao no mo : Nat) (to : Nat → Bool) (al nl ml : Nat) (tl : Nat → Int) (Kst : KS) (Kret : KR) (x : St24 ⊕ Rt24) (hS : HS 3 400 ((I24 ar nr mr tr vr gr ao no mo to al nl ml tl)) Kst x) (hR : HR 3 400 ((V24 ar nr mr tr vr gr ao no mo to al nl ml tl)) (fun r => [newL (3 + 1) ((N24 ar nr mr tr vr gr ao no mo to al nl ml tl) r) ++ [(0, (false, .cols mr [.int .i64 tr, .int .i64 vr, .int .i64 gr])), (1, (false, .cols mo [.bool to])), (2, (false, .cols ml [.int .i64 tl]))]]) Kret x) (h : (bif (decide (ar + nr ≤ mr ∧ nr ≤ 1000000 ∧ al + nl ≤ ml ∧ nl ≤ 1000000))
 then (bif ((S.histE nr (fun j => tr (j + ar)) (fun j => vr (j + ar)) (fun j => gr (j + ar)) no nl
 fun j => tl (j + al)) !=
 (0 : Int))
 then (some (.inr (S.histE nr (fun j => tr (j + ar)) (fun j => vr (j + ar)) (fun j => gr (j + ar)) no nl
 fun j => tl (j + al), [], [])))
 else (bif (decide (ar + nr ≤ mr ∧ nr ≤ 1000000))
 then (bif (decide (ao + no ≤ mo ∧ no ≤ 1000000))
 then (some (.inl (.h0 ((0 : Int)) (S.mkl nr fun j => (tr (j + ar), vr (j + ar), gr (j + ar))) (S.mkl no fun j => to (j + ao)))))
 else (none))
 else (none)))
 else (none) : Option (St24 ⊕ Rt24)) = some x) : Te24 cond Kst Kret ar nr mr tr vr gr ao no mo to al nl ml tl := by
  unfold Te24
  exact bif_split h
   (fun c0 h => bif_split h
   (fun c1 h => ret_at hR _ h (fun n => bif Nat.beq n 4 then 399 else bif Nat.beq n 5 then 398 else n) rfl rfl rfl (rn_tup ⟨(rn_agg ⟨(rn_own_nils rfl), (rn_own_nils rfl), trivial⟩), (rn_int rfl), trivial⟩) rfl (entl_fresh (use_own rfl) (fresh_ok rfl) (entl_fresh (use_own rfl) (fresh_ok rfl) (entl_bor (use_lo rfl) rfl rfl (entl_bor (use_lo rfl) rfl rfl (entl_bor (use_lo rfl) rfl rfl entl_nil))))))
   (fun c1 h => bif_split h
   (fun c2 h => bif_split h
   (fun c3 h => stop_at hS _ h (fun n => bif Nat.beq n 3 then 4 else bif Nat.beq n 4 then 12 else bif Nat.beq n 5 then 9 else bif Nat.beq n 6 then 11 else n) rfl rfl rfl ⟨(rn_ptr (use_own rfl) rfl rfl), ⟨(rn_ptr (use_own rfl) rfl rfl), ⟨(rn_loose (use_lo rfl) rfl rfl rfl), ⟨(rn_int rfl), ⟨(rn_int rfl), trivial⟩⟩⟩⟩⟩ rfl (entl_b (use_own rfl) rfl (by simp) (rb_cells ⟨rn_nils, rn_nils, trivial⟩) (entl_b (use_own rfl) rfl (by simp) (rb_cells ⟨(rn_own (use_own rfl) rfl mkl_len), (rn_own (use_own rfl) rfl mkl_len), trivial⟩) (entl_new (use_own rfl) rfl (Nat.le_of_eq mkl_len) (rcs_int (fun _ hj => col_mkl (fun (t : Int × Int × Int) => t.1) hj) (rcs_int (fun _ hj => col_mkl (fun (t : Int × Int × Int) => t.2.1) hj) (rcs_int (fun _ hj => col_mkl (fun (t : Int × Int × Int) => t.2.2) hj) rcs_nil))) (entl_new (use_own rfl) rfl (Nat.le_of_eq mkl_len) (rcs_bool (fun _ hj => col_mkl (fun (t : Bool) => t) hj) rcs_nil) (entl_bor (use_lo rfl) rfl rfl (entl_bor (use_lo rfl) rfl rfl (entl_bor (use_lo rfl) rfl rfl entl_nil))))))))
   (fun c3 h => no_some h))
   (fun c2 h => no_some h)))
   (fun c0 h => no_some h)
theorem b24_0 (ar nr mr : Nat) (tr : Nat → Int) (vr : Nat → Int) (gr : Nat → Int) (ao no mo : Nat) (to : Nat → Bool) (al nl ml : Nat) (tl : Nat → Int) (Kst : KS) (Kret : KR) (x : St24 ⊕ Rt24) (hS : HS 3 400 ((I24 ar nr mr tr vr gr ao no mo to al nl ml tl)) Kst x) (hR : HR 3 400 ((V24 ar nr mr tr vr gr ao no mo to al nl ml tl)) (fun r => [newL (3 + 1) ((N24 ar nr mr tr vr gr ao no mo to al nl ml tl) r) ++ [(0, (false, .cols mr [.int .i64 tr, .int .i64 vr, .int .i64 gr])), (1, (false, .cols mo [.bool to])), (2, (false, .cols ml [.int .i64 tl]))]]) Kret x) (x0 : Int) (x1 : List (Int × Int × Int)) (x2 : List Bool) (h : (bif (decide (x0 < (↑nl : Int)))
 then (bif (decide ((0 : Int) ≤ x0 ∧ x0 < (↑nl : Int)))
 then (bif (decide (Int.toNat x0 + al < ml))
 then (bif (decide (List.length x2 ≤ List.length x2))
 then (bif (decide
 (0 + List.length x1 ≤ List.length x1 ∧ List.length x1 ≤ 1000000 ∧ List.length x2 = List.length x1))
 then (bif (lim IntKind.i64 (x0 + (1 : Int)))
 then (some (.inl (.h0 (x0 + (1 : Int)) (x1) (S.mkl (List.length x2) fun j =>
 S.at'
 (S.mkl (List.length x2) fun j =>
 S.aft ((S.at' x1 j).1) ((S.at' x1 j).2.1) (S.at' x2 j)
 (tl (Int.toNat x0 + al)))
 j))))
 else (none))
 else (none))
 else (none))
 else (none))
 else (none))
 else (some (.inr ((0 : Int), x1, x2))) : Option (St24 ⊕ Rt24)) = some x) : T24_0 cond Kst Kret ar nr mr tr vr gr ao no mo to al nl ml tl x0 x1 x2 := by
  unfold T24_0
  exact bif_split h
   (fun c0 h => bif_split h
   (fun c1 h => bif_split h
   (fun c2 h => bif_split h
   (fun c3 h => bif_split h
   (fun c4 h => bif_split h
   (fun c5 h => stop_at hS _ h (fun n => bif Nat.beq n 3 then 3 else bif Nat.beq n 4 then 4 else bif Nat.beq n 5 then 5 else bif Nat.beq n 6 then 6 else n) rfl rfl rfl ⟨(rn_ptr (use_own rfl) rfl rfl), ⟨(rn_ptr (use_own rfl) rfl rfl), ⟨(rn_loose (use_lo rfl) rfl rfl rfl), ⟨(rn_int rfl), ⟨(rn_int rfl), trivial⟩⟩⟩⟩⟩ rfl (entl_b (use_own rfl) rfl (by simp) (rb_cells ⟨rn_nils, rn_nils, trivial⟩) (entl_b (use_own rfl) rfl (by simp) (rb_cells ⟨(rn_own (use_own rfl) rfl rfl), (rn_own (use_own rfl) rfl mkl_len), trivial⟩) (entl_new (use_own rfl) rfl (Nat.le_of_eq rfl) (rcs_int (fun _ _ => rfl) (rcs_int (fun _ _ => rfl) (rcs_int (fun _ _ => rfl) rcs_nil))) (entl_new (use_own rfl) rfl (by first | exact Nat.le_of_eq mkl_len | (simp only [mkl_len, snoc_len]; omega)) (rcs_bool (fun _ hj => col_mkl (fun (t : Bool) => t) hj) rcs_nil) (entl_bor (use_lo rfl) rfl rfl (entl_bor (use_lo rfl) rfl rfl (entl_bor (use_lo rfl) rfl rfl entl_nil))))))))
   (fun c5 h => no_some h))
   (fun c4 h => no_some h))
   (fun c3 h => no_some h))
   (fun c2 h => no_some h))
   (fun c1 h => no_some h))
   (fun c0 h => ret_at hR _ h (fun n => bif Nat.beq n 4 then 5 else bif Nat.beq n 5 then 6 else n) rfl rfl rfl (rn_tup ⟨(rn_agg ⟨(rn_own (use_own rfl) rfl rfl), (rn_own (use_own rfl) rfl rfl), trivial⟩), (rn_int rfl), trivial⟩) rfl (entl_new (use_own rfl) rfl (Nat.le_of_eq rfl) (rcs_int (fun _ _ => rfl) (rcs_int (fun _ _ => rfl) (rcs_int (fun _ _ => rfl) rcs_nil))) (entl_new (use_own rfl) rfl (Nat.le_of_eq rfl) (rcs_bool (fun _ _ => rfl) rcs_nil) (entl_bor (use_lo rfl) rfl rfl (entl_bor (use_lo rfl) rfl rfl (entl_bor (use_lo rfl) rfl rfl entl_nil))))))
theorem a24 (ar nr mr : Nat) (tr : Nat → Int) (vr : Nat → Int) (gr : Nat → Int) (ao no mo : Nat) (to : Nat → Bool) (al nl ml : Nat) (tl : Nat → Int) {r : Rt24} (h : Goes ((q24 ar nr mr tr vr gr ao no mo to al nl ml tl)) ((p24 ar nr mr tr vr gr ao no mo to al nl ml tl)) r) : CallR Try.prog 50 [.agg [.loose ⟨0, 3, ar, 0⟩ nr, .loose ⟨1, 1, ao, 0⟩ no], .loose ⟨2, 1, al, 0⟩ nl] [[(0, (false, .cols mr [.int .i64 tr, .int .i64 vr, .int .i64 gr])), (1, (false, .cols mo [.bool to])), (2, (false, .cols ml [.int .i64 tl]))]] 3 ((V24 ar nr mr tr vr gr ao no mo to al nl ml tl) r) ((fun r => [newL (3 + 1) ((N24 ar nr mr tr vr gr ao no mo to al nl ml tl) r) ++ [(0, (false, .cols mr [.int .i64 tr, .int .i64 vr, .int .i64 gr])), (1, (false, .cols mo [.bool to])), (2, (false, .cols ml [.int .i64 tl]))]]) r) 400 ∧ ∃ F, Try.prog.funcs[50]? = some F ∧ F.body.isSome = true ∧ (F.name == "runtime.NumGoroutine") = false := by
  refine dec_calls (f := 50) (lo := 3) (hi := 400) (H := [[(0, (false, .cols mr [.int .i64 tr, .int .i64 vr, .int .i64 gr])), (1, (false, .cols mo [.bool to])), (2, (false, .cols ml [.int .i64 tl]))]]) (args := [.agg [.loose ⟨0, 3, ar, 0⟩ nr, .loose ⟨1, 1, ao, 0⟩ no], .loose ⟨2, 1, al, 0⟩ nl]) Try.envOk Try.mixed xC_ok ((I24 ar nr mr tr vr gr ao no mo to al nl ml tl)) ((V24 ar nr mr tr vr gr ao no mo to al nl ml tl)) (fun r => [newL (3 + 1) ((N24 ar nr mr tr vr gr ao no mo to al nl ml tl) r) ++ [(0, (false, .cols mr [.int .i64 tr, .int .i64 vr, .int .i64 gr])), (1, (false, .cols mo [.bool to])), (2, (false, .cols ml [.int .i64 tl]))]]) (fn := mkFn Try.f50) (ts := [4, 7, 19, 20, 21]) (n := 400) rfl (by decide) (by simp) (names_of rfl) ?_ ?_ ?_ h
  · intro s; cases s <;> exact ⟨hd_ok _ _, by simp [I24], names_of rfl, Nat.le_of_ble_eq_true rfl⟩
  · intro Kst Kret x hS hR h
    exact Holds.eq (te24 cond Kst Kret ar nr mr tr vr gr ao no mo to al nl ml tl) (be24 ar nr mr tr vr gr ao no mo to al nl ml tl Kst Kret x hS hR h)
  · intro Kst Kret x hS hR s h
    cases s with
    | h0 x0 x1 x2 => exact Holds.eq (t24_0 cond Kst Kret ar nr mr tr vr gr ao no mo to al nl ml tl x0 x1 x2) (b24_0 ar nr mr tr vr gr ao no mo to al nl ml tl Kst Kret x hS hR x0 x1 x2 h)
noncomputable def k24 : Con := ⟨50, [.agg [.list [.int .i64, .int .i64, .int .i64], .list [.bool]], .one (.list [.int .i64])], fun (x : ((Nat × Nat × Nat × (Nat → Int) × (Nat → Int) × (Nat → Int) × Unit) × (Nat × Nat × Nat × (Nat → Bool) × Unit) × Unit) × (Nat × Nat × Nat × (Nat → Int) × Unit) × Unit) => (fun (ar nr mr : Nat) (tr : Nat → Int) (vr : Nat → Int) (gr : Nat → Int) (ao no mo : Nat) (to : Nat → Bool) (al nl ml : Nat) (tl : Nat → Int) => decide (ar + nr ≤ mr ∧ nr ≤ 1000000 ∧ ao + no ≤ mo ∧ no ≤ 1000000 ∧ al + nl ≤ ml ∧ nl ≤ 1000000)) x.1.1.1 x.1.1.2.1 x.1.1.2.2.1 x.1.1.2.2.2.1 x.1.1.2.2.2.2.1 x.1.1.2.2.2.2.2.1 x.1.2.1.1 x.1.2.1.2.1 x.1.2.1.2.2.1 x.1.2.1.2.2.2.1 x.2.1.1 x.2.1.2.1 x.2.1.2.2.1 x.2.1.2.2.2.1, fun (x : ((Nat × Nat × Nat × (Nat → Int) × (Nat → Int) × (Nat → Int) × Unit) × (Nat × Nat × Nat × (Nat → Bool) × Unit) × Unit) × (Nat × Nat × Nat × (Nat → Int) × Unit) × Unit) => (fun (ar nr mr : Nat) (tr : Nat → Int) (vr : Nat → Int) (gr : Nat → Int) (ao no mo : Nat) (to : Nat → Bool) (al nl ml : Nat) (tl : Nat → Int) => (V24 ar nr mr tr vr gr ao no mo to al nl ml tl) (S.histS nr (fun j => tr (j + ar)) (fun j => vr (j + ar)) (fun j => gr (j + ar)) no (fun j => to (j + ao)) nl (fun j => tl (j + al)))) x.1.1.1 x.1.1.2.1 x.1.1.2.2.1 x.1.1.2.2.2.1 x.1.1.2.2.2.2.1 x.1.1.2.2.2.2.2.1 x.1.2.1.1 x.1.2.1.2.1 x.1.2.1.2.2.1 x.1.2.1.2.2.2.1 x.2.1.1 x.2.1.2.1 x.2.1.2.2.1 x.2.1.2.2.2.1, fun (x : ((Nat × Nat × Nat × (Nat → Int) × (Nat → Int) × (Nat → Int) × Unit) × (Nat × Nat × Nat × (Nat → Bool) × Unit) × Unit) × (Nat × Nat × Nat × (Nat → Int) × Unit) × Unit) => (fun (ar nr mr : Nat) (tr : Nat → Int) (vr : Nat → Int) (gr : Nat → Int) (ao no mo : Nat) (to : Nat → Bool) (al nl ml : Nat) (tl : Nat → Int) => (N24 ar nr mr tr vr gr ao no mo to al nl ml tl) (S.histS nr (fun j => tr (j + ar)) (fun j => vr (j + ar)) (fun j => gr (j + ar)) no (fun j => to (j + ao)) nl (fun j => tl (j + al)))) x.1.1.1 x.1.1.2.1 x.1.1.2.2.1 x.1.1.2.2.2.1 x.1.1.2.2.2.2.1 x.1.1.2.2.2.2.2.1 x.1.2.1.1 x.1.2.1.2.1 x.1.2.1.2.2.1 x.1.2.1.2.2.2.1 x.2.1.1 x.2.1.2.1 x.2.1.2.2.1 x.2.1.2.2.2.1, fun _ _ => .dead⟩
theorem s24' (ar nr mr : Nat) (tr : Nat → Int) (vr : Nat → Int) (gr : Nat → Int) (ao no mo : Nat) (to : Nat → Bool) (al nl ml : Nat) (tl : Nat → Int) (hp : ar + nr ≤ mr ∧ nr ≤ 1000000 ∧ ao + no ≤ mo ∧ no ≤ 1000000 ∧ al + nl ≤ ml ∧ nl ≤ 1000000) (hv : S.histE nr (fun j => tr (j + ar)) (fun j => vr (j + ar)) (fun j => gr (j + ar)) no nl (fun j => tl (j + al)) = 0) : ∀ (k i : Nat) (lr : List (Int × Int × Int)) (lo : List Bool), i + k = nl → Holds (lr = S.mkl nr fun j => (tr (j + ar), vr (j + ar), gr (j + ar))) → Holds (lo = S.mkl no fun j => S.aftN (tr (j + ar)) (vr (j + ar)) (fun j => tl (j + al)) (to (j + ao)) i) → Comes (q24 ar nr mr tr vr gr ao no mo to al nl ml tl) (.h0 (i : Int) lr lo) ((0, S.mkl nr fun j => (tr (j + ar), vr (j + ar), gr (j + ar)), S.mkl no fun j => S.aftN (tr (j + ar)) (vr (j + ar)) (fun j => tl (j + al)) (to (j + ao)) nl)) := by
  obtain ⟨hp1, hp2, hp3, hp4, hp5, hp6⟩ := hp
  obtain ⟨hm, hl1, hl2⟩ := hist_ok hv
  obtain ⟨v1, v2, v3, v4⟩ := mag_ok hm
  intro k
  induction k with
  | zero =>
    intro i lr lo hi elr elo
    have hlr : lr.length = nr := by rw [elr.get]; exact mkl_len
    have hlo : lo.length = no := by rw [elo.get]; exact mkl_len
    apply Comes.of
    show Goes _ _ _
    (first | rw [q24] | unfold q24)
    repeat' first
      | with_reducible refine goes_if (fun h => ?_) (fun h => ?_) <;> (try simp only [lim64, imp_false, decide_eq_true_eq, decide_eq_false_iff_not, Int.toNat_natCast, toNat_pred, toNat_succ, Option.getD_some, Option.getD_none, Bool.not_eq_true', Bool.not_eq_false', Bool.and_eq_true, Bool.or_eq_true, Bool.and_eq_false_iff, Bool.or_eq_false_iff, bne_iff_ne, beq_iff_eq, bne_eq_false_iff_eq, beq_eq_false_iff_ne, ne_eq, not_and, Int.not_le, Int.not_lt, ge_iff_le, gt_iff_lt, Nat.not_lt, Nat.not_le, Bool.not_eq_true, Bool.not_eq_false, Bool.true_eq_false, Bool.false_eq_true, not_false_eq_true, not_true_eq_false] at h)
      | exact goes_none.mpr (by omega)
    all_goals first | (exfalso; omega) | (obtain rfl : nl = i := (by omega); rw [elr.get]; rw [elo.get]; rfl)
  | succ k ih =>
    intro i lr lo hi elr elo
    have hlr : lr.length = nr := by rw [elr.get]; exact mkl_len
    have hlo : lo.length = no := by rw [elo.get]; exact mkl_len
    apply Comes.of
    show Goes _ _ _
    (first | rw [q24] | unfold q24)
    repeat' first
      | with_reducible refine goes_if (fun h => ?_) (fun h => ?_) <;> (try simp only [lim64, imp_false, decide_eq_true_eq, decide_eq_false_iff_not, Int.toNat_natCast, toNat_pred, toNat_succ, Option.getD_some, Option.getD_none, Bool.not_eq_true', Bool.not_eq_false', Bool.and_eq_true, Bool.or_eq_true, Bool.and_eq_false_iff, Bool.or_eq_false_iff, bne_iff_ne, beq_iff_eq, bne_eq_false_iff_eq, beq_eq_false_iff_ne, ne_eq, not_and, Int.not_le, Int.not_lt, ge_iff_le, gt_iff_lt, Nat.not_lt, Nat.not_le, Bool.not_eq_true, Bool.not_eq_false, Bool.true_eq_false, Bool.false_eq_true, not_false_eq_true, not_true_eq_false] at h)
      | exact goes_none.mpr (by omega)
    all_goals first
      | (exfalso; omega)
      | (refine ih (i + 1) _ _ (by omega) ⟨elr.get⟩ ⟨?_⟩; rw [hlo, elr.get, elo.get]; refine mkl_congr fun j hj => ?_; rw [at_mkl hj, at_mkl hj, at_mkl (by omega)]; rfl)
      | (refine ih (i + 1) _ _ (by omega) ⟨?_⟩ ⟨?_⟩ <;> (skip))
theorem s24 (ar nr mr : Nat) (tr : Nat → Int) (vr : Nat → Int) (gr : Nat → Int) (ao no mo : Nat) (to : Nat → Bool) (al nl ml : Nat) (tl : Nat → Int) (hp : ar + nr ≤ mr ∧ nr ≤ 1000000 ∧ ao + no ≤ mo ∧ no ≤ 1000000 ∧ al + nl ≤ ml ∧ nl ≤ 1000000) : Goes ((q24 ar nr mr tr vr gr ao no mo to al nl ml tl)) ((p24 ar nr mr tr vr gr ao no mo to al nl ml tl)) (S.histS nr (fun j => tr (j + ar)) (fun j => vr (j + ar)) (fun j => gr (j + ar)) no (fun j => to (j + ao)) nl (fun j => tl (j + al))) := by
  unfold S.histS
  by_cases hv : S.histE nr (fun j => tr (j + ar)) (fun j => vr (j + ar)) (fun j => gr (j + ar)) no nl (fun j => tl (j + al)) = 0
  · have hm := s24' ar nr mr tr vr gr ao no mo to al nl ml tl hp hv nl 0 (S.mkl nr fun j => (tr (j + ar), vr (j + ar), gr (j + ar))) (S.mkl no fun j => to (j + ao)) (by omega) ⟨rfl⟩ ⟨rfl⟩
    obtain ⟨hp1, hp2, hp3, hp4, hp5, hp6⟩ := hp
    rw [if_pos hv]
    show Goes _ _ _
    unfold p24
    repeat' first
      | with_reducible refine goes_if (fun h => ?_) (fun h => ?_) <;> (try simp only [lim64, imp_false, decide_eq_true_eq, decide_eq_false_iff_not, Int.toNat_natCast, toNat_pred, toNat_succ, Option.getD_some, Option.getD_none, Bool.not_eq_true', Bool.not_eq_false', Bool.and_eq_true, Bool.or_eq_true, Bool.and_eq_false_iff, Bool.or_eq_false_iff, bne_iff_ne, beq_iff_eq, bne_eq_false_iff_eq, beq_eq_false_iff_ne, ne_eq, not_and, Int.not_le, Int.not_lt, ge_iff_le, gt_iff_lt, Nat.not_lt, Nat.not_le, Bool.not_eq_true, Bool.not_eq_false, Bool.true_eq_false, Bool.false_eq_true, not_false_eq_true, not_true_eq_false] at h)
      | exact goes_none.mpr (by omega)
    all_goals first | (exfalso; omega) | (exfalso; exact absurd hv (by assumption)) | exact hm
  · obtain ⟨hp1, hp2, hp3, hp4, hp5, hp6⟩ := hp
    rw [if_neg hv]
    show Goes _ _ _
    unfold p24
    repeat' first
      | with_reducible refine goes_if (fun h => ?_) (fun h => ?_) <;> (try simp only [lim64, imp_false, decide_eq_true_eq, decide_eq_false_iff_not, Int.toNat_natCast, toNat_pred, toNat_succ, Option.getD_some, Option.getD_none, Bool.not_eq_true', Bool.not_eq_false', Bool.and_eq_true, Bool.or_eq_true, Bool.and_eq_false_iff, Bool.or_eq_false_iff, bne_iff_ne, beq_iff_eq, bne_eq_false_iff_eq, beq_eq_false_iff_ne, ne_eq, not_and, Int.not_le, Int.not_lt, ge_iff_le, gt_iff_lt, Nat.not_lt, Nat.not_le, Bool.not_eq_true, Bool.not_eq_false, Bool.true_eq_false, Bool.false_eq_true, not_false_eq_true, not_true_eq_false] at h)
      | exact goes_none.mpr (by omega)
    all_goals first | (exfalso; omega) | (exfalso; exact hv (by assumption)) | rfl
theorem k24_ok : k24.ok Try.prog := by
  intro x hx
  obtain ⟨⟨⟨ar, nr, mr, tr, vr, gr, _⟩, ⟨ao, no, mo, to, _⟩, _⟩, ⟨al, nl, ml, tl, _⟩, _⟩ := x
  obtain ⟨h1, h2⟩ := a24 ar nr mr tr vr gr ao no mo to al nl ml tl (s24 ar nr mr tr vr gr ao no mo to al nl ml tl (of_dec hx rfl))
  exact ⟨⟨400, (by decide : 3 + 1 + 2 ≤ 400), h1⟩, h2⟩
inductive St26 where
  | h0 (x0 : Int) (x1 : List (Int × Int × Int)) (x2 : List Bool)
  | h1 (x0 : Int) (x1 : Bool) (x2 : Int) (x3 : List (Int × Int × Int)) (x4 : List Bool)
abbrev Rt26 := Int × List (Int × Int × Int) × List Bool
noncomputable def V26 (ar nr mr : Nat) (tr : Nat → Int) (vr : Nat → Int) (gr : Nat → Int) (ao no mo : Nat) (to : Nat → Bool) (al nl ml : Nat) (tl : Nat → Int) (r : Rt26) : PV := PV.tup
 [PV.agg
 [PV.own (4) (3) (List.length r.2.1), PV.own (5) (1) (List.length r.2.2)],
 PV.int IntKind.i64 r.1]
noncomputable def N26 (ar nr mr : Nat) (tr : Nat → Int) (vr : Nat → Int) (gr : Nat → Int) (ao no mo : Nat) (to : Nat → Bool) (al nl ml : Nat) (tl : Nat → Int) (r : Rt26) : List Blk := [Blk.cols (List.length r.2.1)
 [Col.int IntKind.i64 fun j => (S.at' r.2.1 j).1,
 Col.int IntKind.i64 fun j => (S.at' r.2.1 j).2.1,
 Col.int IntKind.i64 fun j => (S.at' r.2.1 j).2.2], Blk.cols (List.length r.2.2) [Col.bool fun j => S.at' r.2.2 j]]
noncomputable def I26 (ar nr mr : Nat) (tr : Nat → Int) (vr : Nat → Int) (gr : Nat → Int) (ao no mo : Nat) (to : Nat → Bool) (al nl ml : Nat) (tl : Nat → Int) : St26 → Hd
  | .h0 x0 x1 x2 => ⟨hd Try.f52 0, [PV.loose (PA.mk (2) (1) al (0)) nl,
 PV.ptr (PA.mk (3) (0) (0) (0)),
 PV.ptr (PA.mk (4) (0) (0) (0)),
 PV.ptr (PA.mk (5) (0) (0) (0)), PV.int IntKind.i64 x0,
 PV.unk, PV.unk], [[(3, (true, Blk.cells
 [PV.loose (PA.mk (0) (3) ar (0)) nr,
 PV.loose (PA.mk (1) (1) ao (0)) no])), (4, (true, Blk.cells [PV.nils, PV.nils])), (5, (true, Blk.cells
 [PV.own (6) (3) (List.length x1), PV.own (7) (1) (List.length x2)])), (6, (true, Blk.cols (List.length x1)
 [Col.int IntKind.i64 fun j => (S.at' x1 j).1,
 Col.int IntKind.i64 fun j => (S.at' x1 j).2.1,
 Col.int IntKind.i64 fun j => (S.at' x1 j).2.2])), (7, (true, Blk.cols (List.length x2) [Col.bool fun j => S.at' x2 j]))], [(0, (false, .cols mr [.int .i64 tr, .int .i64 vr, .int .i64 gr])), (1, (false, .cols mo [.bool to])), (2, (false, .cols ml [.int .i64 tl]))]], 8⟩
  | .h1 x0 x1 x2 x3 x4 => ⟨hd Try.f52 1, [PV.loose (PA.mk (2) (1) al (0)) nl,
 PV.ptr (PA.mk (3) (0) (0) (0)),
 PV.ptr (PA.mk (4) (0) (0) (0)),
 PV.ptr (PA.mk (5) (0) (0) (0)), PV.int IntKind.i64 x0,
 PV.bool x1, PV.int IntKind.i64 x2], [[(3, (true, Blk.cells
 [PV.loose (PA.mk (0) (3) ar (0)) nr,
 PV.loose (PA.mk (1) (1) ao (0)) no])), (4, (true, Blk.cells [PV.nils, PV.nils])), (5, (true, Blk.cells
 [PV.own (6) (3) (List.length x3), PV.own (7) (1) (List.length x4)])), (6, (true, Blk.cols (List.length x3)
 [Col.int IntKind.i64 fun j => (S.at' x3 j).1,
 Col.int IntKind.i64 fun j => (S.at' x3 j).2.1,
 Col.int IntKind.i64 fun j => (S.at' x3 j).2.2])), (7, (true, Blk.cols (List.length x4) [Col.bool fun j => S.at' x4 j]))], [(0, (false, .cols mr [.int .i64 tr, .int .i64 vr, .int .i64 gr])), (1, (false, .cols mo [.bool to])), (2, (false, .cols ml [.int .i64 tl]))]], 8⟩
noncomputable def q26 (ar nr mr : Nat) (tr : Nat → Int) (vr : Nat → Int) (gr : Nat → Int) (ao no mo : Nat) (to : Nat → Bool) (al nl ml : Nat) (tl : Nat → Int) : St26 → Option (St26 ⊕ Rt26)
  | .h0 x0 x1 x2 => bif (decide (x0 < (↑nr : Int)))
 then (bif (decide ((0 : Int) ≤ x0 ∧ x0 < (↑no : Int)))
 then (bif (decide (Int.toNat x0 + ao < mo))
 then (bif (to (Int.toNat x0 + ao))
 then (some (.inl (.h1 (x0) (true) ((0 : Int)) (x1) (x2))))
 else (some (.inl (.h1 (x0) (false) ((0 : Int)) (x1) (x2)))))
 else (none))
 else (none))
 else (some (.inr ((0 : Int), x1, x2)))
  | .h1 x0 x1 x2 x3 x4 => bif (decide (x2 < (↑nl : Int)))
 then (bif (decide ((0 : Int) ≤ x0 ∧ x0 < (↑nr : Int)))
 then (bif (decide (Int.toNat x0 + ar < mr))
 then (bif (x1)
 then (bif (decide ((0 : Int) ≤ x2 ∧ x2 < (↑nl : Int)))
 then (bif (decide (Int.toNat x2 + al < ml))
 then (bif (decide (tl (Int.toNat x2 + al) ≥ tr (Int.toNat x0 + ar)))
 then (bif (lim IntKind.i64 (x2 + (1 : Int)))
 then (some (.inl (.h1 (x0) (true) (x2 + (1 : Int)) (x3) (x4))))
 else (none))
 else (bif (decide (tl (Int.toNat x2 + al) ≤ vr (Int.toNat x0 + ar)))
 then (bif (lim IntKind.i64 (x2 + (1 : Int)))
 then (some (.inl (.h1 (x0) (false) (x2 + (1 : Int)) (x3) (x4))))
 else (none))
 else (bif (lim IntKind.i64 (x2 + (1 : Int)))
 then (some (.inl (.h1 (x0) (true) (x2 + (1 : Int)) (x3) (x4))))
 else (none))))
 else (none))
 else (none))
 else (bif (decide ((0 : Int) ≤ x2 ∧ x2 < (↑nl : Int)))
 then (bif (decide (Int.toNat x2 + al < ml))
 then (bif (decide (tl (Int.toNat x2 + al) ≥ tr (Int.toNat x0 + ar)))
 then (bif (lim IntKind.i64 (x2 + (1 : Int)))
 then (some (.inl (.h1 (x0) (true) (x2 + (1 : Int)) (x3) (x4))))
 else (none))
 else (bif (decide (tl (Int.toNat x2 + al) ≤ vr (Int.toNat x0 + ar)))
 then (bif (lim IntKind.i64 (x2 + (1 : Int)))
 then (some (.inl (.h1 (x0) (false) (x2 + (1 : Int)) (x3) (x4))))
 else (none))
 else (bif (lim IntKind.i64 (x2 + (1 : Int)))
 then (some (.inl (.h1 (x0) (false) (x2 + (1 : Int)) (x3) (x4))))
 else (none))))
 else (none))
 else (none)))
 else (none))
 else (none))
 else (bif (decide ((0 : Int) ≤ x0 ∧ x0 < (↑nr : Int)))
 then (bif (decide (Int.toNat x0 + ar < mr))
 then (bif (decide (List.length x3 + 1 ≤ 1000000))
 then (bif (decide (List.length x3 ≤ List.length x3))
 then (bif (x1)
 then (bif (decide (List.length x4 + 1 ≤ 1000000))
 then (bif (decide (List.length x4 ≤ List.length x4))
 then (bif (lim IntKind.i64 (x0 + (1 : Int)))
 then (some (.inl (.h0 (x0 + (1 : Int)) (S.snoc x3 (tr (Int.toNat x0 + ar), vr (Int.toNat x0 + ar), gr (Int.toNat x0 + ar))) (S.snoc x4 true))))
 else (none))
 else (none))
 else (none))
 else (bif (decide (List.length x4 + 1 ≤ 1000000))
 then (bif (decide (List.length x4 ≤ List.length x4))
 then (bif (lim IntKind.i64 (x0 + (1 : Int)))
 then (some (.inl (.h0 (x0 + (1 : Int)) (S.snoc x3 (tr (Int.toNat x0 + ar), vr (Int.toNat x0 + ar), gr (Int.toNat x0 + ar))) (S.snoc x4 false))))
 else (none))
 else (none))
 else (none)))
 else (none))
 else (none))
 else (none))
 else (none))
noncomputable def p26 (ar nr mr : Nat) (tr : Nat → Int) (vr : Nat → Int) (gr : Nat → Int) (ao no mo : Nat) (to : Nat → Bool) (al nl ml : Nat) (tl : Nat → Int) : Option (St26 ⊕ Rt26) := bif (decide (ar + nr ≤ mr ∧ nr ≤ 1000000 ∧ al + nl ≤ ml ∧ nl ≤ 1000000))
 then (bif ((S.histE nr (fun j => tr (j + ar)) (fun j => vr (j + ar)) (fun j => gr (j + ar)) no nl
 fun j => tl (j + al)) !=
 (0 : Int))
 then (some (.inr (S.histE nr (fun j => tr (j + ar)) (fun j => vr (j + ar)) (fun j => gr (j + ar)) no nl
 fun j => tl (j + al), [], [])))
 else (some (.inl (.h0 ((0 : Int)) ([]) ([])))))
 else (none)
noncomputable def Te26 (test : Bool → Prop → Prop → Prop) (Kst : KS) (Kret : KR) (ar nr mr : Nat) (tr : Nat → Int) (vr : Nat → Int) (gr : Nat → Int) (ao no mo : Nat) (to : Nat → Bool) (al nl ml : Nat) (tl : Nat → Int) : Prop :=
  test (decide (ar + nr ≤ mr ∧ nr ≤ 1000000 ∧ al + nl ≤ ml ∧ nl ≤ 1000000))
 (test ((S.histE nr (fun j => tr (j + ar)) (fun j => vr (j + ar)) (fun j => gr (j + ar)) no nl
 fun j => tl (j + al)) !=
 (0 : Int))
 (Kret (PV.tup
 [PV.agg [PV.nils, PV.nils],
 PV.int IntKind.i64
 (S.histE nr (fun j => tr (j + ar)) (fun j => vr (j + ar)) (fun j => gr (j + ar)) no
 nl fun j => tl (j + al))]) ([[(2, false, Blk.cols ml [Col.int IntKind.i64 tl]),
 (1, false, Blk.cols mo [Col.bool to]),
 (0, false,
 Blk.cols mr
 [Col.int IntKind.i64 tr, Col.int IntKind.i64 vr, Col.int IntKind.i64 gr])]]) (6))
 (Kst (hd Try.f52 0) ([PV.loose (PA.mk (2) (1) al (0)) nl,
 PV.ptr (PA.mk (3) (0) (0) (0)),
 PV.ptr (PA.mk (4) (0) (0) (0)),
 PV.ptr (PA.mk (6) (0) (0) (0)), PV.int IntKind.i64 (0 : Int),
 PV.unk, PV.unk]) ([[(2, false, Blk.cols ml [Col.int IntKind.i64 tl]),
 (1, false, Blk.cols mo [Col.bool to]),
 (0, false,
 Blk.cols mr
 [Col.int IntKind.i64 tr, Col.int IntKind.i64 vr, Col.int IntKind.i64 gr]),
 (6, true, Blk.cells [PV.nils, PV.nils]),
 (4, true, Blk.cells [PV.nils, PV.nils]),
 (3, true,
 Blk.cells
 [PV.loose (PA.mk (0) (3) ar (0)) nr,
 PV.loose (PA.mk (1) (1) ao (0)) no])]]) (7)))
 (False)
theorem te26 (test : Bool → Prop → Prop → Prop) (Kst : KS) (Kret : KR) (ar nr mr : Nat) (tr : Nat → Int) (vr : Nat → Int) (gr : Nat → Int) (ao no mo : Nat) (to : Nat → Bool) (al nl ml : Nat) (tl : Nat → Int) : run test Try.env true (xC test) true 400 ⟨52, [.cd (mkFn Try.f52).body], argT 0 [.agg [.loose ⟨0, 3, ar, 0⟩ nr, .loose ⟨1, 1, ao, 0⟩ no], .loose ⟨2, 1, al, 0⟩ nl], [[], [(0, (false, .cols mr [.int .i64 tr, .int .i64 vr, .int .i64 gr])), (1, (false, .cols mo [.bool to])), (2, (false, .cols ml [.int .i64 tl]))]], 3⟩ (proj 3 [1, 2, 4, 7, 8, 9, 10] Kst Kret) =
  Te26 test Kst Kret ar nr mr tr vr gr ao no mo to al nl ml tl := by kernel_rfl
noncomputable def T26_0 (test : Bool → Prop → Prop → Prop) (Kst : KS) (Kret : KR) (ar nr mr : Nat) (tr : Nat → Int) (vr : Nat → Int) (gr : Nat → Int) (ao no mo : Nat) (to : Nat → Bool) (al nl ml : Nat) (tl : Nat → Int) (x0 : Int) (x1 : List (Int × Int × Int)) (x2 : List Bool) : Prop :=
  test (decide (x0 < (↑nr : Int)))
 (test (decide ((0 : Int) ≤ x0 ∧ x0 < (↑no : Int)))
 (test (decide (Int.toNat x0 + ao < mo))
 (test (to (Int.toNat x0 + ao))
 (Kst (hd Try.f52 1) ([PV.loose (PA.mk (2) (1) al (0)) nl,
 PV.ptr (PA.mk (3) (0) (0) (0)),
 PV.ptr (PA.mk (4) (0) (0) (0)),
 PV.ptr (PA.mk (5) (0) (0) (0)), PV.int IntKind.i64 x0,
 PV.tf true, PV.int IntKind.i64 (0 : Int)]) ([[(2, false, Blk.cols ml [Col.int IntKind.i64 tl]),
 (1, false, Blk.cols mo [Col.bool to]),
 (0, false,
 Blk.cols mr
 [Col.int IntKind.i64 tr, Col.int IntKind.i64 vr, Col.int IntKind.i64 gr]),
 (5, true,
 Blk.cells
 [PV.own (6) (3) (List.length x1), PV.own (7) (1) (List.length x2)]),
 (4, true, Blk.cells [PV.nils, PV.nils]),
 (3, true,
 Blk.cells
 [PV.loose (PA.mk (0) (3) ar (0)) nr,
 PV.loose (PA.mk (1) (1) ao (0)) no]),
 (7, true, Blk.cols (List.length x2) [Col.bool fun j => S.at' x2 j]),
 (6, true,
 Blk.cols (List.length x1)
 [Col.int IntKind.i64 fun j => (S.at' x1 j).1,
 Col.int IntKind.i64 fun j => (S.at' x1 j).2.1,
 Col.int IntKind.i64 fun j => (S.at' x1 j).2.2])]]) (8))
 (Kst (hd Try.f52 1) ([PV.loose (PA.mk (2) (1) al (0)) nl,
 PV.ptr (PA.mk (3) (0) (0) (0)),
 PV.ptr (PA.mk (4) (0) (0) (0)),
 PV.ptr (PA.mk (5) (0) (0) (0)), PV.int IntKind.i64 x0,
 PV.tf false, PV.int IntKind.i64 (0 : Int)]) ([[(2, false, Blk.cols ml [Col.int IntKind.i64 tl]),
 (1, false, Blk.cols mo [Col.bool to]),
 (0, false,
 Blk.cols mr
 [Col.int IntKind.i64 tr, Col.int IntKind.i64 vr, Col.int IntKind.i64 gr]),
 (5, true,
 Blk.cells
 [PV.own (6) (3) (List.length x1), PV.own (7) (1) (List.length x2)]),
 (4, true, Blk.cells [PV.nils, PV.nils]),
 (3, true,
 Blk.cells
 [PV.loose (PA.mk (0) (3) ar (0)) nr,
 PV.loose (PA.mk (1) (1) ao (0)) no]),
 (7, true, Blk.cols (List.length x2) [Col.bool fun j => S.at' x2 j]),
 (6, true,
 Blk.cols (List.length x1)
 [Col.int IntKind.i64 fun j => (S.at' x1 j).1,
 Col.int IntKind.i64 fun j => (S.at' x1 j).2.1,
 Col.int IntKind.i64 fun j => (S.at' x1 j).2.2])]]) (8)))
 (False))
 (False))
 (Kret (PV.tup
 [PV.agg
 [PV.own (6) (3) (List.length x1), PV.own (7) (1) (List.length x2)],
 PV.int IntKind.i64 (0 : Int)]) ([[(2, false, Blk.cols ml [Col.int IntKind.i64 tl]),
 (1, false, Blk.cols mo [Col.bool to]),
 (0, false,
 Blk.cols mr
 [Col.int IntKind.i64 tr, Col.int IntKind.i64 vr, Col.int IntKind.i64 gr]),
 (7, true, Blk.cols (List.length x2) [Col.bool fun j => S.at' x2 j]),
 (6, true,
 Blk.cols (List.length x1)
 [Col.int IntKind.i64 fun j => (S.at' x1 j).1,
 Col.int IntKind.i64 fun j => (S.at' x1 j).2.1,
 Col.int IntKind.i64 fun j => (S.at' x1 j).2.2])]]) (8))
theorem t26_0 (test : Bool → Prop → Prop → Prop) (Kst : KS) (Kret : KR) (ar nr mr : Nat) (tr : Nat → Int) (vr : Nat → Int) (gr : Nat → Int) (ao no mo : Nat) (to : Nat → Bool) (al nl ml : Nat) (tl : Nat → Int) (x0 : Int) (x1 : List (Int × Int × Int)) (x2 : List Bool) : run test Try.env true (xC test) true 400 ⟨52, hd Try.f52 0, zipT [1, 2, 4, 7, 8, 9, 10] [PV.loose (PA.mk (2) (1) al (0)) nl,
 PV.ptr (PA.mk (3) (0) (0) (0)),
 PV.ptr (PA.mk (4) (0) (0) (0)),
 PV.ptr (PA.mk (5) (0) (0) (0)), PV.int IntKind.i64 x0,
 PV.unk, PV.unk], [[(3, (true, Blk.cells
 [PV.loose (PA.mk (0) (3) ar (0)) nr,
 PV.loose (PA.mk (1) (1) ao (0)) no])), (4, (true, Blk.cells [PV.nils, PV.nils])), (5, (true, Blk.cells
 [PV.own (6) (3) (List.length x1), PV.own (7) (1) (List.length x2)])), (6, (true, Blk.cols (List.length x1)
 [Col.int IntKind.i64 fun j => (S.at' x1 j).1,
 Col.int IntKind.i64 fun j => (S.at' x1 j).2.1,
 Col.int IntKind.i64 fun j => (S.at' x1 j).2.2])), (7, (true, Blk.cols (List.length x2) [Col.bool fun j => S.at' x2 j]))], [(0, (false, .cols mr [.int .i64 tr, .int .i64 vr, .int .i64 gr])), (1, (false, .cols mo [.bool to])), (2, (false, .cols ml [.int .i64 tl]))]], 8⟩ (proj 3 [1, 2, 4, 7, 8, 9, 10] Kst Kret) =
  T26_0 test Kst Kret ar nr mr tr vr gr ao no mo to al nl ml tl x0 x1 x2 := by kernel_rfl
noncomputable def T26_1 (test : Bool → Prop → Prop → Prop) (Kst : KS) (Kret : KR) (ar nr mr : Nat) (tr : Nat → Int) (vr : Nat → Int) (gr : Nat → Int) (ao no mo : Nat) (to : Nat → Bool) (al nl ml : Nat) (tl : Nat → Int) (x0 : Int) (x1 : Bool) (x2 : Int) (x3 : List (Int × Int × Int)) (x4 : List Bool) : Prop :=
  test (decide (x2 < (↑nl : Int)))
 (test (decide ((0 : Int) ≤ x0 ∧ x0 < (↑nr : Int)))
 (test (decide (Int.toNat x0 + ar < mr))
 (test (decide (Int.toNat x0 + ar < mr))
 (test (decide (Int.toNat x0 + ar < mr))
 (test (x1)
 (test (decide ((0 : Int) ≤ x2 ∧ x2 < (↑nl : Int)))
 (test (decide (Int.toNat x2 + al < ml))
 (test (decide (tl (Int.toNat x2 + al) ≥ tr (Int.toNat x0 + ar)))
 (test (lim IntKind.i64 (x2 + (1 : Int)))
 (Kst (hd Try.f52 1) ([PV.loose (PA.mk (2) (1) al (0)) nl,
 PV.ptr (PA.mk (3) (0) (0) (0)),
 PV.ptr (PA.mk (4) (0) (0) (0)),
 PV.ptr (PA.mk (5) (0) (0) (0)), PV.int IntKind.i64 x0,
 PV.tf true, PV.int IntKind.i64 (x2 + (1 : Int))]) ([[(2, false, Blk.cols ml [Col.int IntKind.i64 tl]),
 (1, false, Blk.cols mo [Col.bool to]),
 (0, false,
 Blk.cols mr
 [Col.int IntKind.i64 tr, Col.int IntKind.i64 vr, Col.int IntKind.i64 gr]),
 (5, true,
 Blk.cells
 [PV.own (6) (3) (List.length x3), PV.own (7) (1) (List.length x4)]),
 (4, true, Blk.cells [PV.nils, PV.nils]),
 (3, true,
 Blk.cells
 [PV.loose (PA.mk (0) (3) ar (0)) nr,
 PV.loose (PA.mk (1) (1) ao (0)) no]),
 (7, true, Blk.cols (List.length x4) [Col.bool fun j => S.at' x4 j]),
 (6, true,
 Blk.cols (List.length x3)
 [Col.int IntKind.i64 fun j => (S.at' x3 j).1,
 Col.int IntKind.i64 fun j => (S.at' x3 j).2.1,
 Col.int IntKind.i64 fun j => (S.at' x3 j).2.2])]]) (9))
 (False))
 (test (decide (tl (Int.toNat x2 + al) ≤ vr (Int.toNat x0 + ar)))
 (test (lim IntKind.i64 (x2 + (1 : Int)))
 (Kst (hd Try.f52 1) ([PV.loose (PA.mk (2) (1) al (0)) nl,
 PV.ptr (PA.mk (3) (0) (0) (0)),
 PV.ptr (PA.mk (4) (0) (0) (0)),
 PV.ptr (PA.mk (5) (0) (0) (0)), PV.int IntKind.i64 x0,
 PV.tf false, PV.int IntKind.i64 (x2 + (1 : Int))]) ([[(2, false, Blk.cols ml [Col.int IntKind.i64 tl]),
 (1, false, Blk.cols mo [Col.bool to]),
 (0, false,
 Blk.cols mr
 [Col.int IntKind.i64 tr, Col.int IntKind.i64 vr, Col.int IntKind.i64 gr]),
 (5, true,
 Blk.cells
 [PV.own (6) (3) (List.length x3), PV.own (7) (1) (List.length x4)]),
 (4, true, Blk.cells [PV.nils, PV.nils]),
 (3, true,
 Blk.cells
 [PV.loose (PA.mk (0) (3) ar (0)) nr,
 PV.loose (PA.mk (1) (1) ao (0)) no]),
 (7, true, Blk.cols (List.length x4) [Col.bool fun j => S.at' x4 j]),
 (6, true,
 Blk.cols (List.length x3)
 [Col.int IntKind.i64 fun j => (S.at' x3 j).1,
 Col.int IntKind.i64 fun j => (S.at' x3 j).2.1,
 Col.int IntKind.i64 fun j => (S.at' x3 j).2.2])]]) (9))
 (False))
 (test (lim IntKind.i64 (x2 + (1 : Int)))
 (Kst (hd Try.f52 1) ([PV.loose (PA.mk (2) (1) al (0)) nl,
 PV.ptr (PA.mk (3) (0) (0) (0)),
 PV.ptr (PA.mk (4) (0) (0) (0)),
 PV.ptr (PA.mk (5) (0) (0) (0)), PV.int IntKind.i64 x0,
 PV.tf true, PV.int IntKind.i64 (x2 + (1 : Int))]) ([[(2, false, Blk.cols ml [Col.int IntKind.i64 tl]),
 (1, false, Blk.cols mo [Col.bool to]),
 (0, false,
 Blk.cols mr
 [Col.int IntKind.i64 tr, Col.int IntKind.i64 vr, Col.int IntKind.i64 gr]),
 (5, true,
 Blk.cells
 [PV.own (6) (3) (List.length x3), PV.own (7) (1) (List.length x4)]),
 (4, true, Blk.cells [PV.nils, PV.nils]),
 (3, true,
 Blk.cells
 [PV.loose (PA.mk (0) (3) ar (0)) nr,
 PV.loose (PA.mk (1) (1) ao (0)) no]),
 (7, true, Blk.cols (List.length x4) [Col.bool fun j => S.at' x4 j]),
 (6, true,
 Blk.cols (List.length x3)
 [Col.int IntKind.i64 fun j => (S.at' x3 j).1,
 Col.int IntKind.i64 fun j => (S.at' x3 j).2.1,
 Col.int IntKind.i64 fun j => (S.at' x3 j).2.2])]]) (9))
 (False))))
 (False))
 (False))
 (test (decide ((0 : Int) ≤ x2 ∧ x2 < (↑nl : Int)))
 (test (decide (Int.toNat x2 + al < ml))
 (test (decide (tl (Int.toNat x2 + al) ≥ tr (Int.toNat x0 + ar)))
 (test (lim IntKind.i64 (x2 + (1 : Int)))
 (Kst (hd Try.f52 1) ([PV.loose (PA.mk (2) (1) al (0)) nl,
 PV.ptr (PA.mk (3) (0) (0) (0)),
 PV.ptr (PA.mk (4) (0) (0) (0)),
 PV.ptr (PA.mk (5) (0) (0) (0)), PV.int IntKind.i64 x0,
 PV.tf true, PV.int IntKind.i64 (x2 + (1 : Int))]) ([[(2, false, Blk.cols ml [Col.int IntKind.i64 tl]),
 (1, false, Blk.cols mo [Col.bool to]),
 (0, false,
 Blk.cols mr
 [Col.int IntKind.i64 tr, Col.int IntKind.i64 vr, Col.int IntKind.i64 gr]),
 (5, true,
 Blk.cells
 [PV.own (6) (3) (List.length x3), PV.own (7) (1) (List.length x4)]),
 (4, true, Blk.cells [PV.nils, PV.nils]),
 (3, true,
 Blk.cells
 [PV.loose (PA.mk (0) (3) ar (0)) nr,
 PV.loose (PA.mk (1) (1) ao (0)) no]),
 (7, true, Blk.cols (List.length x4) [Col.bool fun j => S.at' x4 j]),
 (6, true,
 Blk.cols (List.length x3)
 [Col.int IntKind.i64 fun j => (S.at' x3 j).1,
 Col.int IntKind.i64 fun j => (S.at' x3 j).2.1,
 Col.int IntKind.i64 fun j => (S.at' x3 j).2.2])]]) (9))
 (False))
 (test (decide (tl (Int.toNat x2 + al) ≤ vr (Int.toNat x0 + ar)))
 (test (lim IntKind.i64 (x2 + (1 : Int)))
 (Kst (hd Try.f52 1) ([PV.loose (PA.mk (2) (1) al (0)) nl,
 PV.ptr (PA.mk (3) (0) (0) (0)),
 PV.ptr (PA.mk (4) (0) (0) (0)),
 PV.ptr (PA.mk (5) (0) (0) (0)), PV.int IntKind.i64 x0,
 PV.tf false, PV.int IntKind.i64 (x2 + (1 : Int))]) ([[(2, false, Blk.cols ml [Col.int IntKind.i64 tl]),
 (1, false, Blk.cols mo [Col.bool to]),
 (0, false,
 Blk.cols mr
 [Col.int IntKind.i64 tr, Col.int IntKind.i64 vr, Col.int IntKind.i64 gr]),
 (5, true,
 Blk.cells
 [PV.own (6) (3) (List.length x3), PV.own (7) (1) (List.length x4)]),
 (4, true, Blk.cells [PV.nils, PV.nils]),
 (3, true,
 Blk.cells
 [PV.loose (PA.mk (0) (3) ar (0)) nr,
 PV.loose (PA.mk (1) (1) ao (0)) no]),
 (7, true, Blk.cols (List.length x4) [Col.bool fun j => S.at' x4 j]),
 (6, true,
 Blk.cols (List.length x3)
 [Col.int IntKind.i64 fun j => (S.at' x3 j).1,
 Col.int IntKind.i64 fun j => (S.at' x3 j).2.1,
 Col.int IntKind.i64 fun j => (S.at' x3 j).2.2])]]) (9))
 (False))
 (test (lim IntKind.i64 (x2 + (1 : Int)))
 (Kst (hd Try.f52 1) ([PV.loose (PA.mk (2) (1) al (0)) nl,
 PV.ptr (PA.mk (3) (0) (0) (0)),
 PV.ptr (PA.mk (4) (0) (0) (0)),
 PV.ptr (PA.mk (5) (0) (0) (0)), PV.int IntKind.i64 x0,
 PV.tf false, PV.int IntKind.i64 (x2 + (1 : Int))]) ([[(2, false, Blk.cols ml [Col.int IntKind.i64 tl]),
 (1, false, Blk.cols mo [Col.bool to]),
 (0, false,
 Blk.cols mr
 [Col.int IntKind.i64 tr, Col.int IntKind.i64 vr, Col.int IntKind.i64 gr]),
 (5, true,
 Blk.cells
 [PV.own (6) (3) (List.length x3), PV.own (7) (1) (List.length x4)]),
 (4, true, Blk.cells [PV.nils, PV.nils]),
 (3, true,
 Blk.cells
 [PV.loose (PA.mk (0) (3) ar (0)) nr,
 PV.loose (PA.mk (1) (1) ao (0)) no]),
 (7, true, Blk.cols (List.length x4) [Col.bool fun j => S.at' x4 j]),
 (6, true,
 Blk.cols (List.length x3)
 [Col.int IntKind.i64 fun j => (S.at' x3 j).1,
 Col.int IntKind.i64 fun j => (S.at' x3 j).2.1,
 Col.int IntKind.i64 fun j => (S.at' x3 j).2.2])]]) (9))
 (False))))
 (False))
 (False)))
 (False))
 (False))
 (False))
 (False))
 (test (decide ((0 : Int) ≤ x0 ∧ x0 < (↑nr : Int)))
 (test (decide (Int.toNat x0 + ar < mr))
 (test (decide (Int.toNat x0 + ar < mr))
 (test (decide (Int.toNat x0 + ar < mr))
 (test (decide (List.length x3 + 1 ≤ 1000000))
 (test (decide (List.length x3 ≤ List.length x3))
 (test (true)
 (test (x1)
 (test (decide (List.length x4 + 1 ≤ 1000000))
 (test (decide (List.length x4 ≤ List.length x4))
 (test (true)
 (test (lim IntKind.i64 (x0 + (1 : Int)))
 (Kst (hd Try.f52 0) ([PV.loose (PA.mk (2) (1) al (0)) nl,
 PV.ptr (PA.mk (3) (0) (0) (0)),
 PV.ptr (PA.mk (4) (0) (0) (0)),
 PV.ptr (PA.mk (5) (0) (0) (0)),
 PV.int IntKind.i64 (x0 + (1 : Int)), PV.bool x1, PV.int IntKind.i64 x2]) ([[(2, false, Blk.cols ml [Col.int IntKind.i64 tl]),
 (1, false, Blk.cols mo [Col.bool to]),
 (0, false,
 Blk.cols mr
 [Col.int IntKind.i64 tr, Col.int IntKind.i64 vr, Col.int IntKind.i64 gr]),
 (5, true,
 Blk.cells
 [PV.own (9) (3) (List.length x3 + 1),
 PV.own (11) (1) (List.length x4 + 1)]),
 (4, true, Blk.cells [PV.nils, PV.nils]),
 (3, true,
 Blk.cells
 [PV.loose (PA.mk (0) (3) ar (0)) nr,
 PV.loose (PA.mk (1) (1) ao (0)) no]),
 (11, true,
 Blk.cols (List.length x4 + 1)
 [Col.bool fun j => bif Nat.blt j (List.length x4) then S.at' x4 j else true]),
 (9, true,
 Blk.cols (List.length x3 + 1)
 [Col.int IntKind.i64 fun j =>
 bif Nat.blt j (List.length x3) then (S.at' x3 j).1 else tr (Int.toNat x0 + ar),
 Col.int IntKind.i64 fun j =>
 bif Nat.blt j (List.length x3) then (S.at' x3 j).2.1 else vr (Int.toNat x0 + ar),
 Col.int IntKind.i64 fun j =>
 bif Nat.blt j (List.length x3) then (S.at' x3 j).2.2 else gr (Int.toNat x0 + ar)])]]) (12))
 (False))
 (False))
 (False))
 (False))
 (test (decide (List.length x4 + 1 ≤ 1000000))
 (test (decide (List.length x4 ≤ List.length x4))
 (test (true)
 (test (lim IntKind.i64 (x0 + (1 : Int)))
 (Kst (hd Try.f52 0) ([PV.loose (PA.mk (2) (1) al (0)) nl,
 PV.ptr (PA.mk (3) (0) (0) (0)),
 PV.ptr (PA.mk (4) (0) (0) (0)),
 PV.ptr (PA.mk (5) (0) (0) (0)),
 PV.int IntKind.i64 (x0 + (1 : Int)), PV.bool x1, PV.int IntKind.i64 x2]) ([[(2, false, Blk.cols ml [Col.int IntKind.i64 tl]),
 (1, false, Blk.cols mo [Col.bool to]),
 (0, false,
 Blk.cols mr
 [Col.int IntKind.i64 tr, Col.int IntKind.i64 vr, Col.int IntKind.i64 gr]),
 (5, true,
 Blk.cells
 [PV.own (9) (3) (List.length x3 + 1),
 PV.own (11) (1) (List.length x4 + 1)]),
 (4, true, Blk.cells [PV.nils, PV.nils]),
 (3, true,
 Blk.cells
 [PV.loose (PA.mk (0) (3) ar (0)) nr,
 PV.loose (PA.mk (1) (1) ao (0)) no]),
 (11, true,
 Blk.cols (List.length x4 + 1)
 [Col.bool fun j => bif Nat.blt j (List.length x4) then S.at' x4 j else false]),
 (9, true,
 Blk.cols (List.length x3 + 1)
 [Col.int IntKind.i64 fun j =>
 bif Nat.blt j (List.length x3) then (S.at' x3 j).1 else tr (Int.toNat x0 + ar),
 Col.int IntKind.i64 fun j =>
 bif Nat.blt j (List.length x3) then (S.at' x3 j).2.1 else vr (Int.toNat x0 + ar),
 Col.int IntKind.i64 fun j =>
 bif Nat.blt j (List.length x3) then (S.at' x3 j).2.2 else gr (Int.toNat x0 + ar)])]]) (12))
 (False))
 (False))
 (False))
 (False)))
 (False))
 (False))
 (False))
 (False))
 (False))
 (False))
 (False))
theorem t26_1 (test : Bool → Prop → Prop → Prop) (Kst : KS) (Kret : KR) (ar nr mr : Nat) (tr : Nat → Int) (vr : Nat → Int) (gr : Nat → Int) (ao no mo : Nat) (to : Nat → Bool) (al nl ml : Nat) (tl : Nat → Int) (x0 : Int) (x1 : Bool) (x2 : Int) (x3 : List (Int × Int × Int)) (x4 : List Bool) : run test Try.env true (xC test) true 400 ⟨52, hd Try.f52 1, zipT [1, 2, 4, 7, 8, 9, 10] [PV.loose (PA.mk (2) (1) al (0)) nl,
 PV.ptr (PA.mk (3) (0) (0) (0)),
 PV.ptr (PA.mk (4) (0) (0) (0)),
 PV.ptr (PA.mk (5) (0) (0) (0)), PV.int IntKind.i64 x0,
 PV.bool x1, PV.int IntKind.i64 x2], [[(3, (true, Blk.cells
 [PV.loose (PA.mk (0) (3) ar (0)) nr,
 PV.loose (PA.mk (1) (1) ao (0)) no])), (4, (true, Blk.cells [PV.nils, PV.nils])), (5, (true, Blk.cells
 [PV.own (6) (3) (List.length x3), PV.own (7) (1) (List.length x4)])), (6, (true, Blk.cols (List.length x3)
 [Col.int IntKind.i64 fun j => (S.at' x3 j).1,
 Col.int IntKind.i64 fun j => (S.at' x3 j).2.1,
 Col.int IntKind.i64 fun j => (S.at' x3 j).2.2])), (7, (true, Blk.cols (List.length x4) [Col.bool fun j => S.at' x4 j]))], [(0, (false, .cols mr [.int .i64 tr, .int .i64 vr, .int .i64 gr])), (1, (false, .cols mo [.bool to])), (2, (false, .cols ml [.int .i64 tl]))]], 8⟩ (proj 3 [1, 2, 4, 7, 8, 9, 10] Kst Kret) =
  T26_1 test Kst Kret ar nr mr tr vr gr ao no mo to al nl ml tl x0 x1 x2 x3 x4 := by kernel_rfl
theorem be26 (ar nr mr : Nat) (tr : Nat → Int) (vr : Nat → Int) (gr : Nat → Int) (ao no mo : Nat) (to : Nat → Bool) (al nl ml : Nat) (tl : Nat → Int) (Kst : KS) (Kret : KR) (x : St26 ⊕ Rt26) (hS : HS 3 400 ((I26 ar nr mr tr vr gr ao no mo to al nl ml tl)) Kst x) (hR : HR 3 400 ((V26 ar nr mr tr vr gr ao no mo to al nl ml tl)) (fun r => [newL (3 + 1) ((N26 ar nr mr tr vr gr ao no mo to al nl ml tl) r) ++ [(0, (false, .cols mr [.int .i64 tr, .int .i64 vr, .int .i64 gr])), (1, (false, .cols mo [.bool to])), (2, (false, .cols ml [.int .i64 tl]))]]) Kret x) (h : (bif (decide (ar + nr ≤ mr ∧ nr ≤ 1000000 ∧ al + nl ≤ ml ∧ nl ≤ 1000000))
 then (bif ((S.histE nr (fun j => tr (j + ar)) (fun j => vr (j + ar)) (fun j => gr (j + ar)) no nl
 fun j => tl (j + al)) !=
 (0 : Int))
 then (some (.inr (S.histE nr (fun j => tr (j + ar)) (fun j => vr (j + ar)) (fun j => gr (j + ar)) no nl
 fun j => tl (j + al), [], [])))
 else (some (.inl (.h0 ((0 : Int)) ([]) ([])))))
 else (none) : Option (St26 ⊕ Rt26)) = some x) : Te26 cond Kst Kret ar nr mr tr vr gr ao no mo to al nl ml tl := by
  unfold Te26
  exact bif_split h
   (fun c0 h => bif_split h
   (fun c1 h => ret_at hR _ h (fun n => bif Nat.beq n 4 then 399 else bif Nat.beq n 5 then 398 else n) rfl rfl rfl (rn_tup ⟨(rn_agg ⟨(rn_own_nils rfl), (rn_own_nils rfl), trivial⟩), (rn_int rfl), trivial⟩) rfl (entl_fresh (use_own rfl) (fresh_ok rfl) (entl_fresh (use_own rfl) (fresh_ok rfl) (entl_bor (use_lo rfl) rfl rfl (entl_bor (use_lo rfl) rfl rfl (entl_bor (use_lo rfl) rfl rfl entl_nil))))))
   (fun c1 h => stop_at hS _ h (fun n => bif Nat.beq n 3 then 3 else bif Nat.beq n 4 then 4 else bif Nat.beq n 5 then 6 else bif Nat.beq n 6 then 399 else bif Nat.beq n 7 then 398 else n) rfl rfl rfl ⟨(rn_loose (use_lo rfl) rfl rfl rfl), ⟨(rn_ptr (use_own rfl) rfl rfl), ⟨(rn_ptr (use_own rfl) rfl rfl), ⟨(rn_ptr (use_own rfl) rfl rfl), ⟨(rn_int rfl), ⟨(rn_unk _), ⟨(rn_unk _), trivial⟩⟩⟩⟩⟩⟩⟩ rfl (entl_b (use_own rfl) rfl (by simp) (rb_cells ⟨(rn_loose (use_lo rfl) rfl rfl rfl), (rn_loose (use_lo rfl) rfl rfl rfl), trivial⟩) (entl_b (use_own rfl) rfl (by simp) (rb_cells ⟨rn_nils, rn_nils, trivial⟩) (entl_b (use_own rfl) rfl (by simp) (rb_cells ⟨(rn_own_nils rfl), (rn_own_nils rfl), trivial⟩) (entl_fresh (use_own rfl) (fresh_ok rfl) (entl_fresh (use_own rfl) (fresh_ok rfl) (entl_bor (use_lo rfl) rfl rfl (entl_bor (use_lo rfl) rfl rfl (entl_bor (use_lo rfl) rfl rfl entl_nil))))))))))
   (fun c0 h => no_some h)
theorem b26_0 (ar nr mr : Nat) (tr : Nat → Int) (vr : Nat → Int) (gr : Nat → Int) (ao no mo : Nat) (to : Nat → Bool) (al nl ml : Nat) (tl : Nat → Int) (Kst : KS) (Kret : KR) (x : St26 ⊕ Rt26) (hS : HS 3 400 ((I26 ar nr mr tr vr gr ao no mo to al nl ml tl)) Kst x) (hR : HR 3 400 ((V26 ar nr mr tr vr gr ao no mo to al nl ml tl)) (fun r => [newL (3 + 1) ((N26 ar nr mr tr vr gr ao no mo to al nl ml tl) r) ++ [(0, (false, .cols mr [.int .i64 tr, .int .i64 vr, .int .i64 gr])), (1, (false, .cols mo [.bool to])), (2, (false, .cols ml [.int .i64 tl]))]]) Kret x) (x0 : Int) (x1 : List (Int × Int × Int)) (x2 : List Bool) (h : (bif (decide (x0 < (↑nr : Int)))
 then (bif (decide ((0 : Int) ≤ x0 ∧ x0 < (↑no : Int)))
 then (bif (decide (Int.toNat x0 + ao < mo))
 then (bif (to (Int.toNat x0 + ao))
 then (some (.inl (.h1 (x0) (true) ((0 : Int)) (x1) (x2))))
 else (some (.inl (.h1 (x0) (false) ((0 : Int)) (x1) (x2)))))
 else (none))
 else (none))
 else (some (.inr ((0 : Int), x1, x2))) : Option (St26 ⊕ Rt26)) = some x) : T26_0 cond Kst Kret ar nr mr tr vr gr ao no mo to al nl ml tl x0 x1 x2 := by
  unfold T26_0
  exact bif_split h
   (fun c0 h => bif_split h
   (fun c1 h => bif_split h
   (fun c2 h => bif_split h
   (fun c3 h => stop_at hS _ h (fun n => bif Nat.beq n 3 then 3 else bif Nat.beq n 4 then 4 else bif Nat.beq n 5 then 5 else bif Nat.beq n 6 then 6 else bif Nat.beq n 7 then 7 else n) rfl rfl rfl ⟨(rn_loose (use_lo rfl) rfl rfl rfl), ⟨(rn_ptr (use_own rfl) rfl rfl), ⟨(rn_ptr (use_own rfl) rfl rfl), ⟨(rn_ptr (use_own rfl) rfl rfl), ⟨(rn_int rfl), ⟨(rn_bool_tf rfl), ⟨(rn_int rfl), trivial⟩⟩⟩⟩⟩⟩⟩ rfl (entl_b (use_own rfl) rfl (by simp) (rb_cells ⟨(rn_loose (use_lo rfl) rfl rfl rfl), (rn_loose (use_lo rfl) rfl rfl rfl), trivial⟩) (entl_b (use_own rfl) rfl (by simp) (rb_cells ⟨rn_nils, rn_nils, trivial⟩) (entl_b (use_own rfl) rfl (by simp) (rb_cells ⟨(rn_own (use_own rfl) rfl rfl), (rn_own (use_own rfl) rfl rfl), trivial⟩) (entl_new (use_own rfl) rfl (Nat.le_of_eq rfl) (rcs_int (fun _ _ => rfl) (rcs_int (fun _ _ => rfl) (rcs_int (fun _ _ => rfl) rcs_nil))) (entl_new (use_own rfl) rfl (Nat.le_of_eq rfl) (rcs_bool (fun _ _ => rfl) rcs_nil) (entl_bor (use_lo rfl) rfl rfl (entl_bor (use_lo rfl) rfl rfl (entl_bor (use_lo rfl) rfl rfl entl_nil)))))))))
   (fun c3 h => stop_at hS _ h (fun n => bif Nat.beq n 3 then 3 else bif Nat.beq n 4 then 4 else bif Nat.beq n 5 then 5 else bif Nat.beq n 6 then 6 else bif Nat.beq n 7 then 7 else n) rfl rfl rfl ⟨(rn_loose (use_lo rfl) rfl rfl rfl), ⟨(rn_ptr (use_own rfl) rfl rfl), ⟨(rn_ptr (use_own rfl) rfl rfl), ⟨(rn_ptr (use_own rfl) rfl rfl), ⟨(rn_int rfl), ⟨(rn_bool_tf rfl), ⟨(rn_int rfl), trivial⟩⟩⟩⟩⟩⟩⟩ rfl (entl_b (use_own rfl) rfl (by simp) (rb_cells ⟨(rn_loose (use_lo rfl) rfl rfl rfl), (rn_loose (use_lo rfl) rfl rfl rfl), trivial⟩) (entl_b (use_own rfl) rfl (by simp) (rb_cells ⟨rn_nils, rn_nils, trivial⟩) (entl_b (use_own rfl) rfl (by simp) (rb_cells ⟨(rn_own (use_own rfl) rfl rfl), (rn_own (use_own rfl) rfl rfl), trivial⟩) (entl_new (use_own rfl) rfl (Nat.le_of_eq rfl) (rcs_int (fun _ _ => rfl) (rcs_int (fun _ _ => rfl) (rcs_int (fun _ _ => rfl) rcs_nil))) (entl_new (use_own rfl) rfl (Nat.le_of_eq rfl) (rcs_bool (fun _ _ => rfl) rcs_nil) (entl_bor (use_lo rfl) rfl rfl (entl_bor (use_lo rfl) rfl rfl (entl_bor (use_lo rfl) rfl rfl entl_nil))))))))))
   (fun c2 h => no_some h))
   (fun c1 h => no_some h))
   (fun c0 h => ret_at hR _ h (fun n => bif Nat.beq n 4 then 6 else bif Nat.beq n 5 then 7 else n) rfl rfl rfl (rn_tup ⟨(rn_agg ⟨(rn_own (use_own rfl) rfl rfl), (rn_own (use_own rfl) rfl rfl), trivial⟩), (rn_int rfl), trivial⟩) rfl (entl_new (use_own rfl) rfl (Nat.le_of_eq rfl) (rcs_int (fun _ _ => rfl) (rcs_int (fun _ _ => rfl) (rcs_int (fun _ _ => rfl) rcs_nil))) (entl_new (use_own rfl) rfl (Nat.le_of_eq rfl) (rcs_bool (fun _ _ => rfl) rcs_nil) (entl_bor (use_lo rfl) rfl rfl (entl_bor (use_lo rfl) rfl rfl (entl_bor (use_lo rfl) rfl rfl entl_nil))))))
theorem b26_1 (ar nr mr : Nat) (tr : Nat → Int) (vr : Nat → Int) (gr : Nat → Int) (ao no mo : Nat) (to : Nat → Bool) (al nl ml : Nat) (tl : Nat → Int) (Kst : KS) (Kret : KR) (x : St26 ⊕ Rt26) (hS : HS 3 400 ((I26 ar nr mr tr vr gr ao no mo to al nl ml tl)) Kst x) (hR : HR 3 400 ((V26 ar nr mr tr vr gr ao no mo to al nl ml tl)) (fun r => [newL (3 + 1) ((N26 ar nr mr tr vr gr ao no mo to al nl ml tl) r) ++ [(0, (false, .cols mr [.int .i64 tr, .int .i64 vr, .int .i64 gr])), (1, (false, .cols mo [.bool to])), (2, (false, .cols ml [.int .i64 tl]))]]) Kret x) (x0 : Int) (x1 : Bool) (x2 : Int) (x3 : List (Int × Int × Int)) (x4 : List Bool) (h : (bif (decide (x2 < (↑nl : Int)))
 then (bif (decide ((0 : Int) ≤ x0 ∧ x0 < (↑nr : Int)))
 then (bif (decide (Int.toNat x0 + ar < mr))
 then (bif (x1)
 then (bif (decide ((0 : Int) ≤ x2 ∧ x2 < (↑nl : Int)))
 then (bif (decide (Int.toNat x2 + al < ml))
 then (bif (decide (tl (Int.toNat x2 + al) ≥ tr (Int.toNat x0 + ar)))
 then (bif (lim IntKind.i64 (x2 + (1 : Int)))
 then (some (.inl (.h1 (x0) (true) (x2 + (1 : Int)) (x3) (x4))))
 else (none))
 else (bif (decide (tl (Int.toNat x2 + al) ≤ vr (Int.toNat x0 + ar)))
 then (bif (lim IntKind.i64 (x2 + (1 : Int)))
 then (some (.inl (.h1 (x0) (false) (x2 + (1 : Int)) (x3) (x4))))
 else (none))
 else (bif (lim IntKind.i64 (x2 + (1 : Int)))
 then (some (.inl (.h1 (x0) (true) (x2 + (1 : Int)) (x3) (x4))))
 else (none))))
 else (none))
 else (none))
 else (bif (decide ((0 : Int) ≤ x2 ∧ x2 < (↑nl : Int)))
 then (bif (decide (Int.toNat x2 + al < ml))
 then (bif (decide (tl (Int.toNat x2 + al) ≥ tr (Int.toNat x0 + ar)))
 then (bif (lim IntKind.i64 (x2 + (1 : Int)))
 then (some (.inl (.h1 (x0) (true) (x2 + (1 : Int)) (x3) (x4))))
 else (none))
 else (bif (decide (tl (Int.toNat x2 + al) ≤ vr (Int.toNat x0 + ar)))
 then (bif (lim IntKind.i64 (x2 + (1 : Int)))
 then (some (.inl (.h1 (x0) (false) (x2 + (1 : Int)) (x3) (x4))))
 else (none))
 else (bif (lim IntKind.i64 (x2 + (1 : Int)))
 then (some (.inl (.h1 (x0) (false) (x2 + (1 : Int)) (x3) (x4))))
 else (none))))
 else (none))
 else (none)))
 else (none))
 else (none))
 else (bif (decide ((0 : Int) ≤ x0 ∧ x0 < (↑nr : Int)))
 then (bif (decide (Int.toNat x0 + ar < mr))
 then (bif (decide (List.length x3 + 1 ≤ 1000000))
 then (bif (decide (List.length x3 ≤ List.length x3))
 then (bif (x1)
 then (bif (decide (List.length x4 + 1 ≤ 1000000))
 then (bif (decide (List.length x4 ≤ List.length x4))
 then (bif (lim IntKind.i64 (x0 + (1 : Int)))
 then (some (.inl (.h0 (x0 + (1 : Int)) (S.snoc x3 (tr (Int.toNat x0 + ar), vr (Int.toNat x0 + ar), gr (Int.toNat x0 + ar))) (S.snoc x4 true))))
 else (none))
 else (none))
 else (none))
 else (bif (decide (List.length x4 + 1 ≤ 1000000))
 then (bif (decide (List.length x4 ≤ List.length x4))
 then (bif (lim IntKind.i64 (x0 + (1 : Int)))
 then (some (.inl (.h0 (x0 + (1 : Int)) (S.snoc x3 (tr (Int.toNat x0 + ar), vr (Int.toNat x0 + ar), gr (Int.toNat x0 + ar))) (S.snoc x4 false))))
 else (none))
 else (none))
 else (none)))
 else (none))
 else (none))
 else (none))
 else (none)) : Option (St26 ⊕ Rt26)) = some x) : T26_1 cond Kst Kret ar nr mr tr vr gr ao no mo to al nl ml tl x0 x1 x2 x3 x4 := by
  unfold T26_1
  exact bif_split h
   (fun c0 h => bif_split h
   (fun c1 h => bif_split h
   (fun c2 h => cond_yes c2 (cond_yes c2 (bif_split h
   (fun c3 h => bif_split h
   (fun c4 h => bif_split h
   (fun c5 h => bif_split h
   (fun c6 h => bif_split h
   (fun c7 h => stop_at hS _ h (fun n => bif Nat.beq n 3 then 3 else bif Nat.beq n 4 then 4 else bif Nat.beq n 5 then 5 else bif Nat.beq n 6 then 6 else bif Nat.beq n 7 then 7 else n) rfl rfl rfl ⟨(rn_loose (use_lo rfl) rfl rfl rfl), ⟨(rn_ptr (use_own rfl) rfl rfl), ⟨(rn_ptr (use_own rfl) rfl rfl), ⟨(rn_ptr (use_own rfl) rfl rfl), ⟨(rn_int rfl), ⟨(rn_bool_tf rfl), ⟨(rn_int rfl), trivial⟩⟩⟩⟩⟩⟩⟩ rfl (entl_b (use_own rfl) rfl (by simp) (rb_cells ⟨(rn_loose (use_lo rfl) rfl rfl rfl), (rn_loose (use_lo rfl) rfl rfl rfl), trivial⟩) (entl_b (use_own rfl) rfl (by simp) (rb_cells ⟨rn_nils, rn_nils, trivial⟩) (entl_b (use_own rfl) rfl (by simp) (rb_cells ⟨(rn_own (use_own rfl) rfl rfl), (rn_own (use_own rfl) rfl rfl), trivial⟩) (entl_new (use_own rfl) rfl (Nat.le_of_eq rfl) (rcs_int (fun _ _ => rfl) (rcs_int (fun _ _ => rfl) (rcs_int (fun _ _ => rfl) rcs_nil))) (entl_new (use_own rfl) rfl (Nat.le_of_eq rfl) (rcs_bool (fun _ _ => rfl) rcs_nil) (entl_bor (use_lo rfl) rfl rfl (entl_bor (use_lo rfl) rfl rfl (entl_bor (use_lo rfl) rfl rfl entl_nil)))))))))
   (fun c7 h => no_some h))
   (fun c6 h => bif_split h
   (fun c7 h => bif_split h
   (fun c8 h => stop_at hS _ h (fun n => bif Nat.beq n 3 then 3 else bif Nat.beq n 4 then 4 else bif Nat.beq n 5 then 5 else bif Nat.beq n 6 then 6 else bif Nat.beq n 7 then 7 else n) rfl rfl rfl ⟨(rn_loose (use_lo rfl) rfl rfl rfl), ⟨(rn_ptr (use_own rfl) rfl rfl), ⟨(rn_ptr (use_own rfl) rfl rfl), ⟨(rn_ptr (use_own rfl) rfl rfl), ⟨(rn_int rfl), ⟨(rn_bool_tf rfl), ⟨(rn_int rfl), trivial⟩⟩⟩⟩⟩⟩⟩ rfl (entl_b (use_own rfl) rfl (by simp) (rb_cells ⟨(rn_loose (use_lo rfl) rfl rfl rfl), (rn_loose (use_lo rfl) rfl rfl rfl), trivial⟩) (entl_b (use_own rfl) rfl (by simp) (rb_cells ⟨rn_nils, rn_nils, trivial⟩) (entl_b (use_own rfl) rfl (by simp) (rb_cells ⟨(rn_own (use_own rfl) rfl rfl), (rn_own (use_own rfl) rfl rfl), trivial⟩) (entl_new (use_own rfl) rfl (Nat.le_of_eq rfl) (rcs_int (fun _ _ => rfl) (rcs_int (fun _ _ => rfl) (rcs_int (fun _ _ => rfl) rcs_nil))) (entl_new (use_own rfl) rfl (Nat.le_of_eq rfl) (rcs_bool (fun _ _ => rfl) rcs_nil) (entl_bor (use_lo rfl) rfl rfl (entl_bor (use_lo rfl) rfl rfl (entl_bor (use_lo rfl) rfl rfl entl_nil)))))))))
   (fun c8 h => no_some h))
   (fun c7 h => bif_split h
   (fun c8 h => stop_at hS _ h (fun n => bif Nat.beq n 3 then 3 else bif Nat.beq n 4 then 4 else bif Nat.beq n 5 then 5 else bif Nat.beq n 6 then 6 else bif Nat.beq n 7 then 7 else n) rfl rfl rfl ⟨(rn_loose (use_lo rfl) rfl rfl rfl), ⟨(rn_ptr (use_own rfl) rfl rfl), ⟨(rn_ptr (use_own rfl) rfl rfl), ⟨(rn_ptr (use_own rfl) rfl rfl), ⟨(rn_int rfl), ⟨(rn_bool_tf rfl), ⟨(rn_int rfl), trivial⟩⟩⟩⟩⟩⟩⟩ rfl (entl_b (use_own rfl) rfl (by simp) (rb_cells ⟨(rn_loose (use_lo rfl) rfl rfl rfl), (rn_loose (use_lo rfl) rfl rfl rfl), trivial⟩) (entl_b (use_own rfl) rfl (by simp) (rb_cells ⟨rn_nils, rn_nils, trivial⟩) (entl_b (use_own rfl) rfl (by simp) (rb_cells ⟨(rn_own (use_own rfl) rfl rfl), (rn_own (use_own rfl) rfl rfl), trivial⟩) (entl_new (use_own rfl) rfl (Nat.le_of_eq rfl) (rcs_int (fun _ _ => rfl) (rcs_int (fun _ _ => rfl) (rcs_int (fun _ _ => rfl) rcs_nil))) (entl_new (use_own rfl) rfl (Nat.le_of_eq rfl) (rcs_bool (fun _ _ => rfl) rcs_nil) (entl_bor (use_lo rfl) rfl rfl (entl_bor (use_lo rfl) rfl rfl (entl_bor (use_lo rfl) rfl rfl entl_nil)))))))))
   (fun c8 h => no_some h))))
   (fun c5 h => no_some h))
   (fun c4 h => no_some h))
   (fun c3 h => bif_split h
   (fun c4 h => bif_split h
   (fun c5 h => bif_split h
   (fun c6 h => bif_split h
   (fun c7 h => stop_at hS _ h (fun n => bif Nat.beq n 3 then 3 else bif Nat.beq n 4 then 4 else bif Nat.beq n 5 then 5 else bif Nat.beq n 6 then 6 else bif Nat.beq n 7 then 7 else n) rfl rfl rfl ⟨(rn_loose (use_lo rfl) rfl rfl rfl), ⟨(rn_ptr (use_own rfl) rfl rfl), ⟨(rn_ptr (use_own rfl) rfl rfl), ⟨(rn_ptr (use_own rfl) rfl rfl), ⟨(rn_int rfl), ⟨(rn_bool_tf rfl), ⟨(rn_int rfl), trivial⟩⟩⟩⟩⟩⟩⟩ rfl (entl_b (use_own rfl) rfl (by simp) (rb_cells ⟨(rn_loose (use_lo rfl) rfl rfl rfl), (rn_loose (use_lo rfl) rfl rfl rfl), trivial⟩) (entl_b (use_own rfl) rfl (by simp) (rb_cells ⟨rn_nils, rn_nils, trivial⟩) (entl_b (use_own rfl) rfl (by simp) (rb_cells ⟨(rn_own (use_own rfl) rfl rfl), (rn_own (use_own rfl) rfl rfl), trivial⟩) (entl_new (use_own rfl) rfl (Nat.le_of_eq rfl) (rcs_int (fun _ _ => rfl) (rcs_int (fun _ _ => rfl) (rcs_int (fun _ _ => rfl) rcs_nil))) (entl_new (use_own rfl) rfl (Nat.le_of_eq rfl) (rcs_bool (fun _ _ => rfl) rcs_nil) (entl_bor (use_lo rfl) rfl rfl (entl_bor (use_lo rfl) rfl rfl (entl_bor (use_lo rfl) rfl rfl entl_nil)))))))))
   (fun c7 h => no_some h))
   (fun c6 h => bif_split h
   (fun c7 h => bif_split h
   (fun c8 h => stop_at hS _ h (fun n => bif Nat.beq n 3 then 3 else bif Nat.beq n 4 then 4 else bif Nat.beq n 5 then 5 else bif Nat.beq n 6 then 6 else bif Nat.beq n 7 then 7 else n) rfl rfl rfl ⟨(rn_loose (use_lo rfl) rfl rfl rfl), ⟨(rn_ptr (use_own rfl) rfl rfl), ⟨(rn_ptr (use_own rfl) rfl rfl), ⟨(rn_ptr (use_own rfl) rfl rfl), ⟨(rn_int rfl), ⟨(rn_bool_tf rfl), ⟨(rn_int rfl), trivial⟩⟩⟩⟩⟩⟩⟩ rfl (entl_b (use_own rfl) rfl (by simp) (rb_cells ⟨(rn_loose (use_lo rfl) rfl rfl rfl), (rn_loose (use_lo rfl) rfl rfl rfl), trivial⟩) (entl_b (use_own rfl) rfl (by simp) (rb_cells ⟨rn_nils, rn_nils, trivial⟩) (entl_b (use_own rfl) rfl (by simp) (rb_cells ⟨(rn_own (use_own rfl) rfl rfl), (rn_own (use_own rfl) rfl rfl), trivial⟩) (entl_new (use_own rfl) rfl (Nat.le_of_eq rfl) (rcs_int (fun _ _ => rfl) (rcs_int (fun _ _ => rfl) (rcs_int (fun _ _ => rfl) rcs_nil))) (entl_new (use_own rfl) rfl (Nat.le_of_eq rfl) (rcs_bool (fun _ _ => rfl) rcs_nil) (entl_bor (use_lo rfl) rfl rfl (entl_bor (use_lo rfl) rfl rfl (entl_bor (use_lo rfl) rfl rfl entl_nil)))))))))
   (fun c8 h => no_some h))
   (fun c7 h => bif_split h
   (fun c8 h => stop_at hS _ h (fun n => bif Nat.beq n 3 then 3 else bif Nat.beq n 4 then 4 else bif Nat.beq n 5 then 5 else bif Nat.beq n 6 then 6 else bif Nat.beq n 7 then 7 else n) rfl rfl rfl ⟨(rn_loose (use_lo rfl) rfl rfl rfl), ⟨(rn_ptr (use_own rfl) rfl rfl), ⟨(rn_ptr (use_own rfl) rfl rfl), ⟨(rn_ptr (use_own rfl) rfl rfl), ⟨(rn_int rfl), ⟨(rn_bool_tf rfl), ⟨(rn_int rfl), trivial⟩⟩⟩⟩⟩⟩⟩ rfl (entl_b (use_own rfl) rfl (by simp) (rb_cells ⟨(rn_loose (use_lo rfl) rfl rfl rfl), (rn_loose (use_lo rfl) rfl rfl rfl), trivial⟩) (entl_b (use_own rfl) rfl (by simp) (rb_cells ⟨rn_nils, rn_nils, trivial⟩) (entl_b (use_own rfl) rfl (by simp) (rb_cells ⟨(rn_own (use_own rfl) rfl rfl), (rn_own (use_own rfl) rfl rfl), trivial⟩) (entl_new (use_own rfl) rfl (Nat.le_of_eq rfl) (rcs_int (fun _ _ => rfl) (rcs_int (fun _ _ => rfl) (rcs_int (fun _ _ => rfl) rcs_nil))) (entl_new (use_own rfl) rfl (Nat.le_of_eq rfl) (rcs_bool (fun _ _ => rfl) rcs_nil) (entl_bor (use_lo rfl) rfl rfl (entl_bor (use_lo rfl) rfl rfl (entl_bor (use_lo rfl) rfl rfl entl_nil)))))))))
   (fun c8 h => no_some h))))
   (fun c5 h => no_some h))
   (fun c4 h => no_some h)))))
   (fun c2 h => no_some h))
   (fun c1 h => no_some h))
   (fun c0 h => bif_split h
   (fun c1 h => bif_split h
   (fun c2 h => cond_yes c2 (cond_yes c2 (bif_split h
   (fun c3 h => bif_split h
   (fun c4 h => cond_yes rfl (bif_split h
   (fun c5 h => bif_split h
   (fun c6 h => bif_split h
   (fun c7 h => cond_yes rfl (bif_split h
   (fun c8 h => stop_at hS _ h (fun n => bif Nat.beq n 3 then 3 else bif Nat.beq n 4 then 4 else bif Nat.beq n 5 then 5 else bif Nat.beq n 6 then 9 else bif Nat.beq n 7 then 11 else n) rfl rfl rfl ⟨(rn_loose (use_lo rfl) rfl rfl rfl), ⟨(rn_ptr (use_own rfl) rfl rfl), ⟨(rn_ptr (use_own rfl) rfl rfl), ⟨(rn_ptr (use_own rfl) rfl rfl), ⟨(rn_int rfl), ⟨(rn_unk _), ⟨(rn_unk _), trivial⟩⟩⟩⟩⟩⟩⟩ rfl (entl_b (use_own rfl) rfl (by simp) (rb_cells ⟨(rn_loose (use_lo rfl) rfl rfl rfl), (rn_loose (use_lo rfl) rfl rfl rfl), trivial⟩) (entl_b (use_own rfl) rfl (by simp) (rb_cells ⟨rn_nils, rn_nils, trivial⟩) (entl_b (use_own rfl) rfl (by simp) (rb_cells ⟨(rn_own (use_own rfl) rfl (snoc_len' rfl)), (rn_own (use_own rfl) rfl (snoc_len' rfl)), trivial⟩) (entl_new (use_own rfl) rfl (Nat.le_of_eq (snoc_len' rfl)) (rcs_int (col_snoc' (fun (t : Int × Int × Int) => t.1) rfl (fun _ _ => rfl)) (rcs_int (col_snoc' (fun (t : Int × Int × Int) => t.2.1) rfl (fun _ _ => rfl)) (rcs_int (col_snoc' (fun (t : Int × Int × Int) => t.2.2) rfl (fun _ _ => rfl)) rcs_nil))) (entl_new (use_own rfl) rfl (Nat.le_of_eq (snoc_len' rfl)) (rcs_bool (col_snoc' (fun (t : Bool) => t) rfl (fun _ _ => rfl)) rcs_nil) (entl_bor (use_lo rfl) rfl rfl (entl_bor (use_lo rfl) rfl rfl (entl_bor (use_lo rfl) rfl rfl entl_nil)))))))))
   (fun c8 h => no_some h)))
   (fun c7 h => no_some h))
   (fun c6 h => no_some h))
   (fun c5 h => bif_split h
   (fun c6 h => bif_split h
   (fun c7 h => cond_yes rfl (bif_split h
   (fun c8 h => stop_at hS _ h (fun n => bif Nat.beq n 3 then 3 else bif Nat.beq n 4 then 4 else bif Nat.beq n 5 then 5 else bif Nat.beq n 6 then 9 else bif Nat.beq n 7 then 11 else n) rfl rfl rfl ⟨(rn_loose (use_lo rfl) rfl rfl rfl), ⟨(rn_ptr (use_own rfl) rfl rfl), ⟨(rn_ptr (use_own rfl) rfl rfl), ⟨(rn_ptr (use_own rfl) rfl rfl), ⟨(rn_int rfl), ⟨(rn_unk _), ⟨(rn_unk _), trivial⟩⟩⟩⟩⟩⟩⟩ rfl (entl_b (use_own rfl) rfl (by simp) (rb_cells ⟨(rn_loose (use_lo rfl) rfl rfl rfl), (rn_loose (use_lo rfl) rfl rfl rfl), trivial⟩) (entl_b (use_own rfl) rfl (by simp) (rb_cells ⟨rn_nils, rn_nils, trivial⟩) (entl_b (use_own rfl) rfl (by simp) (rb_cells ⟨(rn_own (use_own rfl) rfl (snoc_len' rfl)), (rn_own (use_own rfl) rfl (snoc_len' rfl)), trivial⟩) (entl_new (use_own rfl) rfl (Nat.le_of_eq (snoc_len' rfl)) (rcs_int (col_snoc' (fun (t : Int × Int × Int) => t.1) rfl (fun _ _ => rfl)) (rcs_int (col_snoc' (fun (t : Int × Int × Int) => t.2.1) rfl (fun _ _ => rfl)) (rcs_int (col_snoc' (fun (t : Int × Int × Int) => t.2.2) rfl (fun _ _ => rfl)) rcs_nil))) (entl_new (use_own rfl) rfl (Nat.le_of_eq (snoc_len' rfl)) (rcs_bool (col_snoc' (fun (t : Bool) => t) rfl (fun _ _ => rfl)) rcs_nil) (entl_bor (use_lo rfl) rfl rfl (entl_bor (use_lo rfl) rfl rfl (entl_bor (use_lo rfl) rfl rfl entl_nil)))))))))
   (fun c8 h => no_some h)))
   (fun c7 h => no_some h))
   (fun c6 h => no_some h))))
   (fun c4 h => no_some h))
   (fun c3 h => no_some h))))
   (fun c2 h => no_some h))
   (fun c1 h => no_some h))
theorem a26 (ar nr mr : Nat) (tr : Nat → Int) (vr : Nat → Int) (gr : Nat → Int) (ao no mo : Nat) (to : Nat → Bool) (al nl ml : Nat) (tl : Nat → Int) {r : Rt26} (h : Goes ((q26 ar nr mr tr vr gr ao no mo to al nl ml tl)) ((p26 ar nr mr tr vr gr ao no mo to al nl ml tl)) r) : CallR Try.prog 52 [.agg [.loose ⟨0, 3, ar, 0⟩ nr, .loose ⟨1, 1, ao, 0⟩ no], .loose ⟨2, 1, al, 0⟩ nl] [[(0, (false, .cols mr [.int .i64 tr, .int .i64 vr, .int .i64 gr])), (1, (false, .cols mo [.bool to])), (2, (false, .cols ml [.int .i64 tl]))]] 3 ((V26 ar nr mr tr vr gr ao no mo to al nl ml tl) r) ((fun r => [newL (3 + 1) ((N26 ar nr mr tr vr gr ao no mo to al nl ml tl) r) ++ [(0, (false, .cols mr [.int .i64 tr, .int .i64 vr, .int .i64 gr])), (1, (false, .cols mo [.bool to])), (2, (false, .cols ml [.int .i64 tl]))]]) r) 400 ∧ ∃ F, Try.prog.funcs[52]? = some F ∧ F.body.isSome = true ∧ (F.name == "runtime.NumGoroutine") = false := by
  refine dec_calls (f := 52) (lo := 3) (hi := 400) (H := [[(0, (false, .cols mr [.int .i64 tr, .int .i64 vr, .int .i64 gr])), (1, (false, .cols mo [.bool to])), (2, (false, .cols ml [.int .i64 tl]))]]) (args := [.agg [.loose ⟨0, 3, ar, 0⟩ nr, .loose ⟨1, 1, ao, 0⟩ no], .loose ⟨2, 1, al, 0⟩ nl]) Try.envOk Try.mixed xC_ok ((I26 ar nr mr tr vr gr ao no mo to al nl ml tl)) ((V26 ar nr mr tr vr gr ao no mo to al nl ml tl)) (fun r => [newL (3 + 1) ((N26 ar nr mr tr vr gr ao no mo to al nl ml tl) r) ++ [(0, (false, .cols mr [.int .i64 tr, .int .i64 vr, .int .i64 gr])), (1, (false, .cols mo [.bool to])), (2, (false, .cols ml [.int .i64 tl]))]]) (fn := mkFn Try.f52) (ts := [1, 2, 4, 7, 8, 9, 10]) (n := 400) rfl (by decide) (by simp) (names_of rfl) ?_ ?_ ?_ h
  · intro s; cases s <;> exact ⟨hd_ok _ _, by simp [I26], names_of rfl, Nat.le_of_ble_eq_true rfl⟩
  · intro Kst Kret x hS hR h
    exact Holds.eq (te26 cond Kst Kret ar nr mr tr vr gr ao no mo to al nl ml tl) (be26 ar nr mr tr vr gr ao no mo to al nl ml tl Kst Kret x hS hR h)
  · intro Kst Kret x hS hR s h
    cases s with
    | h0 x0 x1 x2 => exact Holds.eq (t26_0 cond Kst Kret ar nr mr tr vr gr ao no mo to al nl ml tl x0 x1 x2) (b26_0 ar nr mr tr vr gr ao no mo to al nl ml tl Kst Kret x hS hR x0 x1 x2 h)
    | h1 x0 x1 x2 x3 x4 => exact Holds.eq (t26_1 cond Kst Kret ar nr mr tr vr gr ao no mo to al nl ml tl x0 x1 x2 x3 x4) (b26_1 ar nr mr tr vr gr ao no mo to al nl ml tl Kst Kret x hS hR x0 x1 x2 x3 x4 h)
noncomputable def k26 : Con := ⟨52, [.agg [.list [.int .i64, .int .i64, .int .i64], .list [.bool]], .one (.list [.int .i64])], fun (x : ((Nat × Nat × Nat × (Nat → Int) × (Nat → Int) × (Nat → Int) × Unit) × (Nat × Nat × Nat × (Nat → Bool) × Unit) × Unit) × (Nat × Nat × Nat × (Nat → Int) × Unit) × Unit) => (fun (ar nr mr : Nat) (tr : Nat → Int) (vr : Nat → Int) (gr : Nat → Int) (ao no mo : Nat) (to : Nat → Bool) (al nl ml : Nat) (tl : Nat → Int) => decide (ar + nr ≤ mr ∧ nr ≤ 1000000 ∧ ao + no ≤ mo ∧ no ≤ 1000000 ∧ al + nl ≤ ml ∧ nl ≤ 1000000)) x.1.1.1 x.1.1.2.1 x.1.1.2.2.1 x.1.1.2.2.2.1 x.1.1.2.2.2.2.1 x.1.1.2.2.2.2.2.1 x.1.2.1.1 x.1.2.1.2.1 x.1.2.1.2.2.1 x.1.2.1.2.2.2.1 x.2.1.1 x.2.1.2.1 x.2.1.2.2.1 x.2.1.2.2.2.1, fun (x : ((Nat × Nat × Nat × (Nat → Int) × (Nat → Int) × (Nat → Int) × Unit) × (Nat × Nat × Nat × (Nat → Bool) × Unit) × Unit) × (Nat × Nat × Nat × (Nat → Int) × Unit) × Unit) => (fun (ar nr mr : Nat) (tr : Nat → Int) (vr : Nat → Int) (gr : Nat → Int) (ao no mo : Nat) (to : Nat → Bool) (al nl ml : Nat) (tl : Nat → Int) => (V26 ar nr mr tr vr gr ao no mo to al nl ml tl) (S.histS nr (fun j => tr (j + ar)) (fun j => vr (j + ar)) (fun j => gr (j + ar)) no (fun j => to (j + ao)) nl (fun j => tl (j + al)))) x.1.1.1 x.1.1.2.1 x.1.1.2.2.1 x.1.1.2.2.2.1 x.1.1.2.2.2.2.1 x.1.1.2.2.2.2.2.1 x.1.2.1.1 x.1.2.1.2.1 x.1.2.1.2.2.1 x.1.2.1.2.2.2.1 x.2.1.1 x.2.1.2.1 x.2.1.2.2.1 x.2.1.2.2.2.1, fun (x : ((Nat × Nat × Nat × (Nat → Int) × (Nat → Int) × (Nat → Int) × Unit) × (Nat × Nat × Nat × (Nat → Bool) × Unit) × Unit) × (Nat × Nat × Nat × (Nat → Int) × Unit) × Unit) => (fun (ar nr mr : Nat) (tr : Nat → Int) (vr : Nat → Int) (gr : Nat → Int) (ao no mo : Nat) (to : Nat → Bool) (al nl ml : Nat) (tl : Nat → Int) => (N26 ar nr mr tr vr gr ao no mo to al nl ml tl) (S.histS nr (fun j => tr (j + ar)) (fun j => vr (j + ar)) (fun j => gr (j + ar)) no (fun j => to (j + ao)) nl (fun j => tl (j + al)))) x.1.1.1 x.1.1.2.1 x.1.1.2.2.1 x.1.1.2.2.2.1 x.1.1.2.2.2.2.1 x.1.1.2.2.2.2.2.1 x.1.2.1.1 x.1.2.1.2.1 x.1.2.1.2.2.1 x.1.2.1.2.2.2.1 x.2.1.1 x.2.1.2.1 x.2.1.2.2.1 x.2.1.2.2.2.1, fun _ _ => .dead⟩
theorem s26b (ar nr mr : Nat) (tr : Nat → Int) (vr : Nat → Int) (gr : Nat → Int) (ao no mo : Nat) (to : Nat → Bool) (al nl ml : Nat) (tl : Nat → Int) (hp : ar + nr ≤ mr ∧ nr ≤ 1000000 ∧ ao + no ≤ mo ∧ no ≤ 1000000 ∧ al + nl ≤ ml ∧ nl ≤ 1000000) (hv : S.histE nr (fun j => tr (j + ar)) (fun j => vr (j + ar)) (fun j => gr (j + ar)) no nl (fun j => tl (j + al)) = 0) (i : Nat) (hi : i < nr) (lr : List (Int × Int × Int)) (lo : List Bool) (hlr : lr.length = i) (hlo : lo.length = i) {R : Rt26} (h1 : Comes (q26 ar nr mr tr vr gr ao no mo to al nl ml tl) (.h0 ((i : Int) + 1) (S.snoc lr (tr (i + ar), vr (i + ar), gr (i + ar))) (S.snoc lo (S.aftN (tr (i + ar)) (vr (i + ar)) (fun j => tl (j + al)) (to (i + ao)) nl))) R) : ∀ (k j : Nat) (f : Bool), j + k = nl → Holds (f = S.aftN (tr (i + ar)) (vr (i + ar)) (fun j => tl (j + al)) (to (i + ao)) j) → Comes (q26 ar nr mr tr vr gr ao no mo to al nl ml tl) (.h1 (i : Int) f (j : Int) lr lo) R := by
  obtain ⟨hp1, hp2, hp3, hp4, hp5, hp6⟩ := hp
  obtain ⟨hm, hl1, hl2⟩ := hist_ok hv
  obtain ⟨v1, v2, v3, v4⟩ := mag_ok hm
  intro k
  induction k with
  | zero =>
    intro j f hj ef
    have ef := ef.get
    obtain rfl : nl = j := by omega
    rw [← ef] at h1
    cases f
    all_goals (
      apply Comes.of
      show Goes _ _ _
      (first | rw [q26] | unfold q26)
      repeat' first
        | with_reducible refine goes_if (fun h => ?_) (fun h => ?_) <;> (try simp only [lim64, imp_false, decide_eq_true_eq, decide_eq_false_iff_not, Int.toNat_natCast, toNat_pred, toNat_succ, Option.getD_some, Option.getD_none, Bool.not_eq_true', Bool.not_eq_false', Bool.and_eq_true, Bool.or_eq_true, Bool.and_eq_false_iff, Bool.or_eq_false_iff, bne_iff_ne, beq_iff_eq, bne_eq_false_iff_eq, beq_eq_false_iff_ne, ne_eq, not_and, Int.not_le, Int.not_lt, ge_iff_le, gt_iff_lt, Nat.not_lt, Nat.not_le, Bool.not_eq_true, Bool.not_eq_false, Bool.true_eq_false, Bool.false_eq_true, not_false_eq_true, not_true_eq_false] at h)
        | exact goes_none.mpr (by omega)
      )
    all_goals first | (exfalso; omega) | (exfalso; simp_all; done) | exact h1
  | succ k ih =>
    intro j f hj ef
    have ef := ef.get
    cases f
    all_goals (
      apply Comes.of
      show Goes _ _ _
      (first | rw [q26] | unfold q26)
      repeat' first
        | with_reducible refine goes_if (fun h => ?_) (fun h => ?_) <;> (try simp only [lim64, imp_false, decide_eq_true_eq, decide_eq_false_iff_not, Int.toNat_natCast, toNat_pred, toNat_succ, Option.getD_some, Option.getD_none, Bool.not_eq_true', Bool.not_eq_false', Bool.and_eq_true, Bool.or_eq_true, Bool.and_eq_false_iff, Bool.or_eq_false_iff, bne_iff_ne, beq_iff_eq, bne_eq_false_iff_eq, beq_eq_false_iff_ne, ne_eq, not_and, Int.not_le, Int.not_lt, ge_iff_le, gt_iff_lt, Nat.not_lt, Nat.not_le, Bool.not_eq_true, Bool.not_eq_false, Bool.true_eq_false, Bool.false_eq_true, not_false_eq_true, not_true_eq_false] at h)
        | exact goes_none.mpr (by omega)
      )
    all_goals first | (exfalso; omega) | (exfalso; simp_all; done) | (refine ih (j + 1) _ (by omega) ⟨?_⟩; simp only [S.aftN, S.aft, Bool.cond_eq_ite, decide_eq_true_eq, Int.toNat_natCast, ← ef]; (repeat' split) <;> first | rfl | (exfalso; simp only [Int.toNat_natCast] at *; omega) | omega)
theorem s26' (ar nr mr : Nat) (tr : Nat → Int) (vr : Nat → Int) (gr : Nat → Int) (ao no mo : Nat) (to : Nat → Bool) (al nl ml : Nat) (tl : Nat → Int) (hp : ar + nr ≤ mr ∧ nr ≤ 1000000 ∧ ao + no ≤ mo ∧ no ≤ 1000000 ∧ al + nl ≤ ml ∧ nl ≤ 1000000) (hv : S.histE nr (fun j => tr (j + ar)) (fun j => vr (j + ar)) (fun j => gr (j + ar)) no nl (fun j => tl (j + al)) = 0) : ∀ k i : Nat, i + k = nr → Comes (q26 ar nr mr tr vr gr ao no mo to al nl ml tl) (.h0 (i : Int) (S.mkl i fun j => (tr (j + ar), vr (j + ar), gr (j + ar))) (S.mkl i fun j => S.aftN (tr (j + ar)) (vr (j + ar)) (fun j => tl (j + al)) (to (j + ao)) nl)) (0, S.mkl nr fun j => (tr (j + ar), vr (j + ar), gr (j + ar)), S.mkl nr fun j => S.aftN (tr (j + ar)) (vr (j + ar)) (fun j => tl (j + al)) (to (j + ao)) nl) := by
  have hp' := hp
  obtain ⟨hp1, hp2, hp3, hp4, hp5, hp6⟩ := hp
  obtain ⟨hm, hl1, hl2⟩ := hist_ok hv
  obtain ⟨v1, v2, v3, v4⟩ := mag_ok hm
  intro k
  induction k with
  | zero =>
    intro i hi
    apply Comes.of
    show Goes _ _ _
    (first | rw [q26] | unfold q26)
    repeat' first
      | with_reducible refine goes_if (fun h => ?_) (fun h => ?_) <;> (try simp only [lim64, imp_false, decide_eq_true_eq, decide_eq_false_iff_not, Int.toNat_natCast, toNat_pred, toNat_succ, Option.getD_some, Option.getD_none, Bool.not_eq_true', Bool.not_eq_false', Bool.and_eq_true, Bool.or_eq_true, Bool.and_eq_false_iff, Bool.or_eq_false_iff, bne_iff_ne, beq_iff_eq, bne_eq_false_iff_eq, beq_eq_false_iff_ne, ne_eq, not_and, Int.not_le, Int.not_lt, ge_iff_le, gt_iff_lt, Nat.not_lt, Nat.not_le, Bool.not_eq_true, Bool.not_eq_false, Bool.true_eq_false, Bool.false_eq_true, not_false_eq_true, not_true_eq_false] at h)
      | exact goes_none.mpr (by omega)
    all_goals first | (exfalso; omega) | (obtain rfl : nr = i := (by omega); rfl)
  | succ k ih =>
    intro i hi
    have ih := ih (i + 1) (by omega)
    rw [mkl_succ, mkl_succ] at ih
    have hb := fun f hf => s26b ar nr mr tr vr gr ao no mo to al nl ml tl hp' hv i (by omega) (S.mkl i fun j => (tr (j + ar), vr (j + ar), gr (j + ar))) (S.mkl i fun j => S.aftN (tr (j + ar)) (vr (j + ar)) (fun j => tl (j + al)) (to (j + ao)) nl) mkl_len mkl_len ih nl 0 f (by omega) ⟨hf⟩
    generalize (S.mkl i fun j => (tr (j + ar), vr (j + ar), gr (j + ar))) = lr at hb ⊢
    generalize (S.mkl i fun j => S.aftN (tr (j + ar)) (vr (j + ar)) (fun j => tl (j + al)) (to (j + ao)) nl) = lo at hb ⊢
    apply Comes.of
    show Goes _ _ _
    (first | rw [q26] | unfold q26)
    repeat' first
      | with_reducible refine goes_if (fun h => ?_) (fun h => ?_) <;> (try simp only [lim64, imp_false, decide_eq_true_eq, decide_eq_false_iff_not, Int.toNat_natCast, toNat_pred, toNat_succ, Option.getD_some, Option.getD_none, Bool.not_eq_true', Bool.not_eq_false', Bool.and_eq_true, Bool.or_eq_true, Bool.and_eq_false_iff, Bool.or_eq_false_iff, bne_iff_ne, beq_iff_eq, bne_eq_false_iff_eq, beq_eq_false_iff_ne, ne_eq, not_and, Int.not_le, Int.not_lt, ge_iff_le, gt_iff_lt, Nat.not_lt, Nat.not_le, Bool.not_eq_true, Bool.not_eq_false, Bool.true_eq_false, Bool.false_eq_true, not_false_eq_true, not_true_eq_false] at h)
      | exact goes_none.mpr (by omega)
    all_goals first | (exfalso; omega) | (refine hb _ ?_; simp only [S.aftN]; symm; assumption)
theorem s26 (ar nr mr : Nat) (tr : Nat → Int) (vr : Nat → Int) (gr : Nat → Int) (ao no mo : Nat) (to : Nat → Bool) (al nl ml : Nat) (tl : Nat → Int) (hp : ar + nr ≤ mr ∧ nr ≤ 1000000 ∧ ao + no ≤ mo ∧ no ≤ 1000000 ∧ al + nl ≤ ml ∧ nl ≤ 1000000) : Goes ((q26 ar nr mr tr vr gr ao no mo to al nl ml tl)) ((p26 ar nr mr tr vr gr ao no mo to al nl ml tl)) (S.histS nr (fun j => tr (j + ar)) (fun j => vr (j + ar)) (fun j => gr (j + ar)) no (fun j => to (j + ao)) nl (fun j => tl (j + al))) := by
  unfold S.histS
  by_cases hv : S.histE nr (fun j => tr (j + ar)) (fun j => vr (j + ar)) (fun j => gr (j + ar)) no nl (fun j => tl (j + al)) = 0
  · have hm := s26' ar nr mr tr vr gr ao no mo to al nl ml tl hp hv nr 0 (by omega)
    obtain ⟨v1, v2, v3, v4⟩ := mag_ok (hist_ok hv).1
    subst v3
    obtain ⟨hp1, hp2, hp3, hp4, hp5, hp6⟩ := hp
    rw [if_pos hv]
    show Goes _ _ _
    unfold p26
    repeat' first
      | with_reducible refine goes_if (fun h => ?_) (fun h => ?_) <;> (try simp only [lim64, imp_false, decide_eq_true_eq, decide_eq_false_iff_not, Int.toNat_natCast, toNat_pred, toNat_succ, Option.getD_some, Option.getD_none, Bool.not_eq_true', Bool.not_eq_false', Bool.and_eq_true, Bool.or_eq_true, Bool.and_eq_false_iff, Bool.or_eq_false_iff, bne_iff_ne, beq_iff_eq, bne_eq_false_iff_eq, beq_eq_false_iff_ne, ne_eq, not_and, Int.not_le, Int.not_lt, ge_iff_le, gt_iff_lt, Nat.not_lt, Nat.not_le, Bool.not_eq_true, Bool.not_eq_false, Bool.true_eq_false, Bool.false_eq_true, not_false_eq_true, not_true_eq_false] at h)
      | exact goes_none.mpr (by omega)
    all_goals first | (exfalso; omega) | (exfalso; exact absurd hv (by assumption)) | exact hm
  · obtain ⟨hp1, hp2, hp3, hp4, hp5, hp6⟩ := hp
    rw [if_neg hv]
    show Goes _ _ _
    unfold p26
    repeat' first
      | with_reducible refine goes_if (fun h => ?_) (fun h => ?_) <;> (try simp only [lim64, imp_false, decide_eq_true_eq, decide_eq_false_iff_not, Int.toNat_natCast, toNat_pred, toNat_succ, Option.getD_some, Option.getD_none, Bool.not_eq_true', Bool.not_eq_false', Bool.and_eq_true, Bool.or_eq_true, Bool.and_eq_false_iff, Bool.or_eq_false_iff, bne_iff_ne, beq_iff_eq, bne_eq_false_iff_eq, beq_eq_false_iff_ne, ne_eq, not_and, Int.not_le, Int.not_lt, ge_iff_le, gt_iff_lt, Nat.not_lt, Nat.not_le, Bool.not_eq_true, Bool.not_eq_false, Bool.true_eq_false, Bool.false_eq_true, not_false_eq_true, not_true_eq_false] at h)
      | exact goes_none.mpr (by omega)
    all_goals first | (exfalso; omega) | (exfalso; exact hv (by assumption)) | rfl
theorem k26_ok : k26.ok Try.prog := by
  intro x hx
  obtain ⟨⟨⟨ar, nr, mr, tr, vr, gr, _⟩, ⟨ao, no, mo, to, _⟩, _⟩, ⟨al, nl, ml, tl, _⟩, _⟩ := x
  obtain ⟨h1, h2⟩ := a26 ar nr mr tr vr gr ao no mo to al nl ml tl (s26 ar nr mr tr vr gr ao no mo to al nl ml tl (of_dec hx rfl))
  exact ⟨⟨400, (by decide : 3 + 1 + 2 ≤ 400), h1⟩, h2⟩
namespace S
def botE (m c : Int) : Int := if m = 0 then c else m
def suiS (e : Int) (x : Bool) : Bool × Int := if e = 0 then (x, 0) else (false, e)
def ahdB (n : Nat) (t : Nat → Int) (fl pt x : Int) : Bool := if t (n - 1) < fl then decide (pt ≤ x ∧ x ≤ max fl (maxN t (n - 1))) else decide (x ≤ pt ∧ min fl (minN t (n - 1)) ≤ x)
end S
theorem er_in {n no nl : Nat} {u d w : Nat → Int} {t : Nat → Int} (h : S.magE n u d w no = 0) (h1 : nl ≤ 1000) (h2 : ∀ j, j < nl → -1099511627776 ≤ t j ∧ t j ≤ 1099511627776) : S.erS n u d w no nl t = (S.erB u d nl t 0 n, 0) := by
  have hh : S.histE n u d w no nl t = 0 := by
    unfold S.histE
    rw [if_pos h, if_neg (by omega)]
    have : ∀ k i, i + k = nl → S.inE t i k = 0 := by
      intro k
      induction k with
      | zero => intro i _; rfl
      | succ k ih => intro i hi; simp only [S.inE]; rw [if_pos (h2 i (by omega))]; exact ih (i + 1) (by omega)
    exact this nl 0 (Nat.zero_add _)
  unfold S.erS
  rw [if_pos hh]
theorem stp_in {cn : ByteArray} {n : Nat} {t : Nat → Int} {rp fl : Int} (h : S.cyE cn n t rp fl = 0) : (S.stpL n t rp fl).length ≤ 181 ∧ 1 ≤ (S.stpL n t rp fl).length ∧ ∀ j, j < (S.stpL n t rp fl).length → -1099511627776 ≤ S.at' (S.stpL n t rp fl) j ∧ S.at' (S.stpL n t rp fl) j ≤ 1099511627776 := by
  obtain ⟨c1, c2, c3, c4, c5⟩ := cy_ok h
  have hb := mul_bd c1.2 c2.2
  refine ⟨by rw [stp_len]; omega, by rw [stp_len]; omega, fun j hj => ?_⟩
  rw [stp_len] at hj
  unfold S.stpL
  by_cases h1 : j < n * rp.toNat
  · rw [at_snoc_lt (by rw [mkl_len]; exact h1), at_mkl h1]
    exact (c5 (j % n) (Nat.mod_lt _ (by omega))).1
  · have e : j = (S.mkl (n * rp.toNat) fun j => t (j % n)).length := by rw [mkl_len]; omega
    rw [e, at_snoc_eq]; exact c3
theorem minmax {t : Nat → Int} {fl : Int} : ∀ {i : Nat}, min (min fl (S.minN t i)) (t (i + 1)) = min fl (S.minN t (i + 1)) ∧ max (max fl (S.maxN t i)) (t (i + 1)) = max fl (S.maxN t (i + 1)) := by
  intro i
  simp only [S.minN, S.maxN]
  omega
noncomputable def xT2 (test : Bool → Prop → Prop → Prop) : Ext := consX test [k116, k117, k135, k136, k149, k21, k22, k34, k35, k24, k26, k17, k18, k25]
theorem xT2_ok : ExtOk Try.prog (xT2 cond) := consX_ok ⟨k116_ok, k117_ok, k135_ok, k136_ok, k149_ok, k21_ok, k22_ok, k34_ok, k35_ok, k24_ok, k26_ok, k17_ok, k18_ok, k25_ok, trivial⟩
inductive St179 where
  | h0 (x0 : Int) (x1 : Int) (x2 : Int)
abbrev Rt179 := Bool
noncomputable def V179 (cn : ByteArray) (aq nq mq : Nat) (tq : Nat → Int) (rp : Int) (fl : Int) (pt : Int) (sx : Int) (r : Rt179) : PV := PV.bool r
noncomputable def N179 (cn : ByteArray) (aq nq mq : Nat) (tq : Nat → Int) (rp : Int) (fl : Int) (pt : Int) (sx : Int) (r : Rt179) : List Blk := []
noncomputable def I179 (cn : ByteArray) (aq nq mq : Nat) (tq : Nat → Int) (rp : Int) (fl : Int) (pt : Int) (sx : Int) : St179 → Hd
  | .h0 x0 x1 x2 => ⟨hd Try.f79 0, [PV.int IntKind.i64 pt, PV.int IntKind.i64 sx,
 PV.ptr (PA.mk (1) (0) (0) (0)), PV.int IntKind.i64 x0,
 PV.int IntKind.i64 x1, PV.int IntKind.i64 x2], [[(1, (true, Blk.cells
 [PV.str cn, PV.loose (PA.mk (0) (1) aq (0)) nq,
 PV.int IntKind.i64 rp, PV.int IntKind.i64 fl]))], [(0, (false, .cols mq [.int .i64 tq]))]], 2⟩
noncomputable def q179 (cn : ByteArray) (aq nq mq : Nat) (tq : Nat → Int) (rp : Int) (fl : Int) (pt : Int) (sx : Int) : St179 → Option (St179 ⊕ Rt179)
  | .h0 x0 x1 x2 => bif (decide (x2 < (↑nq : Int)))
 then (bif (decide ((0 : Int) ≤ x2 ∧ x2 < (↑nq : Int)))
 then (bif (decide (Int.toNat x2 + aq < mq))
 then (bif (lim IntKind.i64 (x2 + (1 : Int)))
 then (some (.inl (.h0 (Min.min x0 (tq (Int.toNat x2 + aq))) (Max.max x1 (tq (Int.toNat x2 + aq))) (x2 + (1 : Int)))))
 else (none))
 else (none))
 else (none))
 else (bif (lim IntKind.i64 ((↑nq : Int) - (1 : Int)))
 then (bif (decide ((0 : Int) ≤ (↑nq : Int) - (1 : Int) ∧ (↑nq : Int) - (1 : Int) < (↑nq : Int)))
 then (bif (decide (Int.toNat ((↑nq : Int) - (1 : Int)) + aq < mq))
 then (bif (decide (fl > tq (Int.toNat ((↑nq : Int) - (1 : Int)) + aq)))
 then (bif (decide (sx ≥ pt))
 then (bif (decide (sx ≤ x1))
 then (some (.inr (true)))
 else (some (.inr (false))))
 else (some (.inr (false))))
 else (bif (decide (sx ≤ pt))
 then (bif (decide (sx ≥ x0))
 then (some (.inr (true)))
 else (some (.inr (false))))
 else (some (.inr (false)))))
 else (none))
 else (none))
 else (none))
noncomputable def p179 (cn : ByteArray) (aq nq mq : Nat) (tq : Nat → Int) (rp : Int) (fl : Int) (pt : Int) (sx : Int) : Option (St179 ⊕ Rt179) := some (.inl (.h0 (fl) (fl) ((0 : Int))))
noncomputable def Te179 (test : Bool → Prop → Prop → Prop) (Kst : KS) (Kret : KR) (cn : ByteArray) (aq nq mq : Nat) (tq : Nat → Int) (rp : Int) (fl : Int) (pt : Int) (sx : Int) : Prop :=
  Kst (hd Try.f79 0) ([PV.int IntKind.i64 pt, PV.int IntKind.i64 sx,
 PV.ptr (PA.mk (1) (0) (0) (0)), PV.int IntKind.i64 fl,
 PV.int IntKind.i64 fl, PV.int IntKind.i64 (0 : Int)]) ([[(0, false, Blk.cols mq [Col.int IntKind.i64 tq]),
 (1, true,
 Blk.cells
 [PV.str cn, PV.loose (PA.mk (0) (1) aq (0)) nq,
 PV.int IntKind.i64 rp, PV.int IntKind.i64 fl])]]) (2)
theorem te179 (test : Bool → Prop → Prop → Prop) (Kst : KS) (Kret : KR) (cn : ByteArray) (aq nq mq : Nat) (tq : Nat → Int) (rp : Int) (fl : Int) (pt : Int) (sx : Int) : run test Try.env true noX true 400 ⟨79, [.cd (mkFn Try.f79).body], argT 0 [.agg [.str cn, .loose ⟨0, 1, aq, 0⟩ nq, .int .i64 rp, .int .i64 fl], .int .i64 pt, .int .i64 sx], [[], [(0, (false, .cols mq [.int .i64 tq]))]], 1⟩ (proj 1 [1, 2, 3, 7, 8, 9] Kst Kret) =
  Te179 test Kst Kret cn aq nq mq tq rp fl pt sx := by kernel_rfl
noncomputable def T179_0 (test : Bool → Prop → Prop → Prop) (Kst : KS) (Kret : KR) (cn : ByteArray) (aq nq mq : Nat) (tq : Nat → Int) (rp : Int) (fl : Int) (pt : Int) (sx : Int) (x0 : Int) (x1 : Int) (x2 : Int) : Prop :=
  test (decide (x2 < (↑nq : Int)))
 (test (decide ((0 : Int) ≤ x2 ∧ x2 < (↑nq : Int)))
 (test (decide (Int.toNat x2 + aq < mq))
 (test (decide ((0 : Int) ≤ x2 ∧ x2 < (↑nq : Int)))
 (test (decide (Int.toNat x2 + aq < mq))
 (test (lim IntKind.i64 (x2 + (1 : Int)))
 (Kst (hd Try.f79 0) ([PV.int IntKind.i64 pt, PV.int IntKind.i64 sx,
 PV.ptr (PA.mk (1) (0) (0) (0)),
 PV.int IntKind.i64 (Min.min x0 (tq (Int.toNat x2 + aq))),
 PV.int IntKind.i64 (Max.max x1 (tq (Int.toNat x2 + aq))), PV.int IntKind.i64 (x2 + (1 : Int))]) ([[(0, false, Blk.cols mq [Col.int IntKind.i64 tq]),
 (1, true,
 Blk.cells
 [PV.str cn, PV.loose (PA.mk (0) (1) aq (0)) nq,
 PV.int IntKind.i64 rp, PV.int IntKind.i64 fl])]]) (2))
 (False))
 (False))
 (False))
 (False))
 (False))
 (test (lim IntKind.i64 ((↑nq : Int) - (1 : Int)))
 (test (decide ((0 : Int) ≤ (↑nq : Int) - (1 : Int) ∧ (↑nq : Int) - (1 : Int) < (↑nq : Int)))
 (test (decide (Int.toNat ((↑nq : Int) - (1 : Int)) + aq < mq))
 (test (decide (fl > tq (Int.toNat ((↑nq : Int) - (1 : Int)) + aq)))
 (test (decide (sx ≥ pt))
 (test (decide (sx ≤ x1))
 (Kret (PV.tf true) ([[(0, false, Blk.cols mq [Col.int IntKind.i64 tq])]]) (2))
 (Kret (PV.tf false) ([[(0, false, Blk.cols mq [Col.int IntKind.i64 tq])]]) (2)))
 (Kret (PV.tf false) ([[(0, false, Blk.cols mq [Col.int IntKind.i64 tq])]]) (2)))
 (test (decide (sx ≤ pt))
 (test (decide (sx ≥ x0))
 (Kret (PV.tf true) ([[(0, false, Blk.cols mq [Col.int IntKind.i64 tq])]]) (2))
 (Kret (PV.tf false) ([[(0, false, Blk.cols mq [Col.int IntKind.i64 tq])]]) (2)))
 (Kret (PV.tf false) ([[(0, false, Blk.cols mq [Col.int IntKind.i64 tq])]]) (2))))
 (False))
 (False))
 (False))
theorem t179_0 (test : Bool → Prop → Prop → Prop) (Kst : KS) (Kret : KR) (cn : ByteArray) (aq nq mq : Nat) (tq : Nat → Int) (rp : Int) (fl : Int) (pt : Int) (sx : Int) (x0 : Int) (x1 : Int) (x2 : Int) : run test Try.env true noX true 400 ⟨79, hd Try.f79 0, zipT [1, 2, 3, 7, 8, 9] [PV.int IntKind.i64 pt, PV.int IntKind.i64 sx,
 PV.ptr (PA.mk (1) (0) (0) (0)), PV.int IntKind.i64 x0,
 PV.int IntKind.i64 x1, PV.int IntKind.i64 x2], [[(1, (true, Blk.cells
 [PV.str cn, PV.loose (PA.mk (0) (1) aq (0)) nq,
 PV.int IntKind.i64 rp, PV.int IntKind.i64 fl]))], [(0, (false, .cols mq [.int .i64 tq]))]], 2⟩ (proj 1 [1, 2, 3, 7, 8, 9] Kst Kret) =
  T179_0 test Kst Kret cn aq nq mq tq rp fl pt sx x0 x1 x2 := by kernel_rfl
theorem be179 (cn : ByteArray) (aq nq mq : Nat) (tq : Nat → Int) (rp : Int) (fl : Int) (pt : Int) (sx : Int) (Kst : KS) (Kret : KR) (x : St179 ⊕ Rt179) (hS : HS 1 400 ((I179 cn aq nq mq tq rp fl pt sx)) Kst x) (hR : HR 1 400 ((V179 cn aq nq mq tq rp fl pt sx)) (fun r => [newL (1 + 1) ((N179 cn aq nq mq tq rp fl pt sx) r) ++ [(0, (false, .cols mq [.int .i64 tq]))]]) Kret x) (h : (some (.inl (.h0 (fl) (fl) ((0 : Int)))) : Option (St179 ⊕ Rt179)) = some x) : Te179 cond Kst Kret cn aq nq mq tq rp fl pt sx := by
  unfold Te179
  exact stop_at hS _ h (fun n => bif Nat.beq n 1 then 1 else n) rfl rfl rfl ⟨(rn_int rfl), ⟨(rn_int rfl), ⟨(rn_ptr (use_own rfl) rfl rfl), ⟨(rn_int rfl), ⟨(rn_int rfl), ⟨(rn_int rfl), trivial⟩⟩⟩⟩⟩⟩ rfl (entl_b (use_own rfl) rfl (by simp) (rb_cells ⟨(rn_str rfl), (rn_loose (use_lo rfl) rfl rfl rfl), (rn_int rfl), (rn_int rfl), trivial⟩) (entl_bor (use_lo rfl) rfl rfl entl_nil))
theorem b179_0 (cn : ByteArray) (aq nq mq : Nat) (tq : Nat → Int) (rp : Int) (fl : Int) (pt : Int) (sx : Int) (Kst : KS) (Kret : KR) (x : St179 ⊕ Rt179) (hS : HS 1 400 ((I179 cn aq nq mq tq rp fl pt sx)) Kst x) (hR : HR 1 400 ((V179 cn aq nq mq tq rp fl pt sx)) (fun r => [newL (1 + 1) ((N179 cn aq nq mq tq rp fl pt sx) r) ++ [(0, (false, .cols mq [.int .i64 tq]))]]) Kret x) (x0 : Int) (x1 : Int) (x2 : Int) (h : (bif (decide (x2 < (↑nq : Int)))
 then (bif (decide ((0 : Int) ≤ x2 ∧ x2 < (↑nq : Int)))
 then (bif (decide (Int.toNat x2 + aq < mq))
 then (bif (lim IntKind.i64 (x2 + (1 : Int)))
 then (some (.inl (.h0 (Min.min x0 (tq (Int.toNat x2 + aq))) (Max.max x1 (tq (Int.toNat x2 + aq))) (x2 + (1 : Int)))))
 else (none))
 else (none))
 else (none))
 else (bif (lim IntKind.i64 ((↑nq : Int) - (1 : Int)))
 then (bif (decide ((0 : Int) ≤ (↑nq : Int) - (1 : Int) ∧ (↑nq : Int) - (1 : Int) < (↑nq : Int)))
 then (bif (decide (Int.toNat ((↑nq : Int) - (1 : Int)) + aq < mq))
 then (bif (decide (fl > tq (Int.toNat ((↑nq : Int) - (1 : Int)) + aq)))
 then (bif (decide (sx ≥ pt))
 then (bif (decide (sx ≤ x1))
 then (some (.inr (true)))
 else (some (.inr (false))))
 else (some (.inr (false))))
 else (bif (decide (sx ≤ pt))
 then (bif (decide (sx ≥ x0))
 then (some (.inr (true)))
 else (some (.inr (false))))
 else (some (.inr (false)))))
 else (none))
 else (none))
 else (none)) : Option (St179 ⊕ Rt179)) = some x) : T179_0 cond Kst Kret cn aq nq mq tq rp fl pt sx x0 x1 x2 := by
  unfold T179_0
  exact bif_split h
   (fun c0 h => bif_split h
   (fun c1 h => bif_split h
   (fun c2 h => cond_yes c1 (cond_yes c2 (bif_split h
   (fun c3 h => stop_at hS _ h (fun n => bif Nat.beq n 1 then 1 else n) rfl rfl rfl ⟨(rn_int rfl), ⟨(rn_int rfl), ⟨(rn_ptr (use_own rfl) rfl rfl), ⟨(rn_int rfl), ⟨(rn_int rfl), ⟨(rn_int rfl), trivial⟩⟩⟩⟩⟩⟩ rfl (entl_b (use_own rfl) rfl (by simp) (rb_cells ⟨(rn_str rfl), (rn_loose (use_lo rfl) rfl rfl rfl), (rn_int rfl), (rn_int rfl), trivial⟩) (entl_bor (use_lo rfl) rfl rfl entl_nil)))
   (fun c3 h => no_some h))))
   (fun c2 h => no_some h))
   (fun c1 h => no_some h))
   (fun c0 h => bif_split h
   (fun c1 h => bif_split h
   (fun c2 h => bif_split h
   (fun c3 h => bif_split h
   (fun c4 h => bif_split h
   (fun c5 h => bif_split h
   (fun c6 h => ret_at hR _ h (fun n => n) rfl rfl rfl (rn_bool_tf rfl) rfl (entl_bor (use_lo rfl) rfl rfl entl_nil))
   (fun c6 h => ret_at hR _ h (fun n => n) rfl rfl rfl (rn_bool_tf rfl) rfl (entl_bor (use_lo rfl) rfl rfl entl_nil)))
   (fun c5 h => ret_at hR _ h (fun n => n) rfl rfl rfl (rn_bool_tf rfl) rfl (entl_bor (use_lo rfl) rfl rfl entl_nil)))
   (fun c4 h => bif_split h
   (fun c5 h => bif_split h
   (fun c6 h => ret_at hR _ h (fun n => n) rfl rfl rfl (rn_bool_tf rfl) rfl (entl_bor (use_lo rfl) rfl rfl entl_nil))
   (fun c6 h => ret_at hR _ h (fun n => n) rfl rfl rfl (rn_bool_tf rfl) rfl (entl_bor (use_lo rfl) rfl rfl entl_nil)))
   (fun c5 h => ret_at hR _ h (fun n => n) rfl rfl rfl (rn_bool_tf rfl) rfl (entl_bor (use_lo rfl) rfl rfl entl_nil))))
   (fun c3 h => no_some h))
   (fun c2 h => no_some h))
   (fun c1 h => no_some h))
theorem a179 (cn : ByteArray) (aq nq mq : Nat) (tq : Nat → Int) (rp : Int) (fl : Int) (pt : Int) (sx : Int) {r : Rt179} (h : Goes ((q179 cn aq nq mq tq rp fl pt sx)) ((p179 cn aq nq mq tq rp fl pt sx)) r) : CallR Try.prog 79 [.agg [.str cn, .loose ⟨0, 1, aq, 0⟩ nq, .int .i64 rp, .int .i64 fl], .int .i64 pt, .int .i64 sx] [[(0, (false, .cols mq [.int .i64 tq]))]] 1 ((V179 cn aq nq mq tq rp fl pt sx) r) ((fun r => [newL (1 + 1) ((N179 cn aq nq mq tq rp fl pt sx) r) ++ [(0, (false, .cols mq [.int .i64 tq]))]]) r) 400 ∧ ∃ F, Try.prog.funcs[79]? = some F ∧ F.body.isSome = true ∧ (F.name == "runtime.NumGoroutine") = false := by
  refine dec_calls (f := 79) (lo := 1) (hi := 400) (H := [[(0, (false, .cols mq [.int .i64 tq]))]]) (args := [.agg [.str cn, .loose ⟨0, 1, aq, 0⟩ nq, .int .i64 rp, .int .i64 fl], .int .i64 pt, .int .i64 sx]) Try.envOk Try.mixed noX_ok ((I179 cn aq nq mq tq rp fl pt sx)) ((V179 cn aq nq mq tq rp fl pt sx)) (fun r => [newL (1 + 1) ((N179 cn aq nq mq tq rp fl pt sx) r) ++ [(0, (false, .cols mq [.int .i64 tq]))]]) (fn := mkFn Try.f79) (ts := [1, 2, 3, 7, 8, 9]) (n := 400) rfl (by decide) (by simp) (names_of rfl) ?_ ?_ ?_ h
  · intro s; cases s <;> exact ⟨hd_ok _ _, by simp [I179], names_of rfl, Nat.le_of_ble_eq_true rfl⟩
  · intro Kst Kret x hS hR h
    exact Holds.eq (te179 cond Kst Kret cn aq nq mq tq rp fl pt sx) (be179 cn aq nq mq tq rp fl pt sx Kst Kret x hS hR h)
  · intro Kst Kret x hS hR s h
    cases s with
    | h0 x0 x1 x2 => exact Holds.eq (t179_0 cond Kst Kret cn aq nq mq tq rp fl pt sx x0 x1 x2) (b179_0 cn aq nq mq tq rp fl pt sx Kst Kret x hS hR x0 x1 x2 h)
noncomputable def k179 : Con := ⟨79, [.agg [.plain (.str), .list [.int .i64], .plain (.int .i64), .plain (.int .i64)], .one (.plain (.int .i64)), .one (.plain (.int .i64))], fun (x : (ByteArray × (Nat × Nat × Nat × (Nat → Int) × Unit) × Int × Int × Unit) × Int × Int × Unit) => (fun (cn : ByteArray) (aq nq mq : Nat) (tq : Nat → Int) (rp : Int) (fl : Int) (pt : Int) (sx : Int) => decide (aq + nq ≤ mq ∧ 2 ≤ nq ∧ nq ≤ 20)) x.1.1 x.1.2.1.1 x.1.2.1.2.1 x.1.2.1.2.2.1 x.1.2.1.2.2.2.1 x.1.2.2.1 x.1.2.2.2.1 x.2.1 x.2.2.1, fun (x : (ByteArray × (Nat × Nat × Nat × (Nat → Int) × Unit) × Int × Int × Unit) × Int × Int × Unit) => (fun (cn : ByteArray) (aq nq mq : Nat) (tq : Nat → Int) (rp : Int) (fl : Int) (pt : Int) (sx : Int) => (V179 cn aq nq mq tq rp fl pt sx) (S.ahdB nq (fun j => tq (j + aq)) fl pt sx)) x.1.1 x.1.2.1.1 x.1.2.1.2.1 x.1.2.1.2.2.1 x.1.2.1.2.2.2.1 x.1.2.2.1 x.1.2.2.2.1 x.2.1 x.2.2.1, fun (x : (ByteArray × (Nat × Nat × Nat × (Nat → Int) × Unit) × Int × Int × Unit) × Int × Int × Unit) => (fun (cn : ByteArray) (aq nq mq : Nat) (tq : Nat → Int) (rp : Int) (fl : Int) (pt : Int) (sx : Int) => (N179 cn aq nq mq tq rp fl pt sx) (S.ahdB nq (fun j => tq (j + aq)) fl pt sx)) x.1.1 x.1.2.1.1 x.1.2.1.2.1 x.1.2.1.2.2.1 x.1.2.1.2.2.2.1 x.1.2.2.1 x.1.2.2.2.1 x.2.1 x.2.2.1, fun _ _ => .dead⟩
theorem s179' (cn : ByteArray) (aq nq mq : Nat) (tq : Nat → Int) (rp : Int) (fl : Int) (pt : Int) (sx : Int) (hp : aq + nq ≤ mq ∧ 2 ≤ nq ∧ nq ≤ 20) : ∀ (k i : Nat), i + 1 + k = nq → Comes (q179 cn aq nq mq tq rp fl pt sx) (.h0 (min fl (S.minN (fun j => tq (j + aq)) i)) (max fl (S.maxN (fun j => tq (j + aq)) i)) (((i + 1 : Nat)) : Int)) (S.ahdB nq (fun j => tq (j + aq)) fl pt sx) := by
  obtain ⟨hp1, hp2, hp3⟩ := hp
  have e1 : ((nq : Int) - 1).toNat = nq - 1 := by omega
  intro k
  induction k with
  | zero =>
    intro i hi
    unfold S.ahdB
    rw [show nq - 1 = i by omega]
    generalize S.minN (fun j => tq (j + aq)) i = mi
    generalize S.maxN (fun j => tq (j + aq)) i = ma
    apply Comes.of
    show Goes _ _ _
    (first | rw [q179] | unfold q179)
    try simp only [e1, show nq - 1 = i by omega]
    try show Goes _ _ _
    repeat' first
      | with_reducible refine goes_if (fun h => ?_) (fun h => ?_) <;> (try simp only [lim64, imp_false, decide_eq_true_eq, decide_eq_false_iff_not, Int.toNat_natCast, toNat_pred, toNat_succ, Option.getD_some, Option.getD_none, Bool.not_eq_true', Bool.not_eq_false', Bool.and_eq_true, Bool.or_eq_true, Bool.and_eq_false_iff, Bool.or_eq_false_iff, bne_iff_ne, beq_iff_eq, bne_eq_false_iff_eq, beq_eq_false_iff_ne, ne_eq, not_and, Int.not_le, Int.not_lt, ge_iff_le, gt_iff_lt, Nat.not_lt, Nat.not_le, Bool.not_eq_true, Bool.not_eq_false, Bool.true_eq_false, Bool.false_eq_true, not_false_eq_true, not_true_eq_false] at h)
      | exact goes_none.mpr (by omega)
    all_goals first | (exfalso; omega) | (refine goes_inr.mpr ?_; first | (rw [if_pos (by omega)]; first | exact (decide_eq_true (by omega)).symm | exact (decide_eq_false (by omega)).symm) | (rw [if_neg (by omega)]; first | exact (decide_eq_true (by omega)).symm | exact (decide_eq_false (by omega)).symm))
  | succ k ih =>
    intro i hi
    have ih := ih (i + 1) (by omega)
    rw [← (minmax (t := (fun j => tq (j + aq))) (fl := fl)).1, ← (minmax (t := (fun j => tq (j + aq))) (fl := fl)).2] at ih
    apply Comes.of
    show Goes _ _ _
    (first | rw [q179] | unfold q179)
    try simp only [Int.toNat_natCast]
    try show Goes _ _ _
    repeat' first
      | with_reducible refine goes_if (fun h => ?_) (fun h => ?_) <;> (try simp only [lim64, imp_false, decide_eq_true_eq, decide_eq_false_iff_not, Int.toNat_natCast, toNat_pred, toNat_succ, Option.getD_some, Option.getD_none, Bool.not_eq_true', Bool.not_eq_false', Bool.and_eq_true, Bool.or_eq_true, Bool.and_eq_false_iff, Bool.or_eq_false_iff, bne_iff_ne, beq_iff_eq, bne_eq_false_iff_eq, beq_eq_false_iff_ne, ne_eq, not_and, Int.not_le, Int.not_lt, ge_iff_le, gt_iff_lt, Nat.not_lt, Nat.not_le, Bool.not_eq_true, Bool.not_eq_false, Bool.true_eq_false, Bool.false_eq_true, not_false_eq_true, not_true_eq_false] at h)
      | exact goes_none.mpr (by omega)
    all_goals first | (exfalso; omega) | exact ih
theorem s179 (cn : ByteArray) (aq nq mq : Nat) (tq : Nat → Int) (rp : Int) (fl : Int) (pt : Int) (sx : Int) (hp : aq + nq ≤ mq ∧ 2 ≤ nq ∧ nq ≤ 20) : Goes ((q179 cn aq nq mq tq rp fl pt sx)) ((p179 cn aq nq mq tq rp fl pt sx)) (S.ahdB nq (fun j => tq (j + aq)) fl pt sx) := by
  have hm := s179' cn aq nq mq tq rp fl pt sx hp (nq - 1) 0 (by omega)
  obtain ⟨hp1, hp2, hp3⟩ := hp
  show Comes _ _ _
  apply Comes.of
  show Goes _ _ _
  (first | rw [q179] | unfold q179)
  repeat' first
    | with_reducible refine goes_if (fun h => ?_) (fun h => ?_) <;> (try simp only [lim64, imp_false, decide_eq_true_eq, decide_eq_false_iff_not, Int.toNat_natCast, toNat_pred, toNat_succ, Option.getD_some, Option.getD_none, Bool.not_eq_true', Bool.not_eq_false', Bool.and_eq_true, Bool.or_eq_true, Bool.and_eq_false_iff, Bool.or_eq_false_iff, bne_iff_ne, beq_iff_eq, bne_eq_false_iff_eq, beq_eq_false_iff_ne, ne_eq, not_and, Int.not_le, Int.not_lt, ge_iff_le, gt_iff_lt, Nat.not_lt, Nat.not_le, Bool.not_eq_true, Bool.not_eq_false, Bool.true_eq_false, Bool.false_eq_true, not_false_eq_true, not_true_eq_false] at h)
    | exact goes_none.mpr (by omega)
  all_goals first | (exfalso; omega) | exact hm
theorem k179_ok : k179.ok Try.prog := by
  intro x hx
  obtain ⟨⟨cn, ⟨aq, nq, mq, tq, _⟩, rp, fl, _⟩, pt, sx, _⟩ := x
  obtain ⟨h1, h2⟩ := a179 cn aq nq mq tq rp fl pt sx (s179 cn aq nq mq tq rp fl pt sx (of_dec hx rfl))
  exact ⟨⟨400, (by decide : 1 + 1 + 0 ≤ 400), h1⟩, h2⟩
noncomputable def xH (test : Bool → Prop → Prop → Prop) : Ext := consX test [k117, k136, k179]
theorem xH_ok : ExtOk Try.prog (xH cond) := consX_ok ⟨k117_ok, k136_ok, k179_ok, trivial⟩
namespace S
abbrev St4 := Int × Bool × Bool × Int
def prS (l : Nat → Int) (pr x : Int) : Int := if x = l pr.toNat then pr + 1 else if x = l 0 then 1 else 0
def setS (n : Nat) (t : Nat → Int) (fl : Int) (nl : Nat) (l : Nat → Int) (a : St4) (x : Int) : St4 :=
  let p := prS l a.1 x
  let ah := a.2.1 && ahdB n t fl a.2.2.2 x
  let dr := a.2.2.1 || (a.2.1 && !ahdB n t fl a.2.2.2 x)
  if p = (nl : Int) then (0, true, dr, fl) else (p, ah, dr, if ah = true then x else a.2.2.2)
def behK (n : Nat) (t : Nat → Int) (fl : Int) (nl : Nat) (l : Nat → Int) (x : Nat → Int) : Nat → St4
  | 0 => (0, false, false, 0)
  | i + 1 => setS n t fl nl l (behK n t fl nl l x i) (x i)
def behS (e : Int) (n : Nat) (t : Nat → Int) (rp fl : Int) (ns : Nat) (x : Nat → Int) : Int × Bool × Bool × Int × Int :=
  if e = 0 then (if setE ns x = 0 then (let a := behK n t fl (stpL n t rp fl).length (fun j => at' (stpL n t rp fl) j) x ns; (a.1, a.2.1, a.2.2.1, a.2.2.2, 0)) else (0, false, false, 0, setE ns x)) else (0, false, false, 0, e)
end S
theorem set_b {n nl : Nat} {t l : Nat → Int} {fl x : Int} {a : S.St4} (h0 : 2 ≤ nl) (h : 0 ≤ a.1 ∧ a.1 < (nl : Int)) : 0 ≤ (S.setS n t fl nl l a x).1 ∧ (S.setS n t fl nl l a x).1 < (nl : Int) := by
  have hp : 0 ≤ S.prS l a.1 x ∧ S.prS l a.1 x ≤ (nl : Int) := by unfold S.prS; (repeat' split) <;> omega
  unfold S.setS
  generalize S.prS l a.1 x = p at *
  by_cases h1 : p = (nl : Int)
  · simp only [h1, if_true]; omega
  · simp only [h1, if_false]; omega
theorem beh_b {n nl : Nat} {t l : Nat → Int} {fl : Int} {x : Nat → Int} (h0 : 2 ≤ nl) : ∀ i, 0 ≤ (S.behK n t fl nl l x i).1 ∧ (S.behK n t fl nl l x i).1 < (nl : Int)
  | 0 => ⟨Int.le_refl _, by show (0 : Int) < _; omega⟩
  | i + 1 => set_b h0 (beh_b h0 i)
theorem set_0 {n : Nat} {t : Nat → Int} : S.setE n t = 0 ↔ n ≤ 500 ∧ ∀ j, j < n → -1099511627776 ≤ t j ∧ t j ≤ 1099511627776 := by
  unfold S.setE
  constructor
  · intro h
    split at h
    · cases h
    · split at h
      · rename_i h2
        exact ⟨by omega, fun j hj => of_decide_eq_true (all_iff.mp h2 j hj)⟩
      · cases h
  · rintro ⟨h1, h2⟩
    rw [if_neg (by omega), if_pos (all_iff.mpr fun j hj => decide_eq_true (h2 j hj))]
abbrev St167 := Empty
abbrev Rt167 := Int × Bool × Bool × Int
noncomputable def V167 (cn : ByteArray) (aq nq mq : Nat) (tq : Nat → Int) (rp : Int) (fl : Int) (al nl ml : Nat) (tl : Nat → Int) (pr : Int) (on : Bool) (dr : Bool) (pt : Int) (sx : Int) (r : Rt167) : PV := PV.agg [PV.int IntKind.i64 r.1, PV.bool r.2.1, PV.bool r.2.2.1, PV.int IntKind.i64 r.2.2.2]
noncomputable def N167 (cn : ByteArray) (aq nq mq : Nat) (tq : Nat → Int) (rp : Int) (fl : Int) (al nl ml : Nat) (tl : Nat → Int) (pr : Int) (on : Bool) (dr : Bool) (pt : Int) (sx : Int) (r : Rt167) : List Blk := []
noncomputable def I167 (cn : ByteArray) (aq nq mq : Nat) (tq : Nat → Int) (rp : Int) (fl : Int) (al nl ml : Nat) (tl : Nat → Int) (pr : Int) (on : Bool) (dr : Bool) (pt : Int) (sx : Int) : St167 → Hd := fun s => s.elim
noncomputable def q167 (cn : ByteArray) (aq nq mq : Nat) (tq : Nat → Int) (rp : Int) (fl : Int) (al nl ml : Nat) (tl : Nat → Int) (pr : Int) (on : Bool) (dr : Bool) (pt : Int) (sx : Int) : St167 → Option (St167 ⊕ Rt167) := fun s => s.elim
noncomputable def p167 (cn : ByteArray) (aq nq mq : Nat) (tq : Nat → Int) (rp : Int) (fl : Int) (al nl ml : Nat) (tl : Nat → Int) (pr : Int) (on : Bool) (dr : Bool) (pt : Int) (sx : Int) : Option (St167 ⊕ Rt167) := bif (on)
 then (bif (decide (aq + nq ≤ mq ∧ 2 ≤ nq ∧ nq ≤ 20))
 then (bif (S.ahdB nq (fun j => tq (j + aq)) fl pt sx)
 then (bif (decide ((0 : Int) ≤ pr ∧ pr < (↑nl : Int)))
 then (bif (decide (Int.toNat pr + al < ml))
 then (bif (sx == tl (Int.toNat pr + al))
 then (bif (lim IntKind.i64 (pr + (1 : Int)))
 then (bif (pr + (1 : Int) == (↑nl : Int))
 then (some (.inr ((0 : Int), true, dr, fl)))
 else (some (.inr (pr + (1 : Int), on, dr, sx))))
 else (none))
 else (bif (decide ((0 : Int) ≤ (0 : Int) ∧ (0 : Int) < (↑nl : Int)))
 then (bif (decide (0 + al < ml))
 then (bif (sx == tl (0 + al))
 then (bif ((1 : Int) == (↑nl : Int))
 then (some (.inr ((0 : Int), true, dr, fl)))
 else (some (.inr ((1 : Int), on, dr, sx))))
 else (bif ((0 : Int) == (↑nl : Int))
 then (some (.inr ((0 : Int), true, dr, fl)))
 else (some (.inr ((0 : Int), on, dr, sx)))))
 else (none))
 else (none)))
 else (none))
 else (none))
 else (bif (decide ((0 : Int) ≤ pr ∧ pr < (↑nl : Int)))
 then (bif (decide (Int.toNat pr + al < ml))
 then (bif (sx == tl (Int.toNat pr + al))
 then (bif (lim IntKind.i64 (pr + (1 : Int)))
 then (bif (pr + (1 : Int) == (↑nl : Int))
 then (some (.inr ((0 : Int), true, true, fl)))
 else (some (.inr (pr + (1 : Int), false, true, pt))))
 else (none))
 else (bif (decide ((0 : Int) ≤ (0 : Int) ∧ (0 : Int) < (↑nl : Int)))
 then (bif (decide (0 + al < ml))
 then (bif (sx == tl (0 + al))
 then (bif ((1 : Int) == (↑nl : Int))
 then (some (.inr ((0 : Int), true, true, fl)))
 else (some (.inr ((1 : Int), false, true, pt))))
 else (bif ((0 : Int) == (↑nl : Int))
 then (some (.inr ((0 : Int), true, true, fl)))
 else (some (.inr ((0 : Int), false, true, pt)))))
 else (none))
 else (none)))
 else (none))
 else (none)))
 else (none))
 else (bif (decide ((0 : Int) ≤ pr ∧ pr < (↑nl : Int)))
 then (bif (decide (Int.toNat pr + al < ml))
 then (bif (sx == tl (Int.toNat pr + al))
 then (bif (lim IntKind.i64 (pr + (1 : Int)))
 then (bif (pr + (1 : Int) == (↑nl : Int))
 then (some (.inr ((0 : Int), true, dr, fl)))
 else (some (.inr (pr + (1 : Int), on, dr, pt))))
 else (none))
 else (bif (decide ((0 : Int) ≤ (0 : Int) ∧ (0 : Int) < (↑nl : Int)))
 then (bif (decide (0 + al < ml))
 then (bif (sx == tl (0 + al))
 then (bif ((1 : Int) == (↑nl : Int))
 then (some (.inr ((0 : Int), true, dr, fl)))
 else (some (.inr ((1 : Int), on, dr, pt))))
 else (bif ((0 : Int) == (↑nl : Int))
 then (some (.inr ((0 : Int), true, dr, fl)))
 else (some (.inr ((0 : Int), on, dr, pt)))))
 else (none))
 else (none)))
 else (none))
 else (none))
noncomputable def Te167 (test : Bool → Prop → Prop → Prop) (Kst : KS) (Kret : KR) (cn : ByteArray) (aq nq mq : Nat) (tq : Nat → Int) (rp : Int) (fl : Int) (al nl ml : Nat) (tl : Nat → Int) (pr : Int) (on : Bool) (dr : Bool) (pt : Int) (sx : Int) : Prop :=
  test (on)
 (test (decide (aq + nq ≤ mq ∧ 2 ≤ nq ∧ nq ≤ 20))
 (test (S.ahdB nq (fun j => tq (j + aq)) fl pt sx)
 (test (decide ((0 : Int) ≤ pr ∧ pr < (↑nl : Int)))
 (test (decide (Int.toNat pr + al < ml))
 (test (sx == tl (Int.toNat pr + al))
 (test (lim IntKind.i64 (pr + (1 : Int)))
 (test (pr + (1 : Int) == (↑nl : Int))
 (Kret (PV.agg
 [PV.int IntKind.i64 (0 : Int), PV.tf true, PV.bool dr, PV.int IntKind.i64 fl]) ([[(1, false, Blk.cols ml [Col.int IntKind.i64 tl]),
 (0, false, Blk.cols mq [Col.int IntKind.i64 tq])]]) (6))
 (Kret (PV.agg
 [PV.int IntKind.i64 (pr + (1 : Int)), PV.bool on, PV.bool dr, PV.int IntKind.i64 sx]) ([[(1, false, Blk.cols ml [Col.int IntKind.i64 tl]),
 (0, false, Blk.cols mq [Col.int IntKind.i64 tq])]]) (6)))
 (False))
 (test (decide ((0 : Int) ≤ (0 : Int) ∧ (0 : Int) < (↑nl : Int)))
 (test (decide (0 + al < ml))
 (test (sx == tl (0 + al))
 (test ((1 : Int) == (↑nl : Int))
 (Kret (PV.agg
 [PV.int IntKind.i64 (0 : Int), PV.tf true, PV.bool dr, PV.int IntKind.i64 fl]) ([[(1, false, Blk.cols ml [Col.int IntKind.i64 tl]),
 (0, false, Blk.cols mq [Col.int IntKind.i64 tq])]]) (6))
 (Kret (PV.agg [PV.int IntKind.i64 (1 : Int), PV.bool on, PV.bool dr, PV.int IntKind.i64 sx]) ([[(1, false, Blk.cols ml [Col.int IntKind.i64 tl]),
 (0, false, Blk.cols mq [Col.int IntKind.i64 tq])]]) (6)))
 (test ((0 : Int) == (↑nl : Int))
 (Kret (PV.agg
 [PV.int IntKind.i64 (0 : Int), PV.tf true, PV.bool dr, PV.int IntKind.i64 fl]) ([[(1, false, Blk.cols ml [Col.int IntKind.i64 tl]),
 (0, false, Blk.cols mq [Col.int IntKind.i64 tq])]]) (6))
 (Kret (PV.agg [PV.int IntKind.i64 (0 : Int), PV.bool on, PV.bool dr, PV.int IntKind.i64 sx]) ([[(1, false, Blk.cols ml [Col.int IntKind.i64 tl]),
 (0, false, Blk.cols mq [Col.int IntKind.i64 tq])]]) (6))))
 (False))
 (False)))
 (False))
 (False))
 (test (on)
 (test (decide ((0 : Int) ≤ pr ∧ pr < (↑nl : Int)))
 (test (decide (Int.toNat pr + al < ml))
 (test (sx == tl (Int.toNat pr + al))
 (test (lim IntKind.i64 (pr + (1 : Int)))
 (test (pr + (1 : Int) == (↑nl : Int))
 (Kret (PV.agg
 [PV.int IntKind.i64 (0 : Int), PV.tf true, PV.tf true, PV.int IntKind.i64 fl]) ([[(1, false, Blk.cols ml [Col.int IntKind.i64 tl]),
 (0, false, Blk.cols mq [Col.int IntKind.i64 tq])]]) (6))
 (Kret (PV.agg
 [PV.int IntKind.i64 (pr + (1 : Int)), PV.tf false, PV.tf true,
 PV.int IntKind.i64 pt]) ([[(1, false, Blk.cols ml [Col.int IntKind.i64 tl]),
 (0, false, Blk.cols mq [Col.int IntKind.i64 tq])]]) (6)))
 (False))
 (test (decide ((0 : Int) ≤ (0 : Int) ∧ (0 : Int) < (↑nl : Int)))
 (test (decide (0 + al < ml))
 (test (sx == tl (0 + al))
 (test ((1 : Int) == (↑nl : Int))
 (Kret (PV.agg
 [PV.int IntKind.i64 (0 : Int), PV.tf true, PV.tf true, PV.int IntKind.i64 fl]) ([[(1, false, Blk.cols ml [Col.int IntKind.i64 tl]),
 (0, false, Blk.cols mq [Col.int IntKind.i64 tq])]]) (6))
 (Kret (PV.agg
 [PV.int IntKind.i64 (1 : Int), PV.tf false, PV.tf true, PV.int IntKind.i64 pt]) ([[(1, false, Blk.cols ml [Col.int IntKind.i64 tl]),
 (0, false, Blk.cols mq [Col.int IntKind.i64 tq])]]) (6)))
 (test ((0 : Int) == (↑nl : Int))
 (Kret (PV.agg
 [PV.int IntKind.i64 (0 : Int), PV.tf true, PV.tf true, PV.int IntKind.i64 fl]) ([[(1, false, Blk.cols ml [Col.int IntKind.i64 tl]),
 (0, false, Blk.cols mq [Col.int IntKind.i64 tq])]]) (6))
 (Kret (PV.agg
 [PV.int IntKind.i64 (0 : Int), PV.tf false, PV.tf true, PV.int IntKind.i64 pt]) ([[(1, false, Blk.cols ml [Col.int IntKind.i64 tl]),
 (0, false, Blk.cols mq [Col.int IntKind.i64 tq])]]) (6))))
 (False))
 (False)))
 (False))
 (False))
 (test (decide ((0 : Int) ≤ pr ∧ pr < (↑nl : Int)))
 (test (decide (Int.toNat pr + al < ml))
 (test (sx == tl (Int.toNat pr + al))
 (test (lim IntKind.i64 (pr + (1 : Int)))
 (test (pr + (1 : Int) == (↑nl : Int))
 (Kret (PV.agg
 [PV.int IntKind.i64 (0 : Int), PV.tf true, PV.bool dr, PV.int IntKind.i64 fl]) ([[(1, false, Blk.cols ml [Col.int IntKind.i64 tl]),
 (0, false, Blk.cols mq [Col.int IntKind.i64 tq])]]) (6))
 (Kret (PV.agg
 [PV.int IntKind.i64 (pr + (1 : Int)), PV.bool on, PV.bool dr, PV.int IntKind.i64 pt]) ([[(1, false, Blk.cols ml [Col.int IntKind.i64 tl]),
 (0, false, Blk.cols mq [Col.int IntKind.i64 tq])]]) (6)))
 (False))
 (test (decide ((0 : Int) ≤ (0 : Int) ∧ (0 : Int) < (↑nl : Int)))
 (test (decide (0 + al < ml))
 (test (sx == tl (0 + al))
 (test ((1 : Int) == (↑nl : Int))
 (Kret (PV.agg
 [PV.int IntKind.i64 (0 : Int), PV.tf true, PV.bool dr, PV.int IntKind.i64 fl]) ([[(1, false, Blk.cols ml [Col.int IntKind.i64 tl]),
 (0, false, Blk.cols mq [Col.int IntKind.i64 tq])]]) (6))
 (Kret (PV.agg [PV.int IntKind.i64 (1 : Int), PV.bool on, PV.bool dr, PV.int IntKind.i64 pt]) ([[(1, false, Blk.cols ml [Col.int IntKind.i64 tl]),
 (0, false, Blk.cols mq [Col.int IntKind.i64 tq])]]) (6)))
 (test ((0 : Int) == (↑nl : Int))
 (Kret (PV.agg
 [PV.int IntKind.i64 (0 : Int), PV.tf true, PV.bool dr, PV.int IntKind.i64 fl]) ([[(1, false, Blk.cols ml [Col.int IntKind.i64 tl]),
 (0, false, Blk.cols mq [Col.int IntKind.i64 tq])]]) (6))
 (Kret (PV.agg [PV.int IntKind.i64 (0 : Int), PV.bool on, PV.bool dr, PV.int IntKind.i64 pt]) ([[(1, false, Blk.cols ml [Col.int IntKind.i64 tl]),
 (0, false, Blk.cols mq [Col.int IntKind.i64 tq])]]) (6))))
 (False))
 (False)))
 (False))
 (False))))
 (False))
 (test (on)
 (test (decide ((0 : Int) ≤ pr ∧ pr < (↑nl : Int)))
 (test (decide (Int.toNat pr + al < ml))
 (test (sx == tl (Int.toNat pr + al))
 (test (lim IntKind.i64 (pr + (1 : Int)))
 (test (pr + (1 : Int) == (↑nl : Int))
 (Kret (PV.agg
 [PV.int IntKind.i64 (0 : Int), PV.tf true, PV.tf true, PV.int IntKind.i64 fl]) ([[(1, false, Blk.cols ml [Col.int IntKind.i64 tl]),
 (0, false, Blk.cols mq [Col.int IntKind.i64 tq])]]) (5))
 (Kret (PV.agg
 [PV.int IntKind.i64 (pr + (1 : Int)), PV.tf false, PV.tf true,
 PV.int IntKind.i64 pt]) ([[(1, false, Blk.cols ml [Col.int IntKind.i64 tl]),
 (0, false, Blk.cols mq [Col.int IntKind.i64 tq])]]) (5)))
 (False))
 (test (decide ((0 : Int) ≤ (0 : Int) ∧ (0 : Int) < (↑nl : Int)))
 (test (decide (0 + al < ml))
 (test (sx == tl (0 + al))
 (test ((1 : Int) == (↑nl : Int))
 (Kret (PV.agg
 [PV.int IntKind.i64 (0 : Int), PV.tf true, PV.tf true, PV.int IntKind.i64 fl]) ([[(1, false, Blk.cols ml [Col.int IntKind.i64 tl]),
 (0, false, Blk.cols mq [Col.int IntKind.i64 tq])]]) (5))
 (Kret (PV.agg
 [PV.int IntKind.i64 (1 : Int), PV.tf false, PV.tf true, PV.int IntKind.i64 pt]) ([[(1, false, Blk.cols ml [Col.int IntKind.i64 tl]),
 (0, false, Blk.cols mq [Col.int IntKind.i64 tq])]]) (5)))
 (test ((0 : Int) == (↑nl : Int))
 (Kret (PV.agg
 [PV.int IntKind.i64 (0 : Int), PV.tf true, PV.tf true, PV.int IntKind.i64 fl]) ([[(1, false, Blk.cols ml [Col.int IntKind.i64 tl]),
 (0, false, Blk.cols mq [Col.int IntKind.i64 tq])]]) (5))
 (Kret (PV.agg
 [PV.int IntKind.i64 (0 : Int), PV.tf false, PV.tf true, PV.int IntKind.i64 pt]) ([[(1, false, Blk.cols ml [Col.int IntKind.i64 tl]),
 (0, false, Blk.cols mq [Col.int IntKind.i64 tq])]]) (5))))
 (False))
 (False)))
 (False))
 (False))
 (test (decide ((0 : Int) ≤ pr ∧ pr < (↑nl : Int)))
 (test (decide (Int.toNat pr + al < ml))
 (test (sx == tl (Int.toNat pr + al))
 (test (lim IntKind.i64 (pr + (1 : Int)))
 (test (pr + (1 : Int) == (↑nl : Int))
 (Kret (PV.agg
 [PV.int IntKind.i64 (0 : Int), PV.tf true, PV.bool dr, PV.int IntKind.i64 fl]) ([[(1, false, Blk.cols ml [Col.int IntKind.i64 tl]),
 (0, false, Blk.cols mq [Col.int IntKind.i64 tq])]]) (5))
 (Kret (PV.agg
 [PV.int IntKind.i64 (pr + (1 : Int)), PV.bool on, PV.bool dr, PV.int IntKind.i64 pt]) ([[(1, false, Blk.cols ml [Col.int IntKind.i64 tl]),
 (0, false, Blk.cols mq [Col.int IntKind.i64 tq])]]) (5)))
 (False))
 (test (decide ((0 : Int) ≤ (0 : Int) ∧ (0 : Int) < (↑nl : Int)))
 (test (decide (0 + al < ml))
 (test (sx == tl (0 + al))
 (test ((1 : Int) == (↑nl : Int))
 (Kret (PV.agg
 [PV.int IntKind.i64 (0 : Int), PV.tf true, PV.bool dr, PV.int IntKind.i64 fl]) ([[(1, false, Blk.cols ml [Col.int IntKind.i64 tl]),
 (0, false, Blk.cols mq [Col.int IntKind.i64 tq])]]) (5))
 (Kret (PV.agg [PV.int IntKind.i64 (1 : Int), PV.bool on, PV.bool dr, PV.int IntKind.i64 pt]) ([[(1, false, Blk.cols ml [Col.int IntKind.i64 tl]),
 (0, false, Blk.cols mq [Col.int IntKind.i64 tq])]]) (5)))
 (test ((0 : Int) == (↑nl : Int))
 (Kret (PV.agg
 [PV.int IntKind.i64 (0 : Int), PV.tf true, PV.bool dr, PV.int IntKind.i64 fl]) ([[(1, false, Blk.cols ml [Col.int IntKind.i64 tl]),
 (0, false, Blk.cols mq [Col.int IntKind.i64 tq])]]) (5))
 (Kret (PV.agg [PV.int IntKind.i64 (0 : Int), PV.bool on, PV.bool dr, PV.int IntKind.i64 pt]) ([[(1, false, Blk.cols ml [Col.int IntKind.i64 tl]),
 (0, false, Blk.cols mq [Col.int IntKind.i64 tq])]]) (5))))
 (False))
 (False)))
 (False))
 (False)))
theorem te167 (test : Bool → Prop → Prop → Prop) (Kst : KS) (Kret : KR) (cn : ByteArray) (aq nq mq : Nat) (tq : Nat → Int) (rp : Int) (fl : Int) (al nl ml : Nat) (tl : Nat → Int) (pr : Int) (on : Bool) (dr : Bool) (pt : Int) (sx : Int) : run test Try.env true (xH test) true 400 ⟨67, [.cd (mkFn Try.f67).body], argT 0 [.agg [.str cn, .loose ⟨0, 1, aq, 0⟩ nq, .int .i64 rp, .int .i64 fl], .loose ⟨1, 1, al, 0⟩ nl, .agg [.int .i64 pr, .bool on, .bool dr, .int .i64 pt], .int .i64 sx], [[], [(0, (false, .cols mq [.int .i64 tq])), (1, (false, .cols ml [.int .i64 tl]))]], 2⟩ (proj 2 [] Kst Kret) =
  Te167 test Kst Kret cn aq nq mq tq rp fl al nl ml tl pr on dr pt sx := by kernel_rfl
theorem be167 (cn : ByteArray) (aq nq mq : Nat) (tq : Nat → Int) (rp : Int) (fl : Int) (al nl ml : Nat) (tl : Nat → Int) (pr : Int) (on : Bool) (dr : Bool) (pt : Int) (sx : Int) (Kst : KS) (Kret : KR) (x : St167 ⊕ Rt167) (hS : HS 2 400 ((I167 cn aq nq mq tq rp fl al nl ml tl pr on dr pt sx)) Kst x) (hR : HR 2 400 ((V167 cn aq nq mq tq rp fl al nl ml tl pr on dr pt sx)) (fun r => [newL (2 + 1) ((N167 cn aq nq mq tq rp fl al nl ml tl pr on dr pt sx) r) ++ [(0, (false, .cols mq [.int .i64 tq])), (1, (false, .cols ml [.int .i64 tl]))]]) Kret x) (h : (bif (on)
 then (bif (decide (aq + nq ≤ mq ∧ 2 ≤ nq ∧ nq ≤ 20))
 then (bif (S.ahdB nq (fun j => tq (j + aq)) fl pt sx)
 then (bif (decide ((0 : Int) ≤ pr ∧ pr < (↑nl : Int)))
 then (bif (decide (Int.toNat pr + al < ml))
 then (bif (sx == tl (Int.toNat pr + al))
 then (bif (lim IntKind.i64 (pr + (1 : Int)))
 then (bif (pr + (1 : Int) == (↑nl : Int))
 then (some (.inr ((0 : Int), true, dr, fl)))
 else (some (.inr (pr + (1 : Int), on, dr, sx))))
 else (none))
 else (bif (decide ((0 : Int) ≤ (0 : Int) ∧ (0 : Int) < (↑nl : Int)))
 then (bif (decide (0 + al < ml))
 then (bif (sx == tl (0 + al))
 then (bif ((1 : Int) == (↑nl : Int))
 then (some (.inr ((0 : Int), true, dr, fl)))
 else (some (.inr ((1 : Int), on, dr, sx))))
 else (bif ((0 : Int) == (↑nl : Int))
 then (some (.inr ((0 : Int), true, dr, fl)))
 else (some (.inr ((0 : Int), on, dr, sx)))))
 else (none))
 else (none)))
 else (none))
 else (none))
 else (bif (decide ((0 : Int) ≤ pr ∧ pr < (↑nl : Int)))
 then (bif (decide (Int.toNat pr + al < ml))
 then (bif (sx == tl (Int.toNat pr + al))
 then (bif (lim IntKind.i64 (pr + (1 : Int)))
 then (bif (pr + (1 : Int) == (↑nl : Int))
 then (some (.inr ((0 : Int), true, true, fl)))
 else (some (.inr (pr + (1 : Int), false, true, pt))))
 else (none))
 else (bif (decide ((0 : Int) ≤ (0 : Int) ∧ (0 : Int) < (↑nl : Int)))
 then (bif (decide (0 + al < ml))
 then (bif (sx == tl (0 + al))
 then (bif ((1 : Int) == (↑nl : Int))
 then (some (.inr ((0 : Int), true, true, fl)))
 else (some (.inr ((1 : Int), false, true, pt))))
 else (bif ((0 : Int) == (↑nl : Int))
 then (some (.inr ((0 : Int), true, true, fl)))
 else (some (.inr ((0 : Int), false, true, pt)))))
 else (none))
 else (none)))
 else (none))
 else (none)))
 else (none))
 else (bif (decide ((0 : Int) ≤ pr ∧ pr < (↑nl : Int)))
 then (bif (decide (Int.toNat pr + al < ml))
 then (bif (sx == tl (Int.toNat pr + al))
 then (bif (lim IntKind.i64 (pr + (1 : Int)))
 then (bif (pr + (1 : Int) == (↑nl : Int))
 then (some (.inr ((0 : Int), true, dr, fl)))
 else (some (.inr (pr + (1 : Int), on, dr, pt))))
 else (none))
 else (bif (decide ((0 : Int) ≤ (0 : Int) ∧ (0 : Int) < (↑nl : Int)))
 then (bif (decide (0 + al < ml))
 then (bif (sx == tl (0 + al))
 then (bif ((1 : Int) == (↑nl : Int))
 then (some (.inr ((0 : Int), true, dr, fl)))
 else (some (.inr ((1 : Int), on, dr, pt))))
 else (bif ((0 : Int) == (↑nl : Int))
 then (some (.inr ((0 : Int), true, dr, fl)))
 else (some (.inr ((0 : Int), on, dr, pt)))))
 else (none))
 else (none)))
 else (none))
 else (none)) : Option (St167 ⊕ Rt167)) = some x) : Te167 cond Kst Kret cn aq nq mq tq rp fl al nl ml tl pr on dr pt sx := by
  unfold Te167
  exact bif_split h
   (fun c0 h => bif_split h
   (fun c1 h => bif_split h
   (fun c2 h => bif_split h
   (fun c3 h => bif_split h
   (fun c4 h => bif_split h
   (fun c5 h => bif_split h
   (fun c6 h => bif_split h
   (fun c7 h => ret_at hR _ h (fun n => n) rfl rfl rfl (rn_agg ⟨(rn_int rfl), (rn_bool_tf rfl), (rn_bool rfl), (rn_int rfl), trivial⟩) rfl (entl_bor (use_lo rfl) rfl rfl (entl_bor (use_lo rfl) rfl rfl entl_nil)))
   (fun c7 h => ret_at hR _ h (fun n => n) rfl rfl rfl (rn_agg ⟨(rn_int rfl), (rn_bool rfl), (rn_bool rfl), (rn_int rfl), trivial⟩) rfl (entl_bor (use_lo rfl) rfl rfl (entl_bor (use_lo rfl) rfl rfl entl_nil))))
   (fun c6 h => no_some h))
   (fun c5 h => bif_split h
   (fun c6 h => bif_split h
   (fun c7 h => bif_split h
   (fun c8 h => bif_split h
   (fun c9 h => ret_at hR _ h (fun n => n) rfl rfl rfl (rn_agg ⟨(rn_int rfl), (rn_bool_tf rfl), (rn_bool rfl), (rn_int rfl), trivial⟩) rfl (entl_bor (use_lo rfl) rfl rfl (entl_bor (use_lo rfl) rfl rfl entl_nil)))
   (fun c9 h => ret_at hR _ h (fun n => n) rfl rfl rfl (rn_agg ⟨(rn_int rfl), (rn_bool rfl), (rn_bool rfl), (rn_int rfl), trivial⟩) rfl (entl_bor (use_lo rfl) rfl rfl (entl_bor (use_lo rfl) rfl rfl entl_nil))))
   (fun c8 h => bif_split h
   (fun c9 h => ret_at hR _ h (fun n => n) rfl rfl rfl (rn_agg ⟨(rn_int rfl), (rn_bool_tf rfl), (rn_bool rfl), (rn_int rfl), trivial⟩) rfl (entl_bor (use_lo rfl) rfl rfl (entl_bor (use_lo rfl) rfl rfl entl_nil)))
   (fun c9 h => ret_at hR _ h (fun n => n) rfl rfl rfl (rn_agg ⟨(rn_int rfl), (rn_bool rfl), (rn_bool rfl), (rn_int rfl), trivial⟩) rfl (entl_bor (use_lo rfl) rfl rfl (entl_bor (use_lo rfl) rfl rfl entl_nil)))))
   (fun c7 h => no_some h))
   (fun c6 h => no_some h)))
   (fun c4 h => no_some h))
   (fun c3 h => no_some h))
   (fun c2 h => cond_yes c0 (bif_split h
   (fun c3 h => bif_split h
   (fun c4 h => bif_split h
   (fun c5 h => bif_split h
   (fun c6 h => bif_split h
   (fun c7 h => ret_at hR _ h (fun n => n) rfl rfl rfl (rn_agg ⟨(rn_int rfl), (rn_bool_tf rfl), (rn_bool_tf rfl), (rn_int rfl), trivial⟩) rfl (entl_bor (use_lo rfl) rfl rfl (entl_bor (use_lo rfl) rfl rfl entl_nil)))
   (fun c7 h => ret_at hR _ h (fun n => n) rfl rfl rfl (rn_agg ⟨(rn_int rfl), (rn_bool_tf rfl), (rn_bool_tf rfl), (rn_int rfl), trivial⟩) rfl (entl_bor (use_lo rfl) rfl rfl (entl_bor (use_lo rfl) rfl rfl entl_nil))))
   (fun c6 h => no_some h))
   (fun c5 h => bif_split h
   (fun c6 h => bif_split h
   (fun c7 h => bif_split h
   (fun c8 h => bif_split h
   (fun c9 h => ret_at hR _ h (fun n => n) rfl rfl rfl (rn_agg ⟨(rn_int rfl), (rn_bool_tf rfl), (rn_bool_tf rfl), (rn_int rfl), trivial⟩) rfl (entl_bor (use_lo rfl) rfl rfl (entl_bor (use_lo rfl) rfl rfl entl_nil)))
   (fun c9 h => ret_at hR _ h (fun n => n) rfl rfl rfl (rn_agg ⟨(rn_int rfl), (rn_bool_tf rfl), (rn_bool_tf rfl), (rn_int rfl), trivial⟩) rfl (entl_bor (use_lo rfl) rfl rfl (entl_bor (use_lo rfl) rfl rfl entl_nil))))
   (fun c8 h => bif_split h
   (fun c9 h => ret_at hR _ h (fun n => n) rfl rfl rfl (rn_agg ⟨(rn_int rfl), (rn_bool_tf rfl), (rn_bool_tf rfl), (rn_int rfl), trivial⟩) rfl (entl_bor (use_lo rfl) rfl rfl (entl_bor (use_lo rfl) rfl rfl entl_nil)))
   (fun c9 h => ret_at hR _ h (fun n => n) rfl rfl rfl (rn_agg ⟨(rn_int rfl), (rn_bool_tf rfl), (rn_bool_tf rfl), (rn_int rfl), trivial⟩) rfl (entl_bor (use_lo rfl) rfl rfl (entl_bor (use_lo rfl) rfl rfl entl_nil)))))
   (fun c7 h => no_some h))
   (fun c6 h => no_some h)))
   (fun c4 h => no_some h))
   (fun c3 h => no_some h))))
   (fun c1 h => no_some h))
   (fun c0 h => cond_no c0 (bif_split h
   (fun c1 h => bif_split h
   (fun c2 h => bif_split h
   (fun c3 h => bif_split h
   (fun c4 h => bif_split h
   (fun c5 h => ret_at hR _ h (fun n => n) rfl rfl rfl (rn_agg ⟨(rn_int rfl), (rn_bool_tf rfl), (rn_bool rfl), (rn_int rfl), trivial⟩) rfl (entl_bor (use_lo rfl) rfl rfl (entl_bor (use_lo rfl) rfl rfl entl_nil)))
   (fun c5 h => ret_at hR _ h (fun n => n) rfl rfl rfl (rn_agg ⟨(rn_int rfl), (rn_bool rfl), (rn_bool rfl), (rn_int rfl), trivial⟩) rfl (entl_bor (use_lo rfl) rfl rfl (entl_bor (use_lo rfl) rfl rfl entl_nil))))
   (fun c4 h => no_some h))
   (fun c3 h => bif_split h
   (fun c4 h => bif_split h
   (fun c5 h => bif_split h
   (fun c6 h => bif_split h
   (fun c7 h => ret_at hR _ h (fun n => n) rfl rfl rfl (rn_agg ⟨(rn_int rfl), (rn_bool_tf rfl), (rn_bool rfl), (rn_int rfl), trivial⟩) rfl (entl_bor (use_lo rfl) rfl rfl (entl_bor (use_lo rfl) rfl rfl entl_nil)))
   (fun c7 h => ret_at hR _ h (fun n => n) rfl rfl rfl (rn_agg ⟨(rn_int rfl), (rn_bool rfl), (rn_bool rfl), (rn_int rfl), trivial⟩) rfl (entl_bor (use_lo rfl) rfl rfl (entl_bor (use_lo rfl) rfl rfl entl_nil))))
   (fun c6 h => bif_split h
   (fun c7 h => ret_at hR _ h (fun n => n) rfl rfl rfl (rn_agg ⟨(rn_int rfl), (rn_bool_tf rfl), (rn_bool rfl), (rn_int rfl), trivial⟩) rfl (entl_bor (use_lo rfl) rfl rfl (entl_bor (use_lo rfl) rfl rfl entl_nil)))
   (fun c7 h => ret_at hR _ h (fun n => n) rfl rfl rfl (rn_agg ⟨(rn_int rfl), (rn_bool rfl), (rn_bool rfl), (rn_int rfl), trivial⟩) rfl (entl_bor (use_lo rfl) rfl rfl (entl_bor (use_lo rfl) rfl rfl entl_nil)))))
   (fun c5 h => no_some h))
   (fun c4 h => no_some h)))
   (fun c2 h => no_some h))
   (fun c1 h => no_some h)))
theorem a167 (cn : ByteArray) (aq nq mq : Nat) (tq : Nat → Int) (rp : Int) (fl : Int) (al nl ml : Nat) (tl : Nat → Int) (pr : Int) (on : Bool) (dr : Bool) (pt : Int) (sx : Int) {r : Rt167} (h : Goes ((q167 cn aq nq mq tq rp fl al nl ml tl pr on dr pt sx)) ((p167 cn aq nq mq tq rp fl al nl ml tl pr on dr pt sx)) r) : CallR Try.prog 67 [.agg [.str cn, .loose ⟨0, 1, aq, 0⟩ nq, .int .i64 rp, .int .i64 fl], .loose ⟨1, 1, al, 0⟩ nl, .agg [.int .i64 pr, .bool on, .bool dr, .int .i64 pt], .int .i64 sx] [[(0, (false, .cols mq [.int .i64 tq])), (1, (false, .cols ml [.int .i64 tl]))]] 2 ((V167 cn aq nq mq tq rp fl al nl ml tl pr on dr pt sx) r) ((fun r => [newL (2 + 1) ((N167 cn aq nq mq tq rp fl al nl ml tl pr on dr pt sx) r) ++ [(0, (false, .cols mq [.int .i64 tq])), (1, (false, .cols ml [.int .i64 tl]))]]) r) 400 ∧ ∃ F, Try.prog.funcs[67]? = some F ∧ F.body.isSome = true ∧ (F.name == "runtime.NumGoroutine") = false := by
  refine dec_calls (f := 67) (lo := 2) (hi := 400) (H := [[(0, (false, .cols mq [.int .i64 tq])), (1, (false, .cols ml [.int .i64 tl]))]]) (args := [.agg [.str cn, .loose ⟨0, 1, aq, 0⟩ nq, .int .i64 rp, .int .i64 fl], .loose ⟨1, 1, al, 0⟩ nl, .agg [.int .i64 pr, .bool on, .bool dr, .int .i64 pt], .int .i64 sx]) Try.envOk Try.mixed xH_ok ((I167 cn aq nq mq tq rp fl al nl ml tl pr on dr pt sx)) ((V167 cn aq nq mq tq rp fl al nl ml tl pr on dr pt sx)) (fun r => [newL (2 + 1) ((N167 cn aq nq mq tq rp fl al nl ml tl pr on dr pt sx) r) ++ [(0, (false, .cols mq [.int .i64 tq])), (1, (false, .cols ml [.int .i64 tl]))]]) (fn := mkFn Try.f67) (ts := []) (n := 400) rfl (by decide) (by simp) (names_of rfl) ?_ ?_ ?_ h
  · intro s; exact s.elim
  · intro Kst Kret x hS hR h
    exact Holds.eq (te167 cond Kst Kret cn aq nq mq tq rp fl al nl ml tl pr on dr pt sx) (be167 cn aq nq mq tq rp fl al nl ml tl pr on dr pt sx Kst Kret x hS hR h)
  · intro Kst Kret x hS hR s h; exact s.elim
noncomputable def k167 : Con := ⟨67, [.agg [.plain (.str), .list [.int .i64], .plain (.int .i64), .plain (.int .i64)], .one (.list [.int .i64]), .agg [.plain (.int .i64), .plain (.bool), .plain (.bool), .plain (.int .i64)], .one (.plain (.int .i64))], fun (x : (ByteArray × (Nat × Nat × Nat × (Nat → Int) × Unit) × Int × Int × Unit) × (Nat × Nat × Nat × (Nat → Int) × Unit) × (Int × Bool × Bool × Int × Unit) × Int × Unit) => (fun (cn : ByteArray) (aq nq mq : Nat) (tq : Nat → Int) (rp : Int) (fl : Int) (al nl ml : Nat) (tl : Nat → Int) (pr : Int) (on : Bool) (dr : Bool) (pt : Int) (sx : Int) => decide ((aq + nq ≤ mq ∧ 2 ≤ nq ∧ nq ≤ 20) ∧ (al + nl ≤ ml ∧ 2 ≤ nl ∧ nl ≤ 1000) ∧ 0 ≤ pr ∧ pr < (nl : Int))) x.1.1 x.1.2.1.1 x.1.2.1.2.1 x.1.2.1.2.2.1 x.1.2.1.2.2.2.1 x.1.2.2.1 x.1.2.2.2.1 x.2.1.1 x.2.1.2.1 x.2.1.2.2.1 x.2.1.2.2.2.1 x.2.2.1.1 x.2.2.1.2.1 x.2.2.1.2.2.1 x.2.2.1.2.2.2.1 x.2.2.2.1, fun (x : (ByteArray × (Nat × Nat × Nat × (Nat → Int) × Unit) × Int × Int × Unit) × (Nat × Nat × Nat × (Nat → Int) × Unit) × (Int × Bool × Bool × Int × Unit) × Int × Unit) => (fun (cn : ByteArray) (aq nq mq : Nat) (tq : Nat → Int) (rp : Int) (fl : Int) (al nl ml : Nat) (tl : Nat → Int) (pr : Int) (on : Bool) (dr : Bool) (pt : Int) (sx : Int) => (V167 cn aq nq mq tq rp fl al nl ml tl pr on dr pt sx) (S.setS nq (fun j => tq (j + aq)) fl nl (fun j => tl (j + al)) (pr, on, dr, pt) sx)) x.1.1 x.1.2.1.1 x.1.2.1.2.1 x.1.2.1.2.2.1 x.1.2.1.2.2.2.1 x.1.2.2.1 x.1.2.2.2.1 x.2.1.1 x.2.1.2.1 x.2.1.2.2.1 x.2.1.2.2.2.1 x.2.2.1.1 x.2.2.1.2.1 x.2.2.1.2.2.1 x.2.2.1.2.2.2.1 x.2.2.2.1, fun (x : (ByteArray × (Nat × Nat × Nat × (Nat → Int) × Unit) × Int × Int × Unit) × (Nat × Nat × Nat × (Nat → Int) × Unit) × (Int × Bool × Bool × Int × Unit) × Int × Unit) => (fun (cn : ByteArray) (aq nq mq : Nat) (tq : Nat → Int) (rp : Int) (fl : Int) (al nl ml : Nat) (tl : Nat → Int) (pr : Int) (on : Bool) (dr : Bool) (pt : Int) (sx : Int) => (N167 cn aq nq mq tq rp fl al nl ml tl pr on dr pt sx) (S.setS nq (fun j => tq (j + aq)) fl nl (fun j => tl (j + al)) (pr, on, dr, pt) sx)) x.1.1 x.1.2.1.1 x.1.2.1.2.1 x.1.2.1.2.2.1 x.1.2.1.2.2.2.1 x.1.2.2.1 x.1.2.2.2.1 x.2.1.1 x.2.1.2.1 x.2.1.2.2.1 x.2.1.2.2.2.1 x.2.2.1.1 x.2.2.1.2.1 x.2.2.1.2.2.1 x.2.2.1.2.2.2.1 x.2.2.2.1, fun _ _ => .dead⟩
theorem s167 (cn : ByteArray) (aq nq mq : Nat) (tq : Nat → Int) (rp : Int) (fl : Int) (al nl ml : Nat) (tl : Nat → Int) (pr : Int) (on : Bool) (dr : Bool) (pt : Int) (sx : Int) (hp : (aq + nq ≤ mq ∧ 2 ≤ nq ∧ nq ≤ 20) ∧ (al + nl ≤ ml ∧ 2 ≤ nl ∧ nl ≤ 1000) ∧ 0 ≤ pr ∧ pr < (nl : Int)) : Goes ((q167 cn aq nq mq tq rp fl al nl ml tl pr on dr pt sx)) ((p167 cn aq nq mq tq rp fl al nl ml tl pr on dr pt sx)) (S.setS nq (fun j => tq (j + aq)) fl nl (fun j => tl (j + al)) (pr, on, dr, pt) sx) := by
  obtain ⟨⟨hp1, hp2, hp3⟩, ⟨hp4, hp5, hp6⟩, hp7, hp8⟩ := hp
  unfold S.setS S.prS p167
  dsimp only
  generalize S.ahdB nq (fun j => tq (j + aq)) fl pt sx = A
  show Goes _ _ _
  cases on <;> cases dr <;> cases A
  all_goals
   repeat' first
    | with_reducible refine goes_if (fun h => ?_) (fun h => ?_) <;> (try simp only [lim64, imp_false, decide_eq_true_eq, decide_eq_false_iff_not, Int.toNat_natCast, toNat_pred, toNat_succ, Option.getD_some, Option.getD_none, Bool.not_eq_true', Bool.not_eq_false', Bool.and_eq_true, Bool.or_eq_true, Bool.and_eq_false_iff, Bool.or_eq_false_iff, bne_iff_ne, beq_iff_eq, bne_eq_false_iff_eq, beq_eq_false_iff_ne, ne_eq, not_and, Int.not_le, Int.not_lt, ge_iff_le, gt_iff_lt, Nat.not_lt, Nat.not_le, Bool.not_eq_true, Bool.not_eq_false, Bool.true_eq_false, Bool.false_eq_true, not_false_eq_true, not_true_eq_false] at h)
    | exact goes_none.mpr (by omega)
   all_goals first | (exfalso; omega) | (refine goes_inr.mpr ?_; (repeat' split) <;> first | rfl | (exfalso; omega) | (exfalso; simp_all; done) | (simp only [Bool.true_and, Bool.false_and, Bool.and_true, Bool.or_true, Bool.or_false, Bool.false_or, Bool.not_true, Bool.not_false, Prod.mk.injEq, and_true, true_and, eq_self] at *; omega) | (simp_all; done))
theorem k167_ok : k167.ok Try.prog := by
  intro x hx
  obtain ⟨⟨cn, ⟨aq, nq, mq, tq, _⟩, rp, fl, _⟩, ⟨al, nl, ml, tl, _⟩, ⟨pr, on, dr, pt, _⟩, sx, _⟩ := x
  obtain ⟨h1, h2⟩ := a167 cn aq nq mq tq rp fl al nl ml tl pr on dr pt sx (s167 cn aq nq mq tq rp fl al nl ml tl pr on dr pt sx (of_dec hx rfl))
  exact ⟨⟨400, (by decide : 2 + 1 + 0 ≤ 400), h1⟩, h2⟩
noncomputable def xB1 (test : Bool → Prop → Prop → Prop) : Ext := consX test [k117, k136, k167]
theorem xB1_ok : ExtOk Try.prog (xB1 cond) := consX_ok ⟨k117_ok, k136_ok, k167_ok, trivial⟩
abbrev St142 := Empty
abbrev Rt142 := Int
noncomputable def V142 (ar nr mr : Nat) (tr : Nat → Int) (vr : Nat → Int) (gr : Nat → Int) (ao no mo : Nat) (to : Nat → Bool) (cn : ByteArray) (aq nq mq : Nat) (tq : Nat → Int) (rp : Int) (fl : Int) (r : Rt142) : PV := PV.int IntKind.i64 r
noncomputable def N142 (ar nr mr : Nat) (tr : Nat → Int) (vr : Nat → Int) (gr : Nat → Int) (ao no mo : Nat) (to : Nat → Bool) (cn : ByteArray) (aq nq mq : Nat) (tq : Nat → Int) (rp : Int) (fl : Int) (r : Rt142) : List Blk := []
noncomputable def I142 (ar nr mr : Nat) (tr : Nat → Int) (vr : Nat → Int) (gr : Nat → Int) (ao no mo : Nat) (to : Nat → Bool) (cn : ByteArray) (aq nq mq : Nat) (tq : Nat → Int) (rp : Int) (fl : Int) : St142 → Hd := fun s => s.elim
noncomputable def q142 (ar nr mr : Nat) (tr : Nat → Int) (vr : Nat → Int) (gr : Nat → Int) (ao no mo : Nat) (to : Nat → Bool) (cn : ByteArray) (aq nq mq : Nat) (tq : Nat → Int) (rp : Int) (fl : Int) : St142 → Option (St142 ⊕ Rt142) := fun s => s.elim
noncomputable def p142 (ar nr mr : Nat) (tr : Nat → Int) (vr : Nat → Int) (gr : Nat → Int) (ao no mo : Nat) (to : Nat → Bool) (cn : ByteArray) (aq nq mq : Nat) (tq : Nat → Int) (rp : Int) (fl : Int) : Option (St142 ⊕ Rt142) := bif (decide (ar + nr ≤ mr ∧ nr ≤ 1000000))
 then (bif (S.magE nr (fun j => tr (j + ar)) (fun j => vr (j + ar)) (fun j => gr (j + ar)) no !=
 (0 : Int))
 then (some (.inr (S.magE nr (fun j => tr (j + ar)) (fun j => vr (j + ar)) (fun j => gr (j + ar)) no)))
 else (bif (decide (aq + nq ≤ mq ∧ nq ≤ 1000000))
 then (some (.inr (S.cyE cn nq (fun j => tq (j + aq)) rp fl)))
 else (none)))
 else (none)
noncomputable def Te142 (test : Bool → Prop → Prop → Prop) (Kst : KS) (Kret : KR) (ar nr mr : Nat) (tr : Nat → Int) (vr : Nat → Int) (gr : Nat → Int) (ao no mo : Nat) (to : Nat → Bool) (cn : ByteArray) (aq nq mq : Nat) (tq : Nat → Int) (rp : Int) (fl : Int) : Prop :=
  test (decide (ar + nr ≤ mr ∧ nr ≤ 1000000))
 (test (S.magE nr (fun j => tr (j + ar)) (fun j => vr (j + ar)) (fun j => gr (j + ar)) no !=
 (0 : Int))
 (Kret (PV.int IntKind.i64
 (S.magE nr (fun j => tr (j + ar)) (fun j => vr (j + ar)) (fun j => gr (j + ar)) no)) ([[(2, false, Blk.cols mq [Col.int IntKind.i64 tq]),
 (1, false, Blk.cols mo [Col.bool to]),
 (0, false,
 Blk.cols mr
 [Col.int IntKind.i64 tr, Col.int IntKind.i64 vr, Col.int IntKind.i64 gr])]]) (6))
 (test (decide (aq + nq ≤ mq ∧ nq ≤ 1000000))
 (Kret (PV.int IntKind.i64 (S.cyE cn nq (fun j => tq (j + aq)) rp fl)) ([[(2, false, Blk.cols mq [Col.int IntKind.i64 tq]),
 (1, false, Blk.cols mo [Col.bool to]),
 (0, false,
 Blk.cols mr
 [Col.int IntKind.i64 tr, Col.int IntKind.i64 vr, Col.int IntKind.i64 gr])]]) (7))
 (False)))
 (False)
theorem te142 (test : Bool → Prop → Prop → Prop) (Kst : KS) (Kret : KR) (ar nr mr : Nat) (tr : Nat → Int) (vr : Nat → Int) (gr : Nat → Int) (ao no mo : Nat) (to : Nat → Bool) (cn : ByteArray) (aq nq mq : Nat) (tq : Nat → Int) (rp : Int) (fl : Int) : run test Try.env true (xT2 test) true 400 ⟨42, [.cd (mkFn Try.f42).body], argT 0 [.agg [.loose ⟨0, 3, ar, 0⟩ nr, .loose ⟨1, 1, ao, 0⟩ no], .agg [.str cn, .loose ⟨2, 1, aq, 0⟩ nq, .int .i64 rp, .int .i64 fl]], [[], [(0, (false, .cols mr [.int .i64 tr, .int .i64 vr, .int .i64 gr])), (1, (false, .cols mo [.bool to])), (2, (false, .cols mq [.int .i64 tq]))]], 3⟩ (proj 3 [] Kst Kret) =
  Te142 test Kst Kret ar nr mr tr vr gr ao no mo to cn aq nq mq tq rp fl := by kernel_rfl
theorem be142 (ar nr mr : Nat) (tr : Nat → Int) (vr : Nat → Int) (gr : Nat → Int) (ao no mo : Nat) (to : Nat → Bool) (cn : ByteArray) (aq nq mq : Nat) (tq : Nat → Int) (rp : Int) (fl : Int) (Kst : KS) (Kret : KR) (x : St142 ⊕ Rt142) (hS : HS 3 400 ((I142 ar nr mr tr vr gr ao no mo to cn aq nq mq tq rp fl)) Kst x) (hR : HR 3 400 ((V142 ar nr mr tr vr gr ao no mo to cn aq nq mq tq rp fl)) (fun r => [newL (3 + 1) ((N142 ar nr mr tr vr gr ao no mo to cn aq nq mq tq rp fl) r) ++ [(0, (false, .cols mr [.int .i64 tr, .int .i64 vr, .int .i64 gr])), (1, (false, .cols mo [.bool to])), (2, (false, .cols mq [.int .i64 tq]))]]) Kret x) (h : (bif (decide (ar + nr ≤ mr ∧ nr ≤ 1000000))
 then (bif (S.magE nr (fun j => tr (j + ar)) (fun j => vr (j + ar)) (fun j => gr (j + ar)) no !=
 (0 : Int))
 then (some (.inr (S.magE nr (fun j => tr (j + ar)) (fun j => vr (j + ar)) (fun j => gr (j + ar)) no)))
 else (bif (decide (aq + nq ≤ mq ∧ nq ≤ 1000000))
 then (some (.inr (S.cyE cn nq (fun j => tq (j + aq)) rp fl)))
 else (none)))
 else (none) : Option (St142 ⊕ Rt142)) = some x) : Te142 cond Kst Kret ar nr mr tr vr gr ao no mo to cn aq nq mq tq rp fl := by
  unfold Te142
  exact bif_split h
   (fun c0 h => bif_split h
   (fun c1 h => ret_at hR _ h (fun n => n) rfl rfl rfl (rn_int rfl) rfl (entl_bor (use_lo rfl) rfl rfl (entl_bor (use_lo rfl) rfl rfl (entl_bor (use_lo rfl) rfl rfl entl_nil))))
   (fun c1 h => bif_split h
   (fun c2 h => ret_at hR _ h (fun n => n) rfl rfl rfl (rn_int rfl) rfl (entl_bor (use_lo rfl) rfl rfl (entl_bor (use_lo rfl) rfl rfl (entl_bor (use_lo rfl) rfl rfl entl_nil))))
   (fun c2 h => no_some h)))
   (fun c0 h => no_some h)
theorem a142 (ar nr mr : Nat) (tr : Nat → Int) (vr : Nat → Int) (gr : Nat → Int) (ao no mo : Nat) (to : Nat → Bool) (cn : ByteArray) (aq nq mq : Nat) (tq : Nat → Int) (rp : Int) (fl : Int) {r : Rt142} (h : Goes ((q142 ar nr mr tr vr gr ao no mo to cn aq nq mq tq rp fl)) ((p142 ar nr mr tr vr gr ao no mo to cn aq nq mq tq rp fl)) r) : CallR Try.prog 42 [.agg [.loose ⟨0, 3, ar, 0⟩ nr, .loose ⟨1, 1, ao, 0⟩ no], .agg [.str cn, .loose ⟨2, 1, aq, 0⟩ nq, .int .i64 rp, .int .i64 fl]] [[(0, (false, .cols mr [.int .i64 tr, .int .i64 vr, .int .i64 gr])), (1, (false, .cols mo [.bool to])), (2, (false, .cols mq [.int .i64 tq]))]] 3 ((V142 ar nr mr tr vr gr ao no mo to cn aq nq mq tq rp fl) r) ((fun r => [newL (3 + 1) ((N142 ar nr mr tr vr gr ao no mo to cn aq nq mq tq rp fl) r) ++ [(0, (false, .cols mr [.int .i64 tr, .int .i64 vr, .int .i64 gr])), (1, (false, .cols mo [.bool to])), (2, (false, .cols mq [.int .i64 tq]))]]) r) 400 ∧ ∃ F, Try.prog.funcs[42]? = some F ∧ F.body.isSome = true ∧ (F.name == "runtime.NumGoroutine") = false := by
  refine dec_calls (f := 42) (lo := 3) (hi := 400) (H := [[(0, (false, .cols mr [.int .i64 tr, .int .i64 vr, .int .i64 gr])), (1, (false, .cols mo [.bool to])), (2, (false, .cols mq [.int .i64 tq]))]]) (args := [.agg [.loose ⟨0, 3, ar, 0⟩ nr, .loose ⟨1, 1, ao, 0⟩ no], .agg [.str cn, .loose ⟨2, 1, aq, 0⟩ nq, .int .i64 rp, .int .i64 fl]]) Try.envOk Try.mixed xT2_ok ((I142 ar nr mr tr vr gr ao no mo to cn aq nq mq tq rp fl)) ((V142 ar nr mr tr vr gr ao no mo to cn aq nq mq tq rp fl)) (fun r => [newL (3 + 1) ((N142 ar nr mr tr vr gr ao no mo to cn aq nq mq tq rp fl) r) ++ [(0, (false, .cols mr [.int .i64 tr, .int .i64 vr, .int .i64 gr])), (1, (false, .cols mo [.bool to])), (2, (false, .cols mq [.int .i64 tq]))]]) (fn := mkFn Try.f42) (ts := []) (n := 400) rfl (by decide) (by simp) (names_of rfl) ?_ ?_ ?_ h
  · intro s; exact s.elim
  · intro Kst Kret x hS hR h
    exact Holds.eq (te142 cond Kst Kret ar nr mr tr vr gr ao no mo to cn aq nq mq tq rp fl) (be142 ar nr mr tr vr gr ao no mo to cn aq nq mq tq rp fl Kst Kret x hS hR h)
  · intro Kst Kret x hS hR s h; exact s.elim
noncomputable def k142 : Con := ⟨42, [.agg [.list [.int .i64, .int .i64, .int .i64], .list [.bool]], .agg [.plain (.str), .list [.int .i64], .plain (.int .i64), .plain (.int .i64)]], fun (x : ((Nat × Nat × Nat × (Nat → Int) × (Nat → Int) × (Nat → Int) × Unit) × (Nat × Nat × Nat × (Nat → Bool) × Unit) × Unit) × (ByteArray × (Nat × Nat × Nat × (Nat → Int) × Unit) × Int × Int × Unit) × Unit) => (fun (ar nr mr : Nat) (tr : Nat → Int) (vr : Nat → Int) (gr : Nat → Int) (ao no mo : Nat) (to : Nat → Bool) (cn : ByteArray) (aq nq mq : Nat) (tq : Nat → Int) (rp : Int) (fl : Int) => decide ((ar + nr ≤ mr ∧ nr ≤ 1000000) ∧ (aq + nq ≤ mq ∧ nq ≤ 1000000))) x.1.1.1 x.1.1.2.1 x.1.1.2.2.1 x.1.1.2.2.2.1 x.1.1.2.2.2.2.1 x.1.1.2.2.2.2.2.1 x.1.2.1.1 x.1.2.1.2.1 x.1.2.1.2.2.1 x.1.2.1.2.2.2.1 x.2.1.1 x.2.1.2.1.1 x.2.1.2.1.2.1 x.2.1.2.1.2.2.1 x.2.1.2.1.2.2.2.1 x.2.1.2.2.1 x.2.1.2.2.2.1, fun (x : ((Nat × Nat × Nat × (Nat → Int) × (Nat → Int) × (Nat → Int) × Unit) × (Nat × Nat × Nat × (Nat → Bool) × Unit) × Unit) × (ByteArray × (Nat × Nat × Nat × (Nat → Int) × Unit) × Int × Int × Unit) × Unit) => (fun (ar nr mr : Nat) (tr : Nat → Int) (vr : Nat → Int) (gr : Nat → Int) (ao no mo : Nat) (to : Nat → Bool) (cn : ByteArray) (aq nq mq : Nat) (tq : Nat → Int) (rp : Int) (fl : Int) => (V142 ar nr mr tr vr gr ao no mo to cn aq nq mq tq rp fl) (S.botE (S.magE nr (fun j => tr (j + ar)) (fun j => vr (j + ar)) (fun j => gr (j + ar)) no) (S.cyE cn nq (fun j => tq (j + aq)) rp fl))) x.1.1.1 x.1.1.2.1 x.1.1.2.2.1 x.1.1.2.2.2.1 x.1.1.2.2.2.2.1 x.1.1.2.2.2.2.2.1 x.1.2.1.1 x.1.2.1.2.1 x.1.2.1.2.2.1 x.1.2.1.2.2.2.1 x.2.1.1 x.2.1.2.1.1 x.2.1.2.1.2.1 x.2.1.2.1.2.2.1 x.2.1.2.1.2.2.2.1 x.2.1.2.2.1 x.2.1.2.2.2.1, fun (x : ((Nat × Nat × Nat × (Nat → Int) × (Nat → Int) × (Nat → Int) × Unit) × (Nat × Nat × Nat × (Nat → Bool) × Unit) × Unit) × (ByteArray × (Nat × Nat × Nat × (Nat → Int) × Unit) × Int × Int × Unit) × Unit) => (fun (ar nr mr : Nat) (tr : Nat → Int) (vr : Nat → Int) (gr : Nat → Int) (ao no mo : Nat) (to : Nat → Bool) (cn : ByteArray) (aq nq mq : Nat) (tq : Nat → Int) (rp : Int) (fl : Int) => (N142 ar nr mr tr vr gr ao no mo to cn aq nq mq tq rp fl) (S.botE (S.magE nr (fun j => tr (j + ar)) (fun j => vr (j + ar)) (fun j => gr (j + ar)) no) (S.cyE cn nq (fun j => tq (j + aq)) rp fl))) x.1.1.1 x.1.1.2.1 x.1.1.2.2.1 x.1.1.2.2.2.1 x.1.1.2.2.2.2.1 x.1.1.2.2.2.2.2.1 x.1.2.1.1 x.1.2.1.2.1 x.1.2.1.2.2.1 x.1.2.1.2.2.2.1 x.2.1.1 x.2.1.2.1.1 x.2.1.2.1.2.1 x.2.1.2.1.2.2.1 x.2.1.2.1.2.2.2.1 x.2.1.2.2.1 x.2.1.2.2.2.1, fun _ _ => .dead⟩
theorem s142 (ar nr mr : Nat) (tr : Nat → Int) (vr : Nat → Int) (gr : Nat → Int) (ao no mo : Nat) (to : Nat → Bool) (cn : ByteArray) (aq nq mq : Nat) (tq : Nat → Int) (rp : Int) (fl : Int) (hp : (ar + nr ≤ mr ∧ nr ≤ 1000000) ∧ (aq + nq ≤ mq ∧ nq ≤ 1000000)) : Goes ((q142 ar nr mr tr vr gr ao no mo to cn aq nq mq tq rp fl)) ((p142 ar nr mr tr vr gr ao no mo to cn aq nq mq tq rp fl)) (S.botE (S.magE nr (fun j => tr (j + ar)) (fun j => vr (j + ar)) (fun j => gr (j + ar)) no) (S.cyE cn nq (fun j => tq (j + aq)) rp fl)) := by
  obtain ⟨⟨hp1, hp2⟩, hp3, hp4⟩ := hp
  unfold S.botE p142
  generalize (S.magE nr (fun j => tr (j + ar)) (fun j => vr (j + ar)) (fun j => gr (j + ar)) no) = e at *
  show Goes _ _ _
  repeat' first
    | with_reducible refine goes_if (fun h => ?_) (fun h => ?_) <;> (try simp only [lim64, imp_false, decide_eq_true_eq, decide_eq_false_iff_not, Int.toNat_natCast, toNat_pred, toNat_succ, Option.getD_some, Option.getD_none, Bool.not_eq_true', Bool.not_eq_false', Bool.and_eq_true, Bool.or_eq_true, Bool.and_eq_false_iff, Bool.or_eq_false_iff, bne_iff_ne, beq_iff_eq, bne_eq_false_iff_eq, beq_eq_false_iff_ne, ne_eq, not_and, Int.not_le, Int.not_lt, ge_iff_le, gt_iff_lt, Nat.not_lt, Nat.not_le, Bool.not_eq_true, Bool.not_eq_false, Bool.true_eq_false, Bool.false_eq_true, not_false_eq_true, not_true_eq_false] at h)
    | exact goes_none.mpr (by omega)
  all_goals first | (exfalso; omega) | (rw [if_pos (by omega)]; exact goes_inr.mpr rfl) | (rw [if_neg (by omega)]; exact goes_inr.mpr rfl)
theorem k142_ok : k142.ok Try.prog := by
  intro x hx
  obtain ⟨⟨⟨ar, nr, mr, tr, vr, gr, _⟩, ⟨ao, no, mo, to, _⟩, _⟩, ⟨cn, ⟨aq, nq, mq, tq, _⟩, rp, fl, _⟩, _⟩ := x
  obtain ⟨h1, h2⟩ := a142 ar nr mr tr vr gr ao no mo to cn aq nq mq tq rp fl (s142 ar nr mr tr vr gr ao no mo to cn aq nq mq tq rp fl (of_dec hx rfl))
  exact ⟨⟨400, (by decide : 3 + 1 + 0 ≤ 400), h1⟩, h2⟩
abbrev St144 := Empty
abbrev Rt144 := Int
noncomputable def V144 (ar nr mr : Nat) (tr : Nat → Int) (vr : Nat → Int) (gr : Nat → Int) (ao no mo : Nat) (to : Nat → Bool) (cn : ByteArray) (aq nq mq : Nat) (tq : Nat → Int) (rp : Int) (fl : Int) (r : Rt144) : PV := PV.int IntKind.i64 r
noncomputable def N144 (ar nr mr : Nat) (tr : Nat → Int) (vr : Nat → Int) (gr : Nat → Int) (ao no mo : Nat) (to : Nat → Bool) (cn : ByteArray) (aq nq mq : Nat) (tq : Nat → Int) (rp : Int) (fl : Int) (r : Rt144) : List Blk := []
noncomputable def I144 (ar nr mr : Nat) (tr : Nat → Int) (vr : Nat → Int) (gr : Nat → Int) (ao no mo : Nat) (to : Nat → Bool) (cn : ByteArray) (aq nq mq : Nat) (tq : Nat → Int) (rp : Int) (fl : Int) : St144 → Hd := fun s => s.elim
noncomputable def q144 (ar nr mr : Nat) (tr : Nat → Int) (vr : Nat → Int) (gr : Nat → Int) (ao no mo : Nat) (to : Nat → Bool) (cn : ByteArray) (aq nq mq : Nat) (tq : Nat → Int) (rp : Int) (fl : Int) : St144 → Option (St144 ⊕ Rt144) := fun s => s.elim
noncomputable def p144 (ar nr mr : Nat) (tr : Nat → Int) (vr : Nat → Int) (gr : Nat → Int) (ao no mo : Nat) (to : Nat → Bool) (cn : ByteArray) (aq nq mq : Nat) (tq : Nat → Int) (rp : Int) (fl : Int) : Option (St144 ⊕ Rt144) := bif (decide (ar + nr ≤ mr ∧ nr ≤ 1000000))
 then (bif (S.magE nr (fun j => tr (j + ar)) (fun j => vr (j + ar)) (fun j => gr (j + ar)) no !=
 (0 : Int))
 then (some (.inr (S.magE nr (fun j => tr (j + ar)) (fun j => vr (j + ar)) (fun j => gr (j + ar)) no)))
 else (bif (decide (aq + nq ≤ mq ∧ nq ≤ 1000000))
 then (some (.inr (S.cyE cn nq (fun j => tq (j + aq)) rp fl)))
 else (none)))
 else (none)
noncomputable def Te144 (test : Bool → Prop → Prop → Prop) (Kst : KS) (Kret : KR) (ar nr mr : Nat) (tr : Nat → Int) (vr : Nat → Int) (gr : Nat → Int) (ao no mo : Nat) (to : Nat → Bool) (cn : ByteArray) (aq nq mq : Nat) (tq : Nat → Int) (rp : Int) (fl : Int) : Prop :=
  test (decide (ar + nr ≤ mr ∧ nr ≤ 1000000))
 (test (S.magE nr (fun j => tr (j + ar)) (fun j => vr (j + ar)) (fun j => gr (j + ar)) no !=
 (0 : Int))
 (Kret (PV.int IntKind.i64
 (S.magE nr (fun j => tr (j + ar)) (fun j => vr (j + ar)) (fun j => gr (j + ar)) no)) ([[(2, false, Blk.cols mq [Col.int IntKind.i64 tq]),
 (1, false, Blk.cols mo [Col.bool to]),
 (0, false,
 Blk.cols mr
 [Col.int IntKind.i64 tr, Col.int IntKind.i64 vr, Col.int IntKind.i64 gr])]]) (6))
 (test (decide (aq + nq ≤ mq ∧ nq ≤ 1000000))
 (Kret (PV.int IntKind.i64 (S.cyE cn nq (fun j => tq (j + aq)) rp fl)) ([[(2, false, Blk.cols mq [Col.int IntKind.i64 tq]),
 (1, false, Blk.cols mo [Col.bool to]),
 (0, false,
 Blk.cols mr
 [Col.int IntKind.i64 tr, Col.int IntKind.i64 vr, Col.int IntKind.i64 gr])]]) (7))
 (False)))
 (False)
theorem te144 (test : Bool → Prop → Prop → Prop) (Kst : KS) (Kret : KR) (ar nr mr : Nat) (tr : Nat → Int) (vr : Nat → Int) (gr : Nat → Int) (ao no mo : Nat) (to : Nat → Bool) (cn : ByteArray) (aq nq mq : Nat) (tq : Nat → Int) (rp : Int) (fl : Int) : run test Try.env true (xT2 test) true 400 ⟨44, [.cd (mkFn Try.f44).body], argT 0 [.agg [.loose ⟨0, 3, ar, 0⟩ nr, .loose ⟨1, 1, ao, 0⟩ no], .agg [.str cn, .loose ⟨2, 1, aq, 0⟩ nq, .int .i64 rp, .int .i64 fl]], [[], [(0, (false, .cols mr [.int .i64 tr, .int .i64 vr, .int .i64 gr])), (1, (false, .cols mo [.bool to])), (2, (false, .cols mq [.int .i64 tq]))]], 3⟩ (proj 3 [] Kst Kret) =
  Te144 test Kst Kret ar nr mr tr vr gr ao no mo to cn aq nq mq tq rp fl := by kernel_rfl
theorem be144 (ar nr mr : Nat) (tr : Nat → Int) (vr : Nat → Int) (gr : Nat → Int) (ao no mo : Nat) (to : Nat → Bool) (cn : ByteArray) (aq nq mq : Nat) (tq : Nat → Int) (rp : Int) (fl : Int) (Kst : KS) (Kret : KR) (x : St144 ⊕ Rt144) (hS : HS 3 400 ((I144 ar nr mr tr vr gr ao no mo to cn aq nq mq tq rp fl)) Kst x) (hR : HR 3 400 ((V144 ar nr mr tr vr gr ao no mo to cn aq nq mq tq rp fl)) (fun r => [newL (3 + 1) ((N144 ar nr mr tr vr gr ao no mo to cn aq nq mq tq rp fl) r) ++ [(0, (false, .cols mr [.int .i64 tr, .int .i64 vr, .int .i64 gr])), (1, (false, .cols mo [.bool to])), (2, (false, .cols mq [.int .i64 tq]))]]) Kret x) (h : (bif (decide (ar + nr ≤ mr ∧ nr ≤ 1000000))
 then (bif (S.magE nr (fun j => tr (j + ar)) (fun j => vr (j + ar)) (fun j => gr (j + ar)) no !=
 (0 : Int))
 then (some (.inr (S.magE nr (fun j => tr (j + ar)) (fun j => vr (j + ar)) (fun j => gr (j + ar)) no)))
 else (bif (decide (aq + nq ≤ mq ∧ nq ≤ 1000000))
 then (some (.inr (S.cyE cn nq (fun j => tq (j + aq)) rp fl)))
 else (none)))
 else (none) : Option (St144 ⊕ Rt144)) = some x) : Te144 cond Kst Kret ar nr mr tr vr gr ao no mo to cn aq nq mq tq rp fl := by
  unfold Te144
  exact bif_split h
   (fun c0 h => bif_split h
   (fun c1 h => ret_at hR _ h (fun n => n) rfl rfl rfl (rn_int rfl) rfl (entl_bor (use_lo rfl) rfl rfl (entl_bor (use_lo rfl) rfl rfl (entl_bor (use_lo rfl) rfl rfl entl_nil))))
   (fun c1 h => bif_split h
   (fun c2 h => ret_at hR _ h (fun n => n) rfl rfl rfl (rn_int rfl) rfl (entl_bor (use_lo rfl) rfl rfl (entl_bor (use_lo rfl) rfl rfl (entl_bor (use_lo rfl) rfl rfl entl_nil))))
   (fun c2 h => no_some h)))
   (fun c0 h => no_some h)
theorem a144 (ar nr mr : Nat) (tr : Nat → Int) (vr : Nat → Int) (gr : Nat → Int) (ao no mo : Nat) (to : Nat → Bool) (cn : ByteArray) (aq nq mq : Nat) (tq : Nat → Int) (rp : Int) (fl : Int) {r : Rt144} (h : Goes ((q144 ar nr mr tr vr gr ao no mo to cn aq nq mq tq rp fl)) ((p144 ar nr mr tr vr gr ao no mo to cn aq nq mq tq rp fl)) r) : CallR Try.prog 44 [.agg [.loose ⟨0, 3, ar, 0⟩ nr, .loose ⟨1, 1, ao, 0⟩ no], .agg [.str cn, .loose ⟨2, 1, aq, 0⟩ nq, .int .i64 rp, .int .i64 fl]] [[(0, (false, .cols mr [.int .i64 tr, .int .i64 vr, .int .i64 gr])), (1, (false, .cols mo [.bool to])), (2, (false, .cols mq [.int .i64 tq]))]] 3 ((V144 ar nr mr tr vr gr ao no mo to cn aq nq mq tq rp fl) r) ((fun r => [newL (3 + 1) ((N144 ar nr mr tr vr gr ao no mo to cn aq nq mq tq rp fl) r) ++ [(0, (false, .cols mr [.int .i64 tr, .int .i64 vr, .int .i64 gr])), (1, (false, .cols mo [.bool to])), (2, (false, .cols mq [.int .i64 tq]))]]) r) 400 ∧ ∃ F, Try.prog.funcs[44]? = some F ∧ F.body.isSome = true ∧ (F.name == "runtime.NumGoroutine") = false := by
  refine dec_calls (f := 44) (lo := 3) (hi := 400) (H := [[(0, (false, .cols mr [.int .i64 tr, .int .i64 vr, .int .i64 gr])), (1, (false, .cols mo [.bool to])), (2, (false, .cols mq [.int .i64 tq]))]]) (args := [.agg [.loose ⟨0, 3, ar, 0⟩ nr, .loose ⟨1, 1, ao, 0⟩ no], .agg [.str cn, .loose ⟨2, 1, aq, 0⟩ nq, .int .i64 rp, .int .i64 fl]]) Try.envOk Try.mixed xT2_ok ((I144 ar nr mr tr vr gr ao no mo to cn aq nq mq tq rp fl)) ((V144 ar nr mr tr vr gr ao no mo to cn aq nq mq tq rp fl)) (fun r => [newL (3 + 1) ((N144 ar nr mr tr vr gr ao no mo to cn aq nq mq tq rp fl) r) ++ [(0, (false, .cols mr [.int .i64 tr, .int .i64 vr, .int .i64 gr])), (1, (false, .cols mo [.bool to])), (2, (false, .cols mq [.int .i64 tq]))]]) (fn := mkFn Try.f44) (ts := []) (n := 400) rfl (by decide) (by simp) (names_of rfl) ?_ ?_ ?_ h
  · intro s; exact s.elim
  · intro Kst Kret x hS hR h
    exact Holds.eq (te144 cond Kst Kret ar nr mr tr vr gr ao no mo to cn aq nq mq tq rp fl) (be144 ar nr mr tr vr gr ao no mo to cn aq nq mq tq rp fl Kst Kret x hS hR h)
  · intro Kst Kret x hS hR s h; exact s.elim
noncomputable def k144 : Con := ⟨44, [.agg [.list [.int .i64, .int .i64, .int .i64], .list [.bool]], .agg [.plain (.str), .list [.int .i64], .plain (.int .i64), .plain (.int .i64)]], fun (x : ((Nat × Nat × Nat × (Nat → Int) × (Nat → Int) × (Nat → Int) × Unit) × (Nat × Nat × Nat × (Nat → Bool) × Unit) × Unit) × (ByteArray × (Nat × Nat × Nat × (Nat → Int) × Unit) × Int × Int × Unit) × Unit) => (fun (ar nr mr : Nat) (tr : Nat → Int) (vr : Nat → Int) (gr : Nat → Int) (ao no mo : Nat) (to : Nat → Bool) (cn : ByteArray) (aq nq mq : Nat) (tq : Nat → Int) (rp : Int) (fl : Int) => decide ((ar + nr ≤ mr ∧ nr ≤ 1000000) ∧ (aq + nq ≤ mq ∧ nq ≤ 1000000))) x.1.1.1 x.1.1.2.1 x.1.1.2.2.1 x.1.1.2.2.2.1 x.1.1.2.2.2.2.1 x.1.1.2.2.2.2.2.1 x.1.2.1.1 x.1.2.1.2.1 x.1.2.1.2.2.1 x.1.2.1.2.2.2.1 x.2.1.1 x.2.1.2.1.1 x.2.1.2.1.2.1 x.2.1.2.1.2.2.1 x.2.1.2.1.2.2.2.1 x.2.1.2.2.1 x.2.1.2.2.2.1, fun (x : ((Nat × Nat × Nat × (Nat → Int) × (Nat → Int) × (Nat → Int) × Unit) × (Nat × Nat × Nat × (Nat → Bool) × Unit) × Unit) × (ByteArray × (Nat × Nat × Nat × (Nat → Int) × Unit) × Int × Int × Unit) × Unit) => (fun (ar nr mr : Nat) (tr : Nat → Int) (vr : Nat → Int) (gr : Nat → Int) (ao no mo : Nat) (to : Nat → Bool) (cn : ByteArray) (aq nq mq : Nat) (tq : Nat → Int) (rp : Int) (fl : Int) => (V144 ar nr mr tr vr gr ao no mo to cn aq nq mq tq rp fl) (S.botE (S.magE nr (fun j => tr (j + ar)) (fun j => vr (j + ar)) (fun j => gr (j + ar)) no) (S.cyE cn nq (fun j => tq (j + aq)) rp fl))) x.1.1.1 x.1.1.2.1 x.1.1.2.2.1 x.1.1.2.2.2.1 x.1.1.2.2.2.2.1 x.1.1.2.2.2.2.2.1 x.1.2.1.1 x.1.2.1.2.1 x.1.2.1.2.2.1 x.1.2.1.2.2.2.1 x.2.1.1 x.2.1.2.1.1 x.2.1.2.1.2.1 x.2.1.2.1.2.2.1 x.2.1.2.1.2.2.2.1 x.2.1.2.2.1 x.2.1.2.2.2.1, fun (x : ((Nat × Nat × Nat × (Nat → Int) × (Nat → Int) × (Nat → Int) × Unit) × (Nat × Nat × Nat × (Nat → Bool) × Unit) × Unit) × (ByteArray × (Nat × Nat × Nat × (Nat → Int) × Unit) × Int × Int × Unit) × Unit) => (fun (ar nr mr : Nat) (tr : Nat → Int) (vr : Nat → Int) (gr : Nat → Int) (ao no mo : Nat) (to : Nat → Bool) (cn : ByteArray) (aq nq mq : Nat) (tq : Nat → Int) (rp : Int) (fl : Int) => (N144 ar nr mr tr vr gr ao no mo to cn aq nq mq tq rp fl) (S.botE (S.magE nr (fun j => tr (j + ar)) (fun j => vr (j + ar)) (fun j => gr (j + ar)) no) (S.cyE cn nq (fun j => tq (j + aq)) rp fl))) x.1.1.1 x.1.1.2.1 x.1.1.2.2.1 x.1.1.2.2.2.1 x.1.1.2.2.2.2.1 x.1.1.2.2.2.2.2.1 x.1.2.1.1 x.1.2.1.2.1 x.1.2.1.2.2.1 x.1.2.1.2.2.2.1 x.2.1.1 x.2.1.2.1.1 x.2.1.2.1.2.1 x.2.1.2.1.2.2.1 x.2.1.2.1.2.2.2.1 x.2.1.2.2.1 x.2.1.2.2.2.1, fun _ _ => .dead⟩
theorem s144 (ar nr mr : Nat) (tr : Nat → Int) (vr : Nat → Int) (gr : Nat → Int) (ao no mo : Nat) (to : Nat → Bool) (cn : ByteArray) (aq nq mq : Nat) (tq : Nat → Int) (rp : Int) (fl : Int) (hp : (ar + nr ≤ mr ∧ nr ≤ 1000000) ∧ (aq + nq ≤ mq ∧ nq ≤ 1000000)) : Goes ((q144 ar nr mr tr vr gr ao no mo to cn aq nq mq tq rp fl)) ((p144 ar nr mr tr vr gr ao no mo to cn aq nq mq tq rp fl)) (S.botE (S.magE nr (fun j => tr (j + ar)) (fun j => vr (j + ar)) (fun j => gr (j + ar)) no) (S.cyE cn nq (fun j => tq (j + aq)) rp fl)) := by
  obtain ⟨⟨hp1, hp2⟩, hp3, hp4⟩ := hp
  unfold S.botE p144
  generalize (S.magE nr (fun j => tr (j + ar)) (fun j => vr (j + ar)) (fun j => gr (j + ar)) no) = e at *
  show Goes _ _ _
  repeat' first
    | with_reducible refine goes_if (fun h => ?_) (fun h => ?_) <;> (try simp only [lim64, imp_false, decide_eq_true_eq, decide_eq_false_iff_not, Int.toNat_natCast, toNat_pred, toNat_succ, Option.getD_some, Option.getD_none, Bool.not_eq_true', Bool.not_eq_false', Bool.and_eq_true, Bool.or_eq_true, Bool.and_eq_false_iff, Bool.or_eq_false_iff, bne_iff_ne, beq_iff_eq, bne_eq_false_iff_eq, beq_eq_false_iff_ne, ne_eq, not_and, Int.not_le, Int.not_lt, ge_iff_le, gt_iff_lt, Nat.not_lt, Nat.not_le, Bool.not_eq_true, Bool.not_eq_false, Bool.true_eq_false, Bool.false_eq_true, not_false_eq_true, not_true_eq_false] at h)
    | exact goes_none.mpr (by omega)
  all_goals first | (exfalso; omega) | (rw [if_pos (by omega)]; exact goes_inr.mpr rfl) | (rw [if_neg (by omega)]; exact goes_inr.mpr rfl)
theorem k144_ok : k144.ok Try.prog := by
  intro x hx
  obtain ⟨⟨⟨ar, nr, mr, tr, vr, gr, _⟩, ⟨ao, no, mo, to, _⟩, _⟩, ⟨cn, ⟨aq, nq, mq, tq, _⟩, rp, fl, _⟩, _⟩ := x
  obtain ⟨h1, h2⟩ := a144 ar nr mr tr vr gr ao no mo to cn aq nq mq tq rp fl (s144 ar nr mr tr vr gr ao no mo to cn aq nq mq tq rp fl (of_dec hx rfl))
  exact ⟨⟨400, (by decide : 3 + 1 + 0 ≤ 400), h1⟩, h2⟩
abbrev St120 := Empty
abbrev Rt120 := Bool × Int
noncomputable def V120 (ar nr mr : Nat) (tr : Nat → Int) (vr : Nat → Int) (gr : Nat → Int) (ao no mo : Nat) (to : Nat → Bool) (cn : ByteArray) (aq nq mq : Nat) (tq : Nat → Int) (rp : Int) (fl : Int) (r : Rt120) : PV := PV.tup [PV.bool r.1, PV.int IntKind.i64 r.2]
noncomputable def N120 (ar nr mr : Nat) (tr : Nat → Int) (vr : Nat → Int) (gr : Nat → Int) (ao no mo : Nat) (to : Nat → Bool) (cn : ByteArray) (aq nq mq : Nat) (tq : Nat → Int) (rp : Int) (fl : Int) (r : Rt120) : List Blk := []
noncomputable def I120 (ar nr mr : Nat) (tr : Nat → Int) (vr : Nat → Int) (gr : Nat → Int) (ao no mo : Nat) (to : Nat → Bool) (cn : ByteArray) (aq nq mq : Nat) (tq : Nat → Int) (rp : Int) (fl : Int) : St120 → Hd := fun s => s.elim
noncomputable def q120 (ar nr mr : Nat) (tr : Nat → Int) (vr : Nat → Int) (gr : Nat → Int) (ao no mo : Nat) (to : Nat → Bool) (cn : ByteArray) (aq nq mq : Nat) (tq : Nat → Int) (rp : Int) (fl : Int) : St120 → Option (St120 ⊕ Rt120) := fun s => s.elim
noncomputable def p120 (ar nr mr : Nat) (tr : Nat → Int) (vr : Nat → Int) (gr : Nat → Int) (ao no mo : Nat) (to : Nat → Bool) (cn : ByteArray) (aq nq mq : Nat) (tq : Nat → Int) (rp : Int) (fl : Int) : Option (St120 ⊕ Rt120) := bif (decide (ar + nr ≤ mr ∧ nr ≤ 1000000))
 then (bif (S.magE nr (fun j => tr (j + ar)) (fun j => vr (j + ar)) (fun j => gr (j + ar)) no !=
 (0 : Int))
 then (some (.inr (false, S.magE nr (fun j => tr (j + ar)) (fun j => vr (j + ar)) (fun j => gr (j + ar)) no)))
 else (bif (decide (aq + nq ≤ mq ∧ nq ≤ 1000000))
 then (bif (S.cyE cn nq (fun j => tq (j + aq)) rp fl != (0 : Int))
 then (some (.inr (false, S.cyE cn nq (fun j => tq (j + aq)) rp fl)))
 else (bif (decide (aq + nq ≤ mq ∧ nq ≤ 20 ∧ (0 : Int) ≤ rp ∧ rp ≤ (9 : Int)))
 then (bif (decide
 (ar + nr ≤ mr ∧
 nr ≤ 1000000 ∧
 ao + no ≤ mo ∧
 no ≤ 1000000 ∧
 0 + List.length (S.stpL nq (fun j => tq (j + aq)) rp fl) ≤
 List.length (S.stpL nq (fun j => tq (j + aq)) rp fl) ∧
 List.length (S.stpL nq (fun j => tq (j + aq)) rp fl) ≤ 1000000))
 then (bif (Prod.fst
 (S.erS nr (fun j => tr (j + ar)) (fun j => vr (j + ar)) (fun j => gr (j + ar)) no
 (List.length (S.stpL nq (fun j => tq (j + aq)) rp fl)) fun j =>
 S.at' (S.stpL nq (fun j => tq (j + aq)) rp fl) j))
 then (some (.inr (true, Prod.snd
 (S.erS nr (fun j => tr (j + ar)) (fun j => vr (j + ar)) (fun j => gr (j + ar)) no
 (List.length (S.stpL nq (fun j => tq (j + aq)) rp fl)) fun j =>
 S.at' (S.stpL nq (fun j => tq (j + aq)) rp fl) j))))
 else (some (.inr (false, Prod.snd
 (S.erS nr (fun j => tr (j + ar)) (fun j => vr (j + ar)) (fun j => gr (j + ar)) no
 (List.length (S.stpL nq (fun j => tq (j + aq)) rp fl)) fun j =>
 S.at' (S.stpL nq (fun j => tq (j + aq)) rp fl) j)))))
 else (none))
 else (none)))
 else (none)))
 else (none)
noncomputable def Te120 (test : Bool → Prop → Prop → Prop) (Kst : KS) (Kret : KR) (ar nr mr : Nat) (tr : Nat → Int) (vr : Nat → Int) (gr : Nat → Int) (ao no mo : Nat) (to : Nat → Bool) (cn : ByteArray) (aq nq mq : Nat) (tq : Nat → Int) (rp : Int) (fl : Int) : Prop :=
  test (decide (ar + nr ≤ mr ∧ nr ≤ 1000000))
 (test (S.magE nr (fun j => tr (j + ar)) (fun j => vr (j + ar)) (fun j => gr (j + ar)) no !=
 (0 : Int))
 (test (S.magE nr (fun j => tr (j + ar)) (fun j => vr (j + ar)) (fun j => gr (j + ar)) no !=
 (0 : Int))
 (Kret (PV.tup
 [PV.tf false,
 PV.int IntKind.i64
 (S.magE nr (fun j => tr (j + ar)) (fun j => vr (j + ar)) (fun j => gr (j + ar)) no)]) ([[(2, false, Blk.cols mq [Col.int IntKind.i64 tq]),
 (1, false, Blk.cols mo [Col.bool to]),
 (0, false,
 Blk.cols mr
 [Col.int IntKind.i64 tr, Col.int IntKind.i64 vr, Col.int IntKind.i64 gr])]]) (8))
 (test (decide (aq + nq ≤ mq ∧ nq ≤ 20 ∧ (0 : Int) ≤ rp ∧ rp ≤ (9 : Int)))
 (test (decide
 (ar + nr ≤ mr ∧
 nr ≤ 1000000 ∧
 ao + no ≤ mo ∧
 no ≤ 1000000 ∧
 0 + List.length (S.stpL nq (fun j => tq (j + aq)) rp fl) ≤
 List.length (S.stpL nq (fun j => tq (j + aq)) rp fl) ∧
 List.length (S.stpL nq (fun j => tq (j + aq)) rp fl) ≤ 1000000))
 (test (Prod.fst
 (S.erS nr (fun j => tr (j + ar)) (fun j => vr (j + ar)) (fun j => gr (j + ar)) no
 (List.length (S.stpL nq (fun j => tq (j + aq)) rp fl)) fun j =>
 S.at' (S.stpL nq (fun j => tq (j + aq)) rp fl) j))
 (Kret (PV.tup
 [PV.tf true,
 PV.int IntKind.i64
 (Prod.snd
 (S.erS nr (fun j => tr (j + ar)) (fun j => vr (j + ar)) (fun j => gr (j + ar)) no
 (List.length (S.stpL nq (fun j => tq (j + aq)) rp fl)) fun j =>
 S.at' (S.stpL nq (fun j => tq (j + aq)) rp fl) j))]) ([[(2, false, Blk.cols mq [Col.int IntKind.i64 tq]),
 (1, false, Blk.cols mo [Col.bool to]),
 (0, false,
 Blk.cols mr
 [Col.int IntKind.i64 tr, Col.int IntKind.i64 vr, Col.int IntKind.i64 gr])]]) (11))
 (Kret (PV.tup
 [PV.tf false,
 PV.int IntKind.i64
 (Prod.snd
 (S.erS nr (fun j => tr (j + ar)) (fun j => vr (j + ar)) (fun j => gr (j + ar)) no
 (List.length (S.stpL nq (fun j => tq (j + aq)) rp fl)) fun j =>
 S.at' (S.stpL nq (fun j => tq (j + aq)) rp fl) j))]) ([[(2, false, Blk.cols mq [Col.int IntKind.i64 tq]),
 (1, false, Blk.cols mo [Col.bool to]),
 (0, false,
 Blk.cols mr
 [Col.int IntKind.i64 tr, Col.int IntKind.i64 vr, Col.int IntKind.i64 gr])]]) (11)))
 (False))
 (False)))
 (test (decide (aq + nq ≤ mq ∧ nq ≤ 1000000))
 (test (S.cyE cn nq (fun j => tq (j + aq)) rp fl != (0 : Int))
 (Kret (PV.tup
 [PV.tf false, PV.int IntKind.i64 (S.cyE cn nq (fun j => tq (j + aq)) rp fl)]) ([[(2, false, Blk.cols mq [Col.int IntKind.i64 tq]),
 (1, false, Blk.cols mo [Col.bool to]),
 (0, false,
 Blk.cols mr
 [Col.int IntKind.i64 tr, Col.int IntKind.i64 vr, Col.int IntKind.i64 gr])]]) (9))
 (test (decide (aq + nq ≤ mq ∧ nq ≤ 20 ∧ (0 : Int) ≤ rp ∧ rp ≤ (9 : Int)))
 (test (decide
 (ar + nr ≤ mr ∧
 nr ≤ 1000000 ∧
 ao + no ≤ mo ∧
 no ≤ 1000000 ∧
 0 + List.length (S.stpL nq (fun j => tq (j + aq)) rp fl) ≤
 List.length (S.stpL nq (fun j => tq (j + aq)) rp fl) ∧
 List.length (S.stpL nq (fun j => tq (j + aq)) rp fl) ≤ 1000000))
 (test (Prod.fst
 (S.erS nr (fun j => tr (j + ar)) (fun j => vr (j + ar)) (fun j => gr (j + ar)) no
 (List.length (S.stpL nq (fun j => tq (j + aq)) rp fl)) fun j =>
 S.at' (S.stpL nq (fun j => tq (j + aq)) rp fl) j))
 (Kret (PV.tup
 [PV.tf true,
 PV.int IntKind.i64
 (Prod.snd
 (S.erS nr (fun j => tr (j + ar)) (fun j => vr (j + ar)) (fun j => gr (j + ar)) no
 (List.length (S.stpL nq (fun j => tq (j + aq)) rp fl)) fun j =>
 S.at' (S.stpL nq (fun j => tq (j + aq)) rp fl) j))]) ([[(2, false, Blk.cols mq [Col.int IntKind.i64 tq]),
 (1, false, Blk.cols mo [Col.bool to]),
 (0, false,
 Blk.cols mr
 [Col.int IntKind.i64 tr, Col.int IntKind.i64 vr, Col.int IntKind.i64 gr])]]) (12))
 (Kret (PV.tup
 [PV.tf false,
 PV.int IntKind.i64
 (Prod.snd
 (S.erS nr (fun j => tr (j + ar)) (fun j => vr (j + ar)) (fun j => gr (j + ar)) no
 (List.length (S.stpL nq (fun j => tq (j + aq)) rp fl)) fun j =>
 S.at' (S.stpL nq (fun j => tq (j + aq)) rp fl) j))]) ([[(2, false, Blk.cols mq [Col.int IntKind.i64 tq]),
 (1, false, Blk.cols mo [Col.bool to]),
 (0, false,
 Blk.cols mr
 [Col.int IntKind.i64 tr, Col.int IntKind.i64 vr, Col.int IntKind.i64 gr])]]) (12)))
 (False))
 (False)))
 (False)))
 (False)
theorem te120 (test : Bool → Prop → Prop → Prop) (Kst : KS) (Kret : KR) (ar nr mr : Nat) (tr : Nat → Int) (vr : Nat → Int) (gr : Nat → Int) (ao no mo : Nat) (to : Nat → Bool) (cn : ByteArray) (aq nq mq : Nat) (tq : Nat → Int) (rp : Int) (fl : Int) : run test Try.env true (xT2 test) true 400 ⟨20, [.cd (mkFn Try.f20).body], argT 0 [.agg [.loose ⟨0, 3, ar, 0⟩ nr, .loose ⟨1, 1, ao, 0⟩ no], .agg [.str cn, .loose ⟨2, 1, aq, 0⟩ nq, .int .i64 rp, .int .i64 fl]], [[], [(0, (false, .cols mr [.int .i64 tr, .int .i64 vr, .int .i64 gr])), (1, (false, .cols mo [.bool to])), (2, (false, .cols mq [.int .i64 tq]))]], 3⟩ (proj 3 [] Kst Kret) =
  Te120 test Kst Kret ar nr mr tr vr gr ao no mo to cn aq nq mq tq rp fl := by kernel_rfl
theorem be120 (ar nr mr : Nat) (tr : Nat → Int) (vr : Nat → Int) (gr : Nat → Int) (ao no mo : Nat) (to : Nat → Bool) (cn : ByteArray) (aq nq mq : Nat) (tq : Nat → Int) (rp : Int) (fl : Int) (Kst : KS) (Kret : KR) (x : St120 ⊕ Rt120) (hS : HS 3 400 ((I120 ar nr mr tr vr gr ao no mo to cn aq nq mq tq rp fl)) Kst x) (hR : HR 3 400 ((V120 ar nr mr tr vr gr ao no mo to cn aq nq mq tq rp fl)) (fun r => [newL (3 + 1) ((N120 ar nr mr tr vr gr ao no mo to cn aq nq mq tq rp fl) r) ++ [(0, (false, .cols mr [.int .i64 tr, .int .i64 vr, .int .i64 gr])), (1, (false, .cols mo [.bool to])), (2, (false, .cols mq [.int .i64 tq]))]]) Kret x) (h : (bif (decide (ar + nr ≤ mr ∧ nr ≤ 1000000))
 then (bif (S.magE nr (fun j => tr (j + ar)) (fun j => vr (j + ar)) (fun j => gr (j + ar)) no !=
 (0 : Int))
 then (some (.inr (false, S.magE nr (fun j => tr (j + ar)) (fun j => vr (j + ar)) (fun j => gr (j + ar)) no)))
 else (bif (decide (aq + nq ≤ mq ∧ nq ≤ 1000000))
 then (bif (S.cyE cn nq (fun j => tq (j + aq)) rp fl != (0 : Int))
 then (some (.inr (false, S.cyE cn nq (fun j => tq (j + aq)) rp fl)))
 else (bif (decide (aq + nq ≤ mq ∧ nq ≤ 20 ∧ (0 : Int) ≤ rp ∧ rp ≤ (9 : Int)))
 then (bif (decide
 (ar + nr ≤ mr ∧
 nr ≤ 1000000 ∧
 ao + no ≤ mo ∧
 no ≤ 1000000 ∧
 0 + List.length (S.stpL nq (fun j => tq (j + aq)) rp fl) ≤
 List.length (S.stpL nq (fun j => tq (j + aq)) rp fl) ∧
 List.length (S.stpL nq (fun j => tq (j + aq)) rp fl) ≤ 1000000))
 then (bif (Prod.fst
 (S.erS nr (fun j => tr (j + ar)) (fun j => vr (j + ar)) (fun j => gr (j + ar)) no
 (List.length (S.stpL nq (fun j => tq (j + aq)) rp fl)) fun j =>
 S.at' (S.stpL nq (fun j => tq (j + aq)) rp fl) j))
 then (some (.inr (true, Prod.snd
 (S.erS nr (fun j => tr (j + ar)) (fun j => vr (j + ar)) (fun j => gr (j + ar)) no
 (List.length (S.stpL nq (fun j => tq (j + aq)) rp fl)) fun j =>
 S.at' (S.stpL nq (fun j => tq (j + aq)) rp fl) j))))
 else (some (.inr (false, Prod.snd
 (S.erS nr (fun j => tr (j + ar)) (fun j => vr (j + ar)) (fun j => gr (j + ar)) no
 (List.length (S.stpL nq (fun j => tq (j + aq)) rp fl)) fun j =>
 S.at' (S.stpL nq (fun j => tq (j + aq)) rp fl) j)))))
 else (none))
 else (none)))
 else (none)))
 else (none) : Option (St120 ⊕ Rt120)) = some x) : Te120 cond Kst Kret ar nr mr tr vr gr ao no mo to cn aq nq mq tq rp fl := by
  unfold Te120
  exact bif_split h
   (fun c0 h => bif_split h
   (fun c1 h => cond_yes c1 (ret_at hR _ h (fun n => n) rfl rfl rfl (rn_tup ⟨(rn_bool_tf rfl), (rn_int rfl), trivial⟩) rfl (entl_bor (use_lo rfl) rfl rfl (entl_bor (use_lo rfl) rfl rfl (entl_bor (use_lo rfl) rfl rfl entl_nil)))))
   (fun c1 h => bif_split h
   (fun c2 h => bif_split h
   (fun c3 h => ret_at hR _ h (fun n => n) rfl rfl rfl (rn_tup ⟨(rn_bool_tf rfl), (rn_int rfl), trivial⟩) rfl (entl_bor (use_lo rfl) rfl rfl (entl_bor (use_lo rfl) rfl rfl (entl_bor (use_lo rfl) rfl rfl entl_nil))))
   (fun c3 h => bif_split h
   (fun c4 h => bif_split h
   (fun c5 h => bif_split h
   (fun c6 h => ret_at hR _ h (fun n => n) rfl rfl rfl (rn_tup ⟨(rn_bool_tf rfl), (rn_int rfl), trivial⟩) rfl (entl_bor (use_lo rfl) rfl rfl (entl_bor (use_lo rfl) rfl rfl (entl_bor (use_lo rfl) rfl rfl entl_nil))))
   (fun c6 h => ret_at hR _ h (fun n => n) rfl rfl rfl (rn_tup ⟨(rn_bool_tf rfl), (rn_int rfl), trivial⟩) rfl (entl_bor (use_lo rfl) rfl rfl (entl_bor (use_lo rfl) rfl rfl (entl_bor (use_lo rfl) rfl rfl entl_nil)))))
   (fun c5 h => no_some h))
   (fun c4 h => no_some h)))
   (fun c2 h => no_some h)))
   (fun c0 h => no_some h)
theorem a120 (ar nr mr : Nat) (tr : Nat → Int) (vr : Nat → Int) (gr : Nat → Int) (ao no mo : Nat) (to : Nat → Bool) (cn : ByteArray) (aq nq mq : Nat) (tq : Nat → Int) (rp : Int) (fl : Int) {r : Rt120} (h : Goes ((q120 ar nr mr tr vr gr ao no mo to cn aq nq mq tq rp fl)) ((p120 ar nr mr tr vr gr ao no mo to cn aq nq mq tq rp fl)) r) : CallR Try.prog 20 [.agg [.loose ⟨0, 3, ar, 0⟩ nr, .loose ⟨1, 1, ao, 0⟩ no], .agg [.str cn, .loose ⟨2, 1, aq, 0⟩ nq, .int .i64 rp, .int .i64 fl]] [[(0, (false, .cols mr [.int .i64 tr, .int .i64 vr, .int .i64 gr])), (1, (false, .cols mo [.bool to])), (2, (false, .cols mq [.int .i64 tq]))]] 3 ((V120 ar nr mr tr vr gr ao no mo to cn aq nq mq tq rp fl) r) ((fun r => [newL (3 + 1) ((N120 ar nr mr tr vr gr ao no mo to cn aq nq mq tq rp fl) r) ++ [(0, (false, .cols mr [.int .i64 tr, .int .i64 vr, .int .i64 gr])), (1, (false, .cols mo [.bool to])), (2, (false, .cols mq [.int .i64 tq]))]]) r) 400 ∧ ∃ F, Try.prog.funcs[20]? = some F ∧ F.body.isSome = true ∧ (F.name == "runtime.NumGoroutine") = false := by
  refine dec_calls (f := 20) (lo := 3) (hi := 400) (H := [[(0, (false, .cols mr [.int .i64 tr, .int .i64 vr, .int .i64 gr])), (1, (false, .cols mo [.bool to])), (2, (false, .cols mq [.int .i64 tq]))]]) (args := [.agg [.loose ⟨0, 3, ar, 0⟩ nr, .loose ⟨1, 1, ao, 0⟩ no], .agg [.str cn, .loose ⟨2, 1, aq, 0⟩ nq, .int .i64 rp, .int .i64 fl]]) Try.envOk Try.mixed xT2_ok ((I120 ar nr mr tr vr gr ao no mo to cn aq nq mq tq rp fl)) ((V120 ar nr mr tr vr gr ao no mo to cn aq nq mq tq rp fl)) (fun r => [newL (3 + 1) ((N120 ar nr mr tr vr gr ao no mo to cn aq nq mq tq rp fl) r) ++ [(0, (false, .cols mr [.int .i64 tr, .int .i64 vr, .int .i64 gr])), (1, (false, .cols mo [.bool to])), (2, (false, .cols mq [.int .i64 tq]))]]) (fn := mkFn Try.f20) (ts := []) (n := 400) rfl (by decide) (by simp) (names_of rfl) ?_ ?_ ?_ h
  · intro s; exact s.elim
  · intro Kst Kret x hS hR h
    exact Holds.eq (te120 cond Kst Kret ar nr mr tr vr gr ao no mo to cn aq nq mq tq rp fl) (be120 ar nr mr tr vr gr ao no mo to cn aq nq mq tq rp fl Kst Kret x hS hR h)
  · intro Kst Kret x hS hR s h; exact s.elim
noncomputable def k120 : Con := ⟨20, [.agg [.list [.int .i64, .int .i64, .int .i64], .list [.bool]], .agg [.plain (.str), .list [.int .i64], .plain (.int .i64), .plain (.int .i64)]], fun (x : ((Nat × Nat × Nat × (Nat → Int) × (Nat → Int) × (Nat → Int) × Unit) × (Nat × Nat × Nat × (Nat → Bool) × Unit) × Unit) × (ByteArray × (Nat × Nat × Nat × (Nat → Int) × Unit) × Int × Int × Unit) × Unit) => (fun (ar nr mr : Nat) (tr : Nat → Int) (vr : Nat → Int) (gr : Nat → Int) (ao no mo : Nat) (to : Nat → Bool) (cn : ByteArray) (aq nq mq : Nat) (tq : Nat → Int) (rp : Int) (fl : Int) => decide ((ar + nr ≤ mr ∧ nr ≤ 1000000) ∧ (ao + no ≤ mo ∧ no ≤ 1000000) ∧ (aq + nq ≤ mq ∧ nq ≤ 1000000))) x.1.1.1 x.1.1.2.1 x.1.1.2.2.1 x.1.1.2.2.2.1 x.1.1.2.2.2.2.1 x.1.1.2.2.2.2.2.1 x.1.2.1.1 x.1.2.1.2.1 x.1.2.1.2.2.1 x.1.2.1.2.2.2.1 x.2.1.1 x.2.1.2.1.1 x.2.1.2.1.2.1 x.2.1.2.1.2.2.1 x.2.1.2.1.2.2.2.1 x.2.1.2.2.1 x.2.1.2.2.2.1, fun (x : ((Nat × Nat × Nat × (Nat → Int) × (Nat → Int) × (Nat → Int) × Unit) × (Nat × Nat × Nat × (Nat → Bool) × Unit) × Unit) × (ByteArray × (Nat × Nat × Nat × (Nat → Int) × Unit) × Int × Int × Unit) × Unit) => (fun (ar nr mr : Nat) (tr : Nat → Int) (vr : Nat → Int) (gr : Nat → Int) (ao no mo : Nat) (to : Nat → Bool) (cn : ByteArray) (aq nq mq : Nat) (tq : Nat → Int) (rp : Int) (fl : Int) => (V120 ar nr mr tr vr gr ao no mo to cn aq nq mq tq rp fl) (S.suiS (S.botE (S.magE nr (fun j => tr (j + ar)) (fun j => vr (j + ar)) (fun j => gr (j + ar)) no) (S.cyE cn nq (fun j => tq (j + aq)) rp fl)) (S.erB (fun j => tr (j + ar)) (fun j => vr (j + ar)) (S.stpL nq (fun j => tq (j + aq)) rp fl).length (fun j => S.at' (S.stpL nq (fun j => tq (j + aq)) rp fl) j) 0 nr))) x.1.1.1 x.1.1.2.1 x.1.1.2.2.1 x.1.1.2.2.2.1 x.1.1.2.2.2.2.1 x.1.1.2.2.2.2.2.1 x.1.2.1.1 x.1.2.1.2.1 x.1.2.1.2.2.1 x.1.2.1.2.2.2.1 x.2.1.1 x.2.1.2.1.1 x.2.1.2.1.2.1 x.2.1.2.1.2.2.1 x.2.1.2.1.2.2.2.1 x.2.1.2.2.1 x.2.1.2.2.2.1, fun (x : ((Nat × Nat × Nat × (Nat → Int) × (Nat → Int) × (Nat → Int) × Unit) × (Nat × Nat × Nat × (Nat → Bool) × Unit) × Unit) × (ByteArray × (Nat × Nat × Nat × (Nat → Int) × Unit) × Int × Int × Unit) × Unit) => (fun (ar nr mr : Nat) (tr : Nat → Int) (vr : Nat → Int) (gr : Nat → Int) (ao no mo : Nat) (to : Nat → Bool) (cn : ByteArray) (aq nq mq : Nat) (tq : Nat → Int) (rp : Int) (fl : Int) => (N120 ar nr mr tr vr gr ao no mo to cn aq nq mq tq rp fl) (S.suiS (S.botE (S.magE nr (fun j => tr (j + ar)) (fun j => vr (j + ar)) (fun j => gr (j + ar)) no) (S.cyE cn nq (fun j => tq (j + aq)) rp fl)) (S.erB (fun j => tr (j + ar)) (fun j => vr (j + ar)) (S.stpL nq (fun j => tq (j + aq)) rp fl).length (fun j => S.at' (S.stpL nq (fun j => tq (j + aq)) rp fl) j) 0 nr))) x.1.1.1 x.1.1.2.1 x.1.1.2.2.1 x.1.1.2.2.2.1 x.1.1.2.2.2.2.1 x.1.1.2.2.2.2.2.1 x.1.2.1.1 x.1.2.1.2.1 x.1.2.1.2.2.1 x.1.2.1.2.2.2.1 x.2.1.1 x.2.1.2.1.1 x.2.1.2.1.2.1 x.2.1.2.1.2.2.1 x.2.1.2.1.2.2.2.1 x.2.1.2.2.1 x.2.1.2.2.2.1, fun _ _ => .dead⟩
theorem s120 (ar nr mr : Nat) (tr : Nat → Int) (vr : Nat → Int) (gr : Nat → Int) (ao no mo : Nat) (to : Nat → Bool) (cn : ByteArray) (aq nq mq : Nat) (tq : Nat → Int) (rp : Int) (fl : Int) (hp : (ar + nr ≤ mr ∧ nr ≤ 1000000) ∧ (ao + no ≤ mo ∧ no ≤ 1000000) ∧ (aq + nq ≤ mq ∧ nq ≤ 1000000)) : Goes ((q120 ar nr mr tr vr gr ao no mo to cn aq nq mq tq rp fl)) ((p120 ar nr mr tr vr gr ao no mo to cn aq nq mq tq rp fl)) (S.suiS (S.botE (S.magE nr (fun j => tr (j + ar)) (fun j => vr (j + ar)) (fun j => gr (j + ar)) no) (S.cyE cn nq (fun j => tq (j + aq)) rp fl)) (S.erB (fun j => tr (j + ar)) (fun j => vr (j + ar)) (S.stpL nq (fun j => tq (j + aq)) rp fl).length (fun j => S.at' (S.stpL nq (fun j => tq (j + aq)) rp fl) j) 0 nr)) := by
  obtain ⟨⟨hp1, hp2⟩, ⟨hp5, hp6⟩, hp3, hp4⟩ := hp
  have hc : (S.cyE cn nq (fun j => tq (j + aq)) rp fl) = 0 → (nq ≤ 20 ∧ 0 ≤ rp ∧ rp ≤ 9) ∧ (S.stpL nq (fun j => tq (j + aq)) rp fl).length ≤ 181 := fun h => by have := cy_ok h; have := stp_in h; omega
  unfold S.suiS S.botE
  by_cases hm : (S.magE nr (fun j => tr (j + ar)) (fun j => vr (j + ar)) (fun j => gr (j + ar)) no) = 0
  · by_cases hy : (S.cyE cn nq (fun j => tq (j + aq)) rp fl) = 0
    · have hst := stp_in hy
      have he : S.erS nr (fun j => tr (j + ar)) (fun j => vr (j + ar)) (fun j => gr (j + ar)) no (S.stpL nq (fun j => tq (j + aq)) rp fl).length (fun j => S.at' (S.stpL nq (fun j => tq (j + aq)) rp fl) j) = (S.erB (fun j => tr (j + ar)) (fun j => vr (j + ar)) (S.stpL nq (fun j => tq (j + aq)) rp fl).length (fun j => S.at' (S.stpL nq (fun j => tq (j + aq)) rp fl) j) 0 nr, 0) := er_in hm (by omega) hst.2.2
      have hc := hc hy
      rw [if_pos hm, if_pos hy]
      unfold p120
      simp only [hm, hy, he]
      clear he
      generalize S.erB (fun j => tr (j + ar)) (fun j => vr (j + ar)) (S.stpL nq (fun j => tq (j + aq)) rp fl).length (fun j => S.at' (S.stpL nq (fun j => tq (j + aq)) rp fl) j) 0 nr = A at *
      generalize (S.stpL nq (fun j => tq (j + aq)) rp fl) = L at *
      cases A
      all_goals
       show Goes _ _ _
       repeat' first
        | with_reducible refine goes_if (fun h => ?_) (fun h => ?_) <;> (try simp only [lim64, imp_false, decide_eq_true_eq, decide_eq_false_iff_not, Int.toNat_natCast, toNat_pred, toNat_succ, Option.getD_some, Option.getD_none, Bool.not_eq_true', Bool.not_eq_false', Bool.and_eq_true, Bool.or_eq_true, Bool.and_eq_false_iff, Bool.or_eq_false_iff, bne_iff_ne, beq_iff_eq, bne_eq_false_iff_eq, beq_eq_false_iff_ne, ne_eq, not_and, Int.not_le, Int.not_lt, ge_iff_le, gt_iff_lt, Nat.not_lt, Nat.not_le, Bool.not_eq_true, Bool.not_eq_false, Bool.true_eq_false, Bool.false_eq_true, not_false_eq_true, not_true_eq_false] at h)
        | exact goes_none.mpr (by omega)
       all_goals first | (exfalso; omega) | exact goes_inr.mpr rfl | (exfalso; simp_all; done)
    · rw [if_pos hm, if_neg hy]
      unfold p120
      simp only [hm]
      generalize (S.cyE cn nq (fun j => tq (j + aq)) rp fl) = e at *
      show Goes _ _ _
      repeat' first
        | with_reducible refine goes_if (fun h => ?_) (fun h => ?_) <;> (try simp only [lim64, imp_false, decide_eq_true_eq, decide_eq_false_iff_not, Int.toNat_natCast, toNat_pred, toNat_succ, Option.getD_some, Option.getD_none, Bool.not_eq_true', Bool.not_eq_false', Bool.and_eq_true, Bool.or_eq_true, Bool.and_eq_false_iff, Bool.or_eq_false_iff, bne_iff_ne, beq_iff_eq, bne_eq_false_iff_eq, beq_eq_false_iff_ne, ne_eq, not_and, Int.not_le, Int.not_lt, ge_iff_le, gt_iff_lt, Nat.not_lt, Nat.not_le, Bool.not_eq_true, Bool.not_eq_false, Bool.true_eq_false, Bool.false_eq_true, not_false_eq_true, not_true_eq_false] at h)
        | exact goes_none.mpr (by omega)
      all_goals first | (exfalso; omega) | exact goes_inr.mpr rfl | (exfalso; simp_all; done)
  · rw [if_neg hm, if_neg hm]
    unfold p120
    generalize (S.magE nr (fun j => tr (j + ar)) (fun j => vr (j + ar)) (fun j => gr (j + ar)) no) = e at *
    show Goes _ _ _
    repeat' first
      | with_reducible refine goes_if (fun h => ?_) (fun h => ?_) <;> (try simp only [lim64, imp_false, decide_eq_true_eq, decide_eq_false_iff_not, Int.toNat_natCast, toNat_pred, toNat_succ, Option.getD_some, Option.getD_none, Bool.not_eq_true', Bool.not_eq_false', Bool.and_eq_true, Bool.or_eq_true, Bool.and_eq_false_iff, Bool.or_eq_false_iff, bne_iff_ne, beq_iff_eq, bne_eq_false_iff_eq, beq_eq_false_iff_ne, ne_eq, not_and, Int.not_le, Int.not_lt, ge_iff_le, gt_iff_lt, Nat.not_lt, Nat.not_le, Bool.not_eq_true, Bool.not_eq_false, Bool.true_eq_false, Bool.false_eq_true, not_false_eq_true, not_true_eq_false] at h)
      | exact goes_none.mpr (by omega)
    all_goals first | (exfalso; omega) | exact goes_inr.mpr rfl | (exfalso; simp_all; done)
theorem k120_ok : k120.ok Try.prog := by
  intro x hx
  obtain ⟨⟨⟨ar, nr, mr, tr, vr, gr, _⟩, ⟨ao, no, mo, to, _⟩, _⟩, ⟨cn, ⟨aq, nq, mq, tq, _⟩, rp, fl, _⟩, _⟩ := x
  obtain ⟨h1, h2⟩ := a120 ar nr mr tr vr gr ao no mo to cn aq nq mq tq rp fl (s120 ar nr mr tr vr gr ao no mo to cn aq nq mq tq rp fl (of_dec hx rfl))
  exact ⟨⟨400, (by decide : 3 + 1 + 0 ≤ 400), h1⟩, h2⟩
abbrev St121 := Empty
abbrev Rt121 := Bool × Int
noncomputable def V121 (ar nr mr : Nat) (tr : Nat → Int) (vr : Nat → Int) (gr : Nat → Int) (ao no mo : Nat) (to : Nat → Bool) (cn : ByteArray) (aq nq mq : Nat) (tq : Nat → Int) (rp : Int) (fl : Int) (r : Rt121) : PV := PV.tup [PV.bool r.1, PV.int IntKind.i64 r.2]
noncomputable def N121 (ar nr mr : Nat) (tr : Nat → Int) (vr : Nat → Int) (gr : Nat → Int) (ao no mo : Nat) (to : Nat → Bool) (cn : ByteArray) (aq nq mq : Nat) (tq : Nat → Int) (rp : Int) (fl : Int) (r : Rt121) : List Blk := []
noncomputable def I121 (ar nr mr : Nat) (tr : Nat → Int) (vr : Nat → Int) (gr : Nat → Int) (ao no mo : Nat) (to : Nat → Bool) (cn : ByteArray) (aq nq mq : Nat) (tq : Nat → Int) (rp : Int) (fl : Int) : St121 → Hd := fun s => s.elim
noncomputable def q121 (ar nr mr : Nat) (tr : Nat → Int) (vr : Nat → Int) (gr : Nat → Int) (ao no mo : Nat) (to : Nat → Bool) (cn : ByteArray) (aq nq mq : Nat) (tq : Nat → Int) (rp : Int) (fl : Int) : St121 → Option (St121 ⊕ Rt121) := fun s => s.elim
noncomputable def p121 (ar nr mr : Nat) (tr : Nat → Int) (vr : Nat → Int) (gr : Nat → Int) (ao no mo : Nat) (to : Nat → Bool) (cn : ByteArray) (aq nq mq : Nat) (tq : Nat → Int) (rp : Int) (fl : Int) : Option (St121 ⊕ Rt121) := bif (decide (ar + nr ≤ mr ∧ nr ≤ 1000000))
 then (bif (S.magE nr (fun j => tr (j + ar)) (fun j => vr (j + ar)) (fun j => gr (j + ar)) no !=
 (0 : Int))
 then (some (.inr (false, S.magE nr (fun j => tr (j + ar)) (fun j => vr (j + ar)) (fun j => gr (j + ar)) no)))
 else (bif (decide (aq + nq ≤ mq ∧ nq ≤ 1000000))
 then (bif (S.cyE cn nq (fun j => tq (j + aq)) rp fl != (0 : Int))
 then (some (.inr (false, S.cyE cn nq (fun j => tq (j + aq)) rp fl)))
 else (bif (decide (aq + nq ≤ mq ∧ nq ≤ 20 ∧ (0 : Int) ≤ rp ∧ rp ≤ (9 : Int)))
 then (bif (decide
 (ar + nr ≤ mr ∧
 nr ≤ 1000000 ∧
 ao + no ≤ mo ∧
 no ≤ 1000000 ∧
 0 + List.length (S.stpL nq (fun j => tq (j + aq)) rp fl) ≤
 List.length (S.stpL nq (fun j => tq (j + aq)) rp fl) ∧
 List.length (S.stpL nq (fun j => tq (j + aq)) rp fl) ≤ 1000000))
 then (bif (Prod.fst
 (S.erS nr (fun j => tr (j + ar)) (fun j => vr (j + ar)) (fun j => gr (j + ar)) no
 (List.length (S.stpL nq (fun j => tq (j + aq)) rp fl)) fun j =>
 S.at' (S.stpL nq (fun j => tq (j + aq)) rp fl) j))
 then (some (.inr (true, Prod.snd
 (S.erS nr (fun j => tr (j + ar)) (fun j => vr (j + ar)) (fun j => gr (j + ar)) no
 (List.length (S.stpL nq (fun j => tq (j + aq)) rp fl)) fun j =>
 S.at' (S.stpL nq (fun j => tq (j + aq)) rp fl) j))))
 else (some (.inr (false, Prod.snd
 (S.erS nr (fun j => tr (j + ar)) (fun j => vr (j + ar)) (fun j => gr (j + ar)) no
 (List.length (S.stpL nq (fun j => tq (j + aq)) rp fl)) fun j =>
 S.at' (S.stpL nq (fun j => tq (j + aq)) rp fl) j)))))
 else (none))
 else (none)))
 else (none)))
 else (none)
noncomputable def Te121 (test : Bool → Prop → Prop → Prop) (Kst : KS) (Kret : KR) (ar nr mr : Nat) (tr : Nat → Int) (vr : Nat → Int) (gr : Nat → Int) (ao no mo : Nat) (to : Nat → Bool) (cn : ByteArray) (aq nq mq : Nat) (tq : Nat → Int) (rp : Int) (fl : Int) : Prop :=
  test (decide (ar + nr ≤ mr ∧ nr ≤ 1000000))
 (test (S.magE nr (fun j => tr (j + ar)) (fun j => vr (j + ar)) (fun j => gr (j + ar)) no !=
 (0 : Int))
 (test (S.magE nr (fun j => tr (j + ar)) (fun j => vr (j + ar)) (fun j => gr (j + ar)) no !=
 (0 : Int))
 (Kret (PV.tup
 [PV.tf false,
 PV.int IntKind.i64
 (S.magE nr (fun j => tr (j + ar)) (fun j => vr (j + ar)) (fun j => gr (j + ar)) no)]) ([[(2, false, Blk.cols mq [Col.int IntKind.i64 tq]),
 (1, false, Blk.cols mo [Col.bool to]),
 (0, false,
 Blk.cols mr
 [Col.int IntKind.i64 tr, Col.int IntKind.i64 vr, Col.int IntKind.i64 gr])]]) (8))
 (test (decide (aq + nq ≤ mq ∧ nq ≤ 20 ∧ (0 : Int) ≤ rp ∧ rp ≤ (9 : Int)))
 (test (decide
 (ar + nr ≤ mr ∧
 nr ≤ 1000000 ∧
 ao + no ≤ mo ∧
 no ≤ 1000000 ∧
 0 + List.length (S.stpL nq (fun j => tq (j + aq)) rp fl) ≤
 List.length (S.stpL nq (fun j => tq (j + aq)) rp fl) ∧
 List.length (S.stpL nq (fun j => tq (j + aq)) rp fl) ≤ 1000000))
 (test (Prod.fst
 (S.erS nr (fun j => tr (j + ar)) (fun j => vr (j + ar)) (fun j => gr (j + ar)) no
 (List.length (S.stpL nq (fun j => tq (j + aq)) rp fl)) fun j =>
 S.at' (S.stpL nq (fun j => tq (j + aq)) rp fl) j))
 (Kret (PV.tup
 [PV.tf true,
 PV.int IntKind.i64
 (Prod.snd
 (S.erS nr (fun j => tr (j + ar)) (fun j => vr (j + ar)) (fun j => gr (j + ar)) no
 (List.length (S.stpL nq (fun j => tq (j + aq)) rp fl)) fun j =>
 S.at' (S.stpL nq (fun j => tq (j + aq)) rp fl) j))]) ([[(2, false, Blk.cols mq [Col.int IntKind.i64 tq]),
 (1, false, Blk.cols mo [Col.bool to]),
 (0, false,
 Blk.cols mr
 [Col.int IntKind.i64 tr, Col.int IntKind.i64 vr, Col.int IntKind.i64 gr])]]) (11))
 (Kret (PV.tup
 [PV.tf false,
 PV.int IntKind.i64
 (Prod.snd
 (S.erS nr (fun j => tr (j + ar)) (fun j => vr (j + ar)) (fun j => gr (j + ar)) no
 (List.length (S.stpL nq (fun j => tq (j + aq)) rp fl)) fun j =>
 S.at' (S.stpL nq (fun j => tq (j + aq)) rp fl) j))]) ([[(2, false, Blk.cols mq [Col.int IntKind.i64 tq]),
 (1, false, Blk.cols mo [Col.bool to]),
 (0, false,
 Blk.cols mr
 [Col.int IntKind.i64 tr, Col.int IntKind.i64 vr, Col.int IntKind.i64 gr])]]) (11)))
 (False))
 (False)))
 (test (decide (aq + nq ≤ mq ∧ nq ≤ 1000000))
 (test (S.cyE cn nq (fun j => tq (j + aq)) rp fl != (0 : Int))
 (Kret (PV.tup
 [PV.tf false, PV.int IntKind.i64 (S.cyE cn nq (fun j => tq (j + aq)) rp fl)]) ([[(2, false, Blk.cols mq [Col.int IntKind.i64 tq]),
 (1, false, Blk.cols mo [Col.bool to]),
 (0, false,
 Blk.cols mr
 [Col.int IntKind.i64 tr, Col.int IntKind.i64 vr, Col.int IntKind.i64 gr])]]) (9))
 (test (decide (aq + nq ≤ mq ∧ nq ≤ 20 ∧ (0 : Int) ≤ rp ∧ rp ≤ (9 : Int)))
 (test (decide
 (ar + nr ≤ mr ∧
 nr ≤ 1000000 ∧
 ao + no ≤ mo ∧
 no ≤ 1000000 ∧
 0 + List.length (S.stpL nq (fun j => tq (j + aq)) rp fl) ≤
 List.length (S.stpL nq (fun j => tq (j + aq)) rp fl) ∧
 List.length (S.stpL nq (fun j => tq (j + aq)) rp fl) ≤ 1000000))
 (test (Prod.fst
 (S.erS nr (fun j => tr (j + ar)) (fun j => vr (j + ar)) (fun j => gr (j + ar)) no
 (List.length (S.stpL nq (fun j => tq (j + aq)) rp fl)) fun j =>
 S.at' (S.stpL nq (fun j => tq (j + aq)) rp fl) j))
 (Kret (PV.tup
 [PV.tf true,
 PV.int IntKind.i64
 (Prod.snd
 (S.erS nr (fun j => tr (j + ar)) (fun j => vr (j + ar)) (fun j => gr (j + ar)) no
 (List.length (S.stpL nq (fun j => tq (j + aq)) rp fl)) fun j =>
 S.at' (S.stpL nq (fun j => tq (j + aq)) rp fl) j))]) ([[(2, false, Blk.cols mq [Col.int IntKind.i64 tq]),
 (1, false, Blk.cols mo [Col.bool to]),
 (0, false,
 Blk.cols mr
 [Col.int IntKind.i64 tr, Col.int IntKind.i64 vr, Col.int IntKind.i64 gr])]]) (12))
 (Kret (PV.tup
 [PV.tf false,
 PV.int IntKind.i64
 (Prod.snd
 (S.erS nr (fun j => tr (j + ar)) (fun j => vr (j + ar)) (fun j => gr (j + ar)) no
 (List.length (S.stpL nq (fun j => tq (j + aq)) rp fl)) fun j =>
 S.at' (S.stpL nq (fun j => tq (j + aq)) rp fl) j))]) ([[(2, false, Blk.cols mq [Col.int IntKind.i64 tq]),
 (1, false, Blk.cols mo [Col.bool to]),
 (0, false,
 Blk.cols mr
 [Col.int IntKind.i64 tr, Col.int IntKind.i64 vr, Col.int IntKind.i64 gr])]]) (12)))
 (False))
 (False)))
 (False)))
 (False)
theorem te121 (test : Bool → Prop → Prop → Prop) (Kst : KS) (Kret : KR) (ar nr mr : Nat) (tr : Nat → Int) (vr : Nat → Int) (gr : Nat → Int) (ao no mo : Nat) (to : Nat → Bool) (cn : ByteArray) (aq nq mq : Nat) (tq : Nat → Int) (rp : Int) (fl : Int) : run test Try.env true (xT2 test) true 400 ⟨21, [.cd (mkFn Try.f21).body], argT 0 [.agg [.loose ⟨0, 3, ar, 0⟩ nr, .loose ⟨1, 1, ao, 0⟩ no], .agg [.str cn, .loose ⟨2, 1, aq, 0⟩ nq, .int .i64 rp, .int .i64 fl]], [[], [(0, (false, .cols mr [.int .i64 tr, .int .i64 vr, .int .i64 gr])), (1, (false, .cols mo [.bool to])), (2, (false, .cols mq [.int .i64 tq]))]], 3⟩ (proj 3 [] Kst Kret) =
  Te121 test Kst Kret ar nr mr tr vr gr ao no mo to cn aq nq mq tq rp fl := by kernel_rfl
theorem be121 (ar nr mr : Nat) (tr : Nat → Int) (vr : Nat → Int) (gr : Nat → Int) (ao no mo : Nat) (to : Nat → Bool) (cn : ByteArray) (aq nq mq : Nat) (tq : Nat → Int) (rp : Int) (fl : Int) (Kst : KS) (Kret : KR) (x : St121 ⊕ Rt121) (hS : HS 3 400 ((I121 ar nr mr tr vr gr ao no mo to cn aq nq mq tq rp fl)) Kst x) (hR : HR 3 400 ((V121 ar nr mr tr vr gr ao no mo to cn aq nq mq tq rp fl)) (fun r => [newL (3 + 1) ((N121 ar nr mr tr vr gr ao no mo to cn aq nq mq tq rp fl) r) ++ [(0, (false, .cols mr [.int .i64 tr, .int .i64 vr, .int .i64 gr])), (1, (false, .cols mo [.bool to])), (2, (false, .cols mq [.int .i64 tq]))]]) Kret x) (h : (bif (decide (ar + nr ≤ mr ∧ nr ≤ 1000000))
 then (bif (S.magE nr (fun j => tr (j + ar)) (fun j => vr (j + ar)) (fun j => gr (j + ar)) no !=
 (0 : Int))
 then (some (.inr (false, S.magE nr (fun j => tr (j + ar)) (fun j => vr (j + ar)) (fun j => gr (j + ar)) no)))
 else (bif (decide (aq + nq ≤ mq ∧ nq ≤ 1000000))
 then (bif (S.cyE cn nq (fun j => tq (j + aq)) rp fl != (0 : Int))
 then (some (.inr (false, S.cyE cn nq (fun j => tq (j + aq)) rp fl)))
 else (bif (decide (aq + nq ≤ mq ∧ nq ≤ 20 ∧ (0 : Int) ≤ rp ∧ rp ≤ (9 : Int)))
 then (bif (decide
 (ar + nr ≤ mr ∧
 nr ≤ 1000000 ∧
 ao + no ≤ mo ∧
 no ≤ 1000000 ∧
 0 + List.length (S.stpL nq (fun j => tq (j + aq)) rp fl) ≤
 List.length (S.stpL nq (fun j => tq (j + aq)) rp fl) ∧
 List.length (S.stpL nq (fun j => tq (j + aq)) rp fl) ≤ 1000000))
 then (bif (Prod.fst
 (S.erS nr (fun j => tr (j + ar)) (fun j => vr (j + ar)) (fun j => gr (j + ar)) no
 (List.length (S.stpL nq (fun j => tq (j + aq)) rp fl)) fun j =>
 S.at' (S.stpL nq (fun j => tq (j + aq)) rp fl) j))
 then (some (.inr (true, Prod.snd
 (S.erS nr (fun j => tr (j + ar)) (fun j => vr (j + ar)) (fun j => gr (j + ar)) no
 (List.length (S.stpL nq (fun j => tq (j + aq)) rp fl)) fun j =>
 S.at' (S.stpL nq (fun j => tq (j + aq)) rp fl) j))))
 else (some (.inr (false, Prod.snd
 (S.erS nr (fun j => tr (j + ar)) (fun j => vr (j + ar)) (fun j => gr (j + ar)) no
 (List.length (S.stpL nq (fun j => tq (j + aq)) rp fl)) fun j =>
 S.at' (S.stpL nq (fun j => tq (j + aq)) rp fl) j)))))
 else (none))
 else (none)))
 else (none)))
 else (none) : Option (St121 ⊕ Rt121)) = some x) : Te121 cond Kst Kret ar nr mr tr vr gr ao no mo to cn aq nq mq tq rp fl := by
  unfold Te121
  exact bif_split h
   (fun c0 h => bif_split h
   (fun c1 h => cond_yes c1 (ret_at hR _ h (fun n => n) rfl rfl rfl (rn_tup ⟨(rn_bool_tf rfl), (rn_int rfl), trivial⟩) rfl (entl_bor (use_lo rfl) rfl rfl (entl_bor (use_lo rfl) rfl rfl (entl_bor (use_lo rfl) rfl rfl entl_nil)))))
   (fun c1 h => bif_split h
   (fun c2 h => bif_split h
   (fun c3 h => ret_at hR _ h (fun n => n) rfl rfl rfl (rn_tup ⟨(rn_bool_tf rfl), (rn_int rfl), trivial⟩) rfl (entl_bor (use_lo rfl) rfl rfl (entl_bor (use_lo rfl) rfl rfl (entl_bor (use_lo rfl) rfl rfl entl_nil))))
   (fun c3 h => bif_split h
   (fun c4 h => bif_split h
   (fun c5 h => bif_split h
   (fun c6 h => ret_at hR _ h (fun n => n) rfl rfl rfl (rn_tup ⟨(rn_bool_tf rfl), (rn_int rfl), trivial⟩) rfl (entl_bor (use_lo rfl) rfl rfl (entl_bor (use_lo rfl) rfl rfl (entl_bor (use_lo rfl) rfl rfl entl_nil))))
   (fun c6 h => ret_at hR _ h (fun n => n) rfl rfl rfl (rn_tup ⟨(rn_bool_tf rfl), (rn_int rfl), trivial⟩) rfl (entl_bor (use_lo rfl) rfl rfl (entl_bor (use_lo rfl) rfl rfl (entl_bor (use_lo rfl) rfl rfl entl_nil)))))
   (fun c5 h => no_some h))
   (fun c4 h => no_some h)))
   (fun c2 h => no_some h)))
   (fun c0 h => no_some h)
theorem a121 (ar nr mr : Nat) (tr : Nat → Int) (vr : Nat → Int) (gr : Nat → Int) (ao no mo : Nat) (to : Nat → Bool) (cn : ByteArray) (aq nq mq : Nat) (tq : Nat → Int) (rp : Int) (fl : Int) {r : Rt121} (h : Goes ((q121 ar nr mr tr vr gr ao no mo to cn aq nq mq tq rp fl)) ((p121 ar nr mr tr vr gr ao no mo to cn aq nq mq tq rp fl)) r) : CallR Try.prog 21 [.agg [.loose ⟨0, 3, ar, 0⟩ nr, .loose ⟨1, 1, ao, 0⟩ no], .agg [.str cn, .loose ⟨2, 1, aq, 0⟩ nq, .int .i64 rp, .int .i64 fl]] [[(0, (false, .cols mr [.int .i64 tr, .int .i64 vr, .int .i64 gr])), (1, (false, .cols mo [.bool to])), (2, (false, .cols mq [.int .i64 tq]))]] 3 ((V121 ar nr mr tr vr gr ao no mo to cn aq nq mq tq rp fl) r) ((fun r => [newL (3 + 1) ((N121 ar nr mr tr vr gr ao no mo to cn aq nq mq tq rp fl) r) ++ [(0, (false, .cols mr [.int .i64 tr, .int .i64 vr, .int .i64 gr])), (1, (false, .cols mo [.bool to])), (2, (false, .cols mq [.int .i64 tq]))]]) r) 400 ∧ ∃ F, Try.prog.funcs[21]? = some F ∧ F.body.isSome = true ∧ (F.name == "runtime.NumGoroutine") = false := by
  refine dec_calls (f := 21) (lo := 3) (hi := 400) (H := [[(0, (false, .cols mr [.int .i64 tr, .int .i64 vr, .int .i64 gr])), (1, (false, .cols mo [.bool to])), (2, (false, .cols mq [.int .i64 tq]))]]) (args := [.agg [.loose ⟨0, 3, ar, 0⟩ nr, .loose ⟨1, 1, ao, 0⟩ no], .agg [.str cn, .loose ⟨2, 1, aq, 0⟩ nq, .int .i64 rp, .int .i64 fl]]) Try.envOk Try.mixed xT2_ok ((I121 ar nr mr tr vr gr ao no mo to cn aq nq mq tq rp fl)) ((V121 ar nr mr tr vr gr ao no mo to cn aq nq mq tq rp fl)) (fun r => [newL (3 + 1) ((N121 ar nr mr tr vr gr ao no mo to cn aq nq mq tq rp fl) r) ++ [(0, (false, .cols mr [.int .i64 tr, .int .i64 vr, .int .i64 gr])), (1, (false, .cols mo [.bool to])), (2, (false, .cols mq [.int .i64 tq]))]]) (fn := mkFn Try.f21) (ts := []) (n := 400) rfl (by decide) (by simp) (names_of rfl) ?_ ?_ ?_ h
  · intro s; exact s.elim
  · intro Kst Kret x hS hR h
    exact Holds.eq (te121 cond Kst Kret ar nr mr tr vr gr ao no mo to cn aq nq mq tq rp fl) (be121 ar nr mr tr vr gr ao no mo to cn aq nq mq tq rp fl Kst Kret x hS hR h)
  · intro Kst Kret x hS hR s h; exact s.elim
noncomputable def k121 : Con := ⟨21, [.agg [.list [.int .i64, .int .i64, .int .i64], .list [.bool]], .agg [.plain (.str), .list [.int .i64], .plain (.int .i64), .plain (.int .i64)]], fun (x : ((Nat × Nat × Nat × (Nat → Int) × (Nat → Int) × (Nat → Int) × Unit) × (Nat × Nat × Nat × (Nat → Bool) × Unit) × Unit) × (ByteArray × (Nat × Nat × Nat × (Nat → Int) × Unit) × Int × Int × Unit) × Unit) => (fun (ar nr mr : Nat) (tr : Nat → Int) (vr : Nat → Int) (gr : Nat → Int) (ao no mo : Nat) (to : Nat → Bool) (cn : ByteArray) (aq nq mq : Nat) (tq : Nat → Int) (rp : Int) (fl : Int) => decide ((ar + nr ≤ mr ∧ nr ≤ 1000000) ∧ (ao + no ≤ mo ∧ no ≤ 1000000) ∧ (aq + nq ≤ mq ∧ nq ≤ 1000000))) x.1.1.1 x.1.1.2.1 x.1.1.2.2.1 x.1.1.2.2.2.1 x.1.1.2.2.2.2.1 x.1.1.2.2.2.2.2.1 x.1.2.1.1 x.1.2.1.2.1 x.1.2.1.2.2.1 x.1.2.1.2.2.2.1 x.2.1.1 x.2.1.2.1.1 x.2.1.2.1.2.1 x.2.1.2.1.2.2.1 x.2.1.2.1.2.2.2.1 x.2.1.2.2.1 x.2.1.2.2.2.1, fun (x : ((Nat × Nat × Nat × (Nat → Int) × (Nat → Int) × (Nat → Int) × Unit) × (Nat × Nat × Nat × (Nat → Bool) × Unit) × Unit) × (ByteArray × (Nat × Nat × Nat × (Nat → Int) × Unit) × Int × Int × Unit) × Unit) => (fun (ar nr mr : Nat) (tr : Nat → Int) (vr : Nat → Int) (gr : Nat → Int) (ao no mo : Nat) (to : Nat → Bool) (cn : ByteArray) (aq nq mq : Nat) (tq : Nat → Int) (rp : Int) (fl : Int) => (V121 ar nr mr tr vr gr ao no mo to cn aq nq mq tq rp fl) (S.suiS (S.botE (S.magE nr (fun j => tr (j + ar)) (fun j => vr (j + ar)) (fun j => gr (j + ar)) no) (S.cyE cn nq (fun j => tq (j + aq)) rp fl)) (S.erB (fun j => tr (j + ar)) (fun j => vr (j + ar)) (S.stpL nq (fun j => tq (j + aq)) rp fl).length (fun j => S.at' (S.stpL nq (fun j => tq (j + aq)) rp fl) j) 0 nr))) x.1.1.1 x.1.1.2.1 x.1.1.2.2.1 x.1.1.2.2.2.1 x.1.1.2.2.2.2.1 x.1.1.2.2.2.2.2.1 x.1.2.1.1 x.1.2.1.2.1 x.1.2.1.2.2.1 x.1.2.1.2.2.2.1 x.2.1.1 x.2.1.2.1.1 x.2.1.2.1.2.1 x.2.1.2.1.2.2.1 x.2.1.2.1.2.2.2.1 x.2.1.2.2.1 x.2.1.2.2.2.1, fun (x : ((Nat × Nat × Nat × (Nat → Int) × (Nat → Int) × (Nat → Int) × Unit) × (Nat × Nat × Nat × (Nat → Bool) × Unit) × Unit) × (ByteArray × (Nat × Nat × Nat × (Nat → Int) × Unit) × Int × Int × Unit) × Unit) => (fun (ar nr mr : Nat) (tr : Nat → Int) (vr : Nat → Int) (gr : Nat → Int) (ao no mo : Nat) (to : Nat → Bool) (cn : ByteArray) (aq nq mq : Nat) (tq : Nat → Int) (rp : Int) (fl : Int) => (N121 ar nr mr tr vr gr ao no mo to cn aq nq mq tq rp fl) (S.suiS (S.botE (S.magE nr (fun j => tr (j + ar)) (fun j => vr (j + ar)) (fun j => gr (j + ar)) no) (S.cyE cn nq (fun j => tq (j + aq)) rp fl)) (S.erB (fun j => tr (j + ar)) (fun j => vr (j + ar)) (S.stpL nq (fun j => tq (j + aq)) rp fl).length (fun j => S.at' (S.stpL nq (fun j => tq (j + aq)) rp fl) j) 0 nr))) x.1.1.1 x.1.1.2.1 x.1.1.2.2.1 x.1.1.2.2.2.1 x.1.1.2.2.2.2.1 x.1.1.2.2.2.2.2.1 x.1.2.1.1 x.1.2.1.2.1 x.1.2.1.2.2.1 x.1.2.1.2.2.2.1 x.2.1.1 x.2.1.2.1.1 x.2.1.2.1.2.1 x.2.1.2.1.2.2.1 x.2.1.2.1.2.2.2.1 x.2.1.2.2.1 x.2.1.2.2.2.1, fun _ _ => .dead⟩
theorem s121 (ar nr mr : Nat) (tr : Nat → Int) (vr : Nat → Int) (gr : Nat → Int) (ao no mo : Nat) (to : Nat → Bool) (cn : ByteArray) (aq nq mq : Nat) (tq : Nat → Int) (rp : Int) (fl : Int) (hp : (ar + nr ≤ mr ∧ nr ≤ 1000000) ∧ (ao + no ≤ mo ∧ no ≤ 1000000) ∧ (aq + nq ≤ mq ∧ nq ≤ 1000000)) : Goes ((q121 ar nr mr tr vr gr ao no mo to cn aq nq mq tq rp fl)) ((p121 ar nr mr tr vr gr ao no mo to cn aq nq mq tq rp fl)) (S.suiS (S.botE (S.magE nr (fun j => tr (j + ar)) (fun j => vr (j + ar)) (fun j => gr (j + ar)) no) (S.cyE cn nq (fun j => tq (j + aq)) rp fl)) (S.erB (fun j => tr (j + ar)) (fun j => vr (j + ar)) (S.stpL nq (fun j => tq (j + aq)) rp fl).length (fun j => S.at' (S.stpL nq (fun j => tq (j + aq)) rp fl) j) 0 nr)) := by
  obtain ⟨⟨hp1, hp2⟩, ⟨hp5, hp6⟩, hp3, hp4⟩ := hp
  have hc : (S.cyE cn nq (fun j => tq (j + aq)) rp fl) = 0 → (nq ≤ 20 ∧ 0 ≤ rp ∧ rp ≤ 9) ∧ (S.stpL nq (fun j => tq (j + aq)) rp fl).length ≤ 181 := fun h => by have := cy_ok h; have := stp_in h; omega
  unfold S.suiS S.botE
  by_cases hm : (S.magE nr (fun j => tr (j + ar)) (fun j => vr (j + ar)) (fun j => gr (j + ar)) no) = 0
  · by_cases hy : (S.cyE cn nq (fun j => tq (j + aq)) rp fl) = 0
    · have hst := stp_in hy
      have he : S.erS nr (fun j => tr (j + ar)) (fun j => vr (j + ar)) (fun j => gr (j + ar)) no (S.stpL nq (fun j => tq (j + aq)) rp fl).length (fun j => S.at' (S.stpL nq (fun j => tq (j + aq)) rp fl) j) = (S.erB (fun j => tr (j + ar)) (fun j => vr (j + ar)) (S.stpL nq (fun j => tq (j + aq)) rp fl).length (fun j => S.at' (S.stpL nq (fun j => tq (j + aq)) rp fl) j) 0 nr, 0) := er_in hm (by omega) hst.2.2
      have hc := hc hy
      rw [if_pos hm, if_pos hy]
      unfold p121
      simp only [hm, hy, he]
      clear he
      generalize S.erB (fun j => tr (j + ar)) (fun j => vr (j + ar)) (S.stpL nq (fun j => tq (j + aq)) rp fl).length (fun j => S.at' (S.stpL nq (fun j => tq (j + aq)) rp fl) j) 0 nr = A at *
      generalize (S.stpL nq (fun j => tq (j + aq)) rp fl) = L at *
      cases A
      all_goals
       show Goes _ _ _
       repeat' first
        | with_reducible refine goes_if (fun h => ?_) (fun h => ?_) <;> (try simp only [lim64, imp_false, decide_eq_true_eq, decide_eq_false_iff_not, Int.toNat_natCast, toNat_pred, toNat_succ, Option.getD_some, Option.getD_none, Bool.not_eq_true', Bool.not_eq_false', Bool.and_eq_true, Bool.or_eq_true, Bool.and_eq_false_iff, Bool.or_eq_false_iff, bne_iff_ne, beq_iff_eq, bne_eq_false_iff_eq, beq_eq_false_iff_ne, ne_eq, not_and, Int.not_le, Int.not_lt, ge_iff_le, gt_iff_lt, Nat.not_lt, Nat.not_le, Bool.not_eq_true, Bool.not_eq_false, Bool.true_eq_false, Bool.false_eq_true, not_false_eq_true, not_true_eq_false] at h)
        | exact goes_none.mpr (by omega)
       all_goals first | (exfalso; omega) | exact goes_inr.mpr rfl | (exfalso; simp_all; done)
    · rw [if_pos hm, if_neg hy]
      unfold p121
      simp only [hm]
      generalize (S.cyE cn nq (fun j => tq (j + aq)) rp fl) = e at *
      show Goes _ _ _
      repeat' first
        | with_reducible refine goes_if (fun h => ?_) (fun h => ?_) <;> (try simp only [lim64, imp_false, decide_eq_true_eq, decide_eq_false_iff_not, Int.toNat_natCast, toNat_pred, toNat_succ, Option.getD_some, Option.getD_none, Bool.not_eq_true', Bool.not_eq_false', Bool.and_eq_true, Bool.or_eq_true, Bool.and_eq_false_iff, Bool.or_eq_false_iff, bne_iff_ne, beq_iff_eq, bne_eq_false_iff_eq, beq_eq_false_iff_ne, ne_eq, not_and, Int.not_le, Int.not_lt, ge_iff_le, gt_iff_lt, Nat.not_lt, Nat.not_le, Bool.not_eq_true, Bool.not_eq_false, Bool.true_eq_false, Bool.false_eq_true, not_false_eq_true, not_true_eq_false] at h)
        | exact goes_none.mpr (by omega)
      all_goals first | (exfalso; omega) | exact goes_inr.mpr rfl | (exfalso; simp_all; done)
  · rw [if_neg hm, if_neg hm]
    unfold p121
    generalize (S.magE nr (fun j => tr (j + ar)) (fun j => vr (j + ar)) (fun j => gr (j + ar)) no) = e at *
    show Goes _ _ _
    repeat' first
      | with_reducible refine goes_if (fun h => ?_) (fun h => ?_) <;> (try simp only [lim64, imp_false, decide_eq_true_eq, decide_eq_false_iff_not, Int.toNat_natCast, toNat_pred, toNat_succ, Option.getD_some, Option.getD_none, Bool.not_eq_true', Bool.not_eq_false', Bool.and_eq_true, Bool.or_eq_true, Bool.and_eq_false_iff, Bool.or_eq_false_iff, bne_iff_ne, beq_iff_eq, bne_eq_false_iff_eq, beq_eq_false_iff_ne, ne_eq, not_and, Int.not_le, Int.not_lt, ge_iff_le, gt_iff_lt, Nat.not_lt, Nat.not_le, Bool.not_eq_true, Bool.not_eq_false, Bool.true_eq_false, Bool.false_eq_true, not_false_eq_true, not_true_eq_false] at h)
      | exact goes_none.mpr (by omega)
    all_goals first | (exfalso; omega) | exact goes_inr.mpr rfl | (exfalso; simp_all; done)
theorem k121_ok : k121.ok Try.prog := by
  intro x hx
  obtain ⟨⟨⟨ar, nr, mr, tr, vr, gr, _⟩, ⟨ao, no, mo, to, _⟩, _⟩, ⟨cn, ⟨aq, nq, mq, tq, _⟩, rp, fl, _⟩, _⟩ := x
  obtain ⟨h1, h2⟩ := a121 ar nr mr tr vr gr ao no mo to cn aq nq mq tq rp fl (s121 ar nr mr tr vr gr ao no mo to cn aq nq mq tq rp fl (of_dec hx rfl))
  exact ⟨⟨400, (by decide : 3 + 1 + 0 ≤ 400), h1⟩, h2⟩
inductive St148 where
  | h0 (x0 : Int) (x1 : Int) (x2 : Bool) (x3 : Bool) (x4 : Int) (x5 : List Int)
abbrev Rt148 := Int × Bool × Bool × Int × Int
noncomputable def V148 (cn : ByteArray) (aq nq mq : Nat) (tq : Nat → Int) (rp : Int) (fl : Int) (al nl ml : Nat) (tl : Nat → Int) (r : Rt148) : PV := PV.tup
 [PV.agg [PV.int IntKind.i64 r.1, PV.bool r.2.1, PV.bool r.2.2.1, PV.int IntKind.i64 r.2.2.2.1],
 PV.int IntKind.i64 r.2.2.2.2]
noncomputable def N148 (cn : ByteArray) (aq nq mq : Nat) (tq : Nat → Int) (rp : Int) (fl : Int) (al nl ml : Nat) (tl : Nat → Int) (r : Rt148) : List Blk := []
noncomputable def I148 (cn : ByteArray) (aq nq mq : Nat) (tq : Nat → Int) (rp : Int) (fl : Int) (al nl ml : Nat) (tl : Nat → Int) : St148 → Hd
  | .h0 x0 x1 x2 x3 x4 x5 => ⟨hd Try.f48 0, [PV.loose (PA.mk (1) (1) al (0)) nl,
 PV.ptr (PA.mk (2) (0) (0) (0)),
 PV.ptr (PA.mk (3) (0) (0) (0)),
 PV.ptr (PA.mk (4) (0) (0) (0)),
 PV.own (5) (1) (List.length x5), PV.int IntKind.i64 x0], [[(2, (true, Blk.cells
 [PV.str cn, PV.loose (PA.mk (0) (1) aq (0)) nq,
 PV.int IntKind.i64 rp, PV.int IntKind.i64 fl])), (3, (true, Blk.cells
 [PV.int IntKind.i64 (0 : Int), PV.tf false, PV.tf false,
 PV.int IntKind.i64 (0 : Int)])), (4, (true, Blk.cells [PV.int IntKind.i64 x1, PV.bool x2, PV.bool x3, PV.int IntKind.i64 x4])), (5, (true, Blk.cols (List.length x5) [Col.int IntKind.i64 fun j => S.at' x5 j]))], [(0, (false, .cols mq [.int .i64 tq])), (1, (false, .cols ml [.int .i64 tl]))]], 6⟩
noncomputable def q148 (cn : ByteArray) (aq nq mq : Nat) (tq : Nat → Int) (rp : Int) (fl : Int) (al nl ml : Nat) (tl : Nat → Int) : St148 → Option (St148 ⊕ Rt148)
  | .h0 x0 x1 x2 x3 x4 x5 => bif (decide (x0 < (↑nl : Int)))
 then (bif (decide ((0 : Int) ≤ x0 ∧ x0 < (↑nl : Int)))
 then (bif (decide (Int.toNat x0 + al < ml))
 then (bif (decide (tl (Int.toNat x0 + al) ≥ (-1099511627776 : Int)))
 then (bif (decide (tl (Int.toNat x0 + al) ≤ (1099511627776 : Int)))
 then (bif (decide
 ((aq + nq ≤ mq ∧ 2 ≤ nq ∧ nq ≤ 20) ∧
 (0 + List.length x5 ≤ List.length x5 ∧ 2 ≤ List.length x5 ∧ List.length x5 ≤ 1000) ∧
 (0 : Int) ≤ x1 ∧ x1 < (↑(List.length x5) : Int)))
 then (bif (lim IntKind.i64 (x0 + (1 : Int)))
 then (some (.inl (.h0 (x0 + (1 : Int)) (Prod.fst
 (S.setS nq (fun j => tq (j + aq)) fl (List.length x5) (fun j => S.at' x5 j)
 (x1, x2, x3, x4) (tl (Int.toNat x0 + al)))) (Prod.fst
 (Prod.snd
 (S.setS nq (fun j => tq (j + aq)) fl (List.length x5) (fun j => S.at' x5 j)
 (x1, x2, x3, x4) (tl (Int.toNat x0 + al))))) (Prod.fst
 (Prod.snd
 (Prod.snd
 (S.setS nq (fun j => tq (j + aq)) fl (List.length x5) (fun j => S.at' x5 j)
 (x1, x2, x3, x4) (tl (Int.toNat x0 + al)))))) (Prod.snd
 (Prod.snd
 (Prod.snd
 (S.setS nq (fun j => tq (j + aq)) fl (List.length x5) (fun j => S.at' x5 j)
 (x1, x2, x3, x4) (tl (Int.toNat x0 + al)))))) (x5))))
 else (none))
 else (none))
 else (some (.inr ((0 : Int), false, false, (0 : Int), (6 : Int)))))
 else (some (.inr ((0 : Int), false, false, (0 : Int), (6 : Int)))))
 else (none))
 else (none))
 else (some (.inr (x1, x2, x3, x4, (0 : Int))))
noncomputable def p148 (cn : ByteArray) (aq nq mq : Nat) (tq : Nat → Int) (rp : Int) (fl : Int) (al nl ml : Nat) (tl : Nat → Int) : Option (St148 ⊕ Rt148) := bif (decide (aq + nq ≤ mq ∧ nq ≤ 1000000))
 then (bif (S.cyE cn nq (fun j => tq (j + aq)) rp fl != (0 : Int))
 then (some (.inr ((0 : Int), false, false, (0 : Int), S.cyE cn nq (fun j => tq (j + aq)) rp fl)))
 else (bif (decide ((↑nl : Int) > (500 : Int)))
 then (some (.inr ((0 : Int), false, false, (0 : Int), (3 : Int))))
 else (bif (decide (aq + nq ≤ mq ∧ nq ≤ 20 ∧ (0 : Int) ≤ rp ∧ rp ≤ (9 : Int)))
 then (some (.inl (.h0 ((0 : Int)) ((0 : Int)) (false) (false) ((0 : Int)) (S.stpL nq (fun j => tq (j + aq)) rp fl))))
 else (none))))
 else (none)
noncomputable def Te148 (test : Bool → Prop → Prop → Prop) (Kst : KS) (Kret : KR) (cn : ByteArray) (aq nq mq : Nat) (tq : Nat → Int) (rp : Int) (fl : Int) (al nl ml : Nat) (tl : Nat → Int) : Prop :=
  test (decide (aq + nq ≤ mq ∧ nq ≤ 1000000))
 (test (S.cyE cn nq (fun j => tq (j + aq)) rp fl != (0 : Int))
 (Kret (PV.tup
 [PV.agg
 [PV.int IntKind.i64 (0 : Int), PV.tf false, PV.tf false,
 PV.int IntKind.i64 (0 : Int)],
 PV.int IntKind.i64 (S.cyE cn nq (fun j => tq (j + aq)) rp fl)]) ([[(1, false, Blk.cols ml [Col.int IntKind.i64 tl]),
 (0, false, Blk.cols mq [Col.int IntKind.i64 tq])]]) (5))
 (test (decide ((↑nl : Int) > (500 : Int)))
 (Kret (PV.tup
 [PV.agg
 [PV.int IntKind.i64 (0 : Int), PV.tf false, PV.tf false,
 PV.int IntKind.i64 (0 : Int)],
 PV.int IntKind.i64 (3 : Int)]) ([[(1, false, Blk.cols ml [Col.int IntKind.i64 tl]),
 (0, false, Blk.cols mq [Col.int IntKind.i64 tq])]]) (5))
 (test (decide (aq + nq ≤ mq ∧ nq ≤ 20 ∧ (0 : Int) ≤ rp ∧ rp ≤ (9 : Int)))
 (Kst (hd Try.f48 0) ([PV.loose (PA.mk (1) (1) al (0)) nl,
 PV.ptr (PA.mk (2) (0) (0) (0)),
 PV.ptr (PA.mk (3) (0) (0) (0)),
 PV.ptr (PA.mk (5) (0) (0) (0)),
 PV.own (7) (1) (List.length (S.stpL nq (fun j => tq (j + aq)) rp fl)),
 PV.int IntKind.i64 (0 : Int)]) ([[(1, false, Blk.cols ml [Col.int IntKind.i64 tl]),
 (0, false, Blk.cols mq [Col.int IntKind.i64 tq]),
 (7, true,
 Blk.cols (List.length (S.stpL nq (fun j => tq (j + aq)) rp fl))
 [Col.int IntKind.i64 fun j =>
 S.at' (S.stpL nq (fun j => tq (j + aq)) rp fl) j]),
 (5, true,
 Blk.cells
 [PV.int IntKind.i64 (0 : Int), PV.tf false, PV.tf false,
 PV.int IntKind.i64 (0 : Int)]),
 (3, true,
 Blk.cells
 [PV.int IntKind.i64 (0 : Int), PV.tf false, PV.tf false,
 PV.int IntKind.i64 (0 : Int)]),
 (2, true,
 Blk.cells
 [PV.str cn, PV.loose (PA.mk (0) (1) aq (0)) nq,
 PV.int IntKind.i64 rp, PV.int IntKind.i64 fl])]]) (8))
 (False))))
 (False)
theorem te148 (test : Bool → Prop → Prop → Prop) (Kst : KS) (Kret : KR) (cn : ByteArray) (aq nq mq : Nat) (tq : Nat → Int) (rp : Int) (fl : Int) (al nl ml : Nat) (tl : Nat → Int) : run test Try.env true (xB1 test) true 400 ⟨48, [.cd (mkFn Try.f48).body], argT 0 [.agg [.str cn, .loose ⟨0, 1, aq, 0⟩ nq, .int .i64 rp, .int .i64 fl], .loose ⟨1, 1, al, 0⟩ nl], [[], [(0, (false, .cols mq [.int .i64 tq])), (1, (false, .cols ml [.int .i64 tl]))]], 2⟩ (proj 2 [1, 2, 4, 7, 8, 9] Kst Kret) =
  Te148 test Kst Kret cn aq nq mq tq rp fl al nl ml tl := by kernel_rfl
noncomputable def T148_0 (test : Bool → Prop → Prop → Prop) (Kst : KS) (Kret : KR) (cn : ByteArray) (aq nq mq : Nat) (tq : Nat → Int) (rp : Int) (fl : Int) (al nl ml : Nat) (tl : Nat → Int) (x0 : Int) (x1 : Int) (x2 : Bool) (x3 : Bool) (x4 : Int) (x5 : List Int) : Prop :=
  test (decide (x0 < (↑nl : Int)))
 (test (decide ((0 : Int) ≤ x0 ∧ x0 < (↑nl : Int)))
 (test (decide (Int.toNat x0 + al < ml))
 (test (decide (tl (Int.toNat x0 + al) ≥ (-1099511627776 : Int)))
 (test (decide (tl (Int.toNat x0 + al) ≤ (1099511627776 : Int)))
 (test (decide ((0 : Int) ≤ x0 ∧ x0 < (↑nl : Int)))
 (test (decide (Int.toNat x0 + al < ml))
 (test (decide
 ((aq + nq ≤ mq ∧ 2 ≤ nq ∧ nq ≤ 20) ∧
 (0 + List.length x5 ≤ List.length x5 ∧ 2 ≤ List.length x5 ∧ List.length x5 ≤ 1000) ∧
 (0 : Int) ≤ x1 ∧ x1 < (↑(List.length x5) : Int)))
 (test (lim IntKind.i64 (x0 + (1 : Int)))
 (Kst (hd Try.f48 0) ([PV.loose (PA.mk (1) (1) al (0)) nl,
 PV.ptr (PA.mk (2) (0) (0) (0)),
 PV.ptr (PA.mk (3) (0) (0) (0)),
 PV.ptr (PA.mk (4) (0) (0) (0)),
 PV.own (5) (1) (List.length x5), PV.int IntKind.i64 (x0 + (1 : Int))]) ([[(1, false, Blk.cols ml [Col.int IntKind.i64 tl]),
 (0, false, Blk.cols mq [Col.int IntKind.i64 tq]),
 (5, true,
 Blk.cols (List.length x5) [Col.int IntKind.i64 fun j => S.at' x5 j]),
 (4, true,
 Blk.cells
 [PV.int IntKind.i64
 (Prod.fst
 (S.setS nq (fun j => tq (j + aq)) fl (List.length x5) (fun j => S.at' x5 j)
 (x1, x2, x3, x4) (tl (Int.toNat x0 + al)))),
 PV.bool
 (Prod.fst
 (Prod.snd
 (S.setS nq (fun j => tq (j + aq)) fl (List.length x5) (fun j => S.at' x5 j)
 (x1, x2, x3, x4) (tl (Int.toNat x0 + al))))),
 PV.bool
 (Prod.fst
 (Prod.snd
 (Prod.snd
 (S.setS nq (fun j => tq (j + aq)) fl (List.length x5)
 (fun j => S.at' x5 j) (x1, x2, x3, x4) (tl (Int.toNat x0 + al)))))),
 PV.int IntKind.i64
 (Prod.snd
 (Prod.snd
 (Prod.snd
 (S.setS nq (fun j => tq (j + aq)) fl (List.length x5)
 (fun j => S.at' x5 j) (x1, x2, x3, x4) (tl (Int.toNat x0 + al))))))]),
 (3, true,
 Blk.cells
 [PV.int IntKind.i64 (0 : Int), PV.tf false, PV.tf false,
 PV.int IntKind.i64 (0 : Int)]),
 (2, true,
 Blk.cells
 [PV.str cn, PV.loose (PA.mk (0) (1) aq (0)) nq,
 PV.int IntKind.i64 rp, PV.int IntKind.i64 fl])]]) (7))
 (False))
 (False))
 (False))
 (False))
 (Kret (PV.tup
 [PV.agg
 [PV.int IntKind.i64 (0 : Int), PV.tf false, PV.tf false,
 PV.int IntKind.i64 (0 : Int)],
 PV.int IntKind.i64 (6 : Int)]) ([[(1, false, Blk.cols ml [Col.int IntKind.i64 tl]),
 (0, false, Blk.cols mq [Col.int IntKind.i64 tq])]]) (6)))
 (Kret (PV.tup
 [PV.agg
 [PV.int IntKind.i64 (0 : Int), PV.tf false, PV.tf false,
 PV.int IntKind.i64 (0 : Int)],
 PV.int IntKind.i64 (6 : Int)]) ([[(1, false, Blk.cols ml [Col.int IntKind.i64 tl]),
 (0, false, Blk.cols mq [Col.int IntKind.i64 tq])]]) (6)))
 (False))
 (False))
 (Kret (PV.tup
 [PV.agg [PV.int IntKind.i64 x1, PV.bool x2, PV.bool x3, PV.int IntKind.i64 x4],
 PV.int IntKind.i64 (0 : Int)]) ([[(1, false, Blk.cols ml [Col.int IntKind.i64 tl]),
 (0, false, Blk.cols mq [Col.int IntKind.i64 tq])]]) (6))
theorem t148_0 (test : Bool → Prop → Prop → Prop) (Kst : KS) (Kret : KR) (cn : ByteArray) (aq nq mq : Nat) (tq : Nat → Int) (rp : Int) (fl : Int) (al nl ml : Nat) (tl : Nat → Int) (x0 : Int) (x1 : Int) (x2 : Bool) (x3 : Bool) (x4 : Int) (x5 : List Int) : run test Try.env true (xB1 test) true 400 ⟨48, hd Try.f48 0, zipT [1, 2, 4, 7, 8, 9] [PV.loose (PA.mk (1) (1) al (0)) nl,
 PV.ptr (PA.mk (2) (0) (0) (0)),
 PV.ptr (PA.mk (3) (0) (0) (0)),
 PV.ptr (PA.mk (4) (0) (0) (0)),
 PV.own (5) (1) (List.length x5), PV.int IntKind.i64 x0], [[(2, (true, Blk.cells
 [PV.str cn, PV.loose (PA.mk (0) (1) aq (0)) nq,
 PV.int IntKind.i64 rp, PV.int IntKind.i64 fl])), (3, (true, Blk.cells
 [PV.int IntKind.i64 (0 : Int), PV.tf false, PV.tf false,
 PV.int IntKind.i64 (0 : Int)])), (4, (true, Blk.cells [PV.int IntKind.i64 x1, PV.bool x2, PV.bool x3, PV.int IntKind.i64 x4])), (5, (true, Blk.cols (List.length x5) [Col.int IntKind.i64 fun j => S.at' x5 j]))], [(0, (false, .cols mq [.int .i64 tq])), (1, (false, .cols ml [.int .i64 tl]))]], 6⟩ (proj 2 [1, 2, 4, 7, 8, 9] Kst Kret) =
  T148_0 test Kst Kret cn aq nq mq tq rp fl al nl ml tl x0 x1 x2 x3 x4 x5 := by kernel_rfl
theorem be148 (cn : ByteArray) (aq nq mq : Nat) (tq : Nat → Int) (rp : Int) (fl : Int) (al nl ml : Nat) (tl : Nat → Int) (Kst : KS) (Kret : KR) (x : St148 ⊕ Rt148) (hS : HS 2 400 ((I148 cn aq nq mq tq rp fl al nl ml tl)) Kst x) (hR : HR 2 400 ((V148 cn aq nq mq tq rp fl al nl ml tl)) (fun r => [newL (2 + 1) ((N148 cn aq nq mq tq rp fl al nl ml tl) r) ++ [(0, (false, .cols mq [.int .i64 tq])), (1, (false, .cols ml [.int .i64 tl]))]]) Kret x) (h : (bif (decide (aq + nq ≤ mq ∧ nq ≤ 1000000))
 then (bif (S.cyE cn nq (fun j => tq (j + aq)) rp fl != (0 : Int))
 then (some (.inr ((0 : Int), false, false, (0 : Int), S.cyE cn nq (fun j => tq (j + aq)) rp fl)))
 else (bif (decide ((↑nl : Int) > (500 : Int)))
 then (some (.inr ((0 : Int), false, false, (0 : Int), (3 : Int))))
 else (bif (decide (aq + nq ≤ mq ∧ nq ≤ 20 ∧ (0 : Int) ≤ rp ∧ rp ≤ (9 : Int)))
 then (some (.inl (.h0 ((0 : Int)) ((0 : Int)) (false) (false) ((0 : Int)) (S.stpL nq (fun j => tq (j + aq)) rp fl))))
 else (none))))
 else (none) : Option (St148 ⊕ Rt148)) = some x) : Te148 cond Kst Kret cn aq nq mq tq rp fl al nl ml tl := by
  unfold Te148
  exact bif_split h
   (fun c0 h => bif_split h
   (fun c1 h => ret_at hR _ h (fun n => n) rfl rfl rfl (rn_tup ⟨(rn_agg ⟨(rn_int rfl), (rn_bool_tf rfl), (rn_bool_tf rfl), (rn_int rfl), trivial⟩), (rn_int rfl), trivial⟩) rfl (entl_bor (use_lo rfl) rfl rfl (entl_bor (use_lo rfl) rfl rfl entl_nil)))
   (fun c1 h => bif_split h
   (fun c2 h => ret_at hR _ h (fun n => n) rfl rfl rfl (rn_tup ⟨(rn_agg ⟨(rn_int rfl), (rn_bool_tf rfl), (rn_bool_tf rfl), (rn_int rfl), trivial⟩), (rn_int rfl), trivial⟩) rfl (entl_bor (use_lo rfl) rfl rfl (entl_bor (use_lo rfl) rfl rfl entl_nil)))
   (fun c2 h => bif_split h
   (fun c3 h => stop_at hS _ h (fun n => bif Nat.beq n 2 then 2 else bif Nat.beq n 3 then 3 else bif Nat.beq n 4 then 5 else bif Nat.beq n 5 then 7 else n) rfl rfl rfl ⟨(rn_loose (use_lo rfl) rfl rfl rfl), ⟨(rn_ptr (use_own rfl) rfl rfl), ⟨(rn_ptr (use_own rfl) rfl rfl), ⟨(rn_ptr (use_own rfl) rfl rfl), ⟨(rn_own (use_own rfl) rfl rfl), ⟨(rn_int rfl), trivial⟩⟩⟩⟩⟩⟩ rfl (entl_b (use_own rfl) rfl (by simp) (rb_cells ⟨(rn_str rfl), (rn_loose (use_lo rfl) rfl rfl rfl), (rn_int rfl), (rn_int rfl), trivial⟩) (entl_b (use_own rfl) rfl (by simp) (rb_cells ⟨(rn_int rfl), (rn_tf rfl), (rn_tf rfl), (rn_int rfl), trivial⟩) (entl_b (use_own rfl) rfl (by simp) (rb_cells ⟨(rn_int rfl), (rn_bool_tf rfl), (rn_bool_tf rfl), (rn_int rfl), trivial⟩) (entl_new (use_own rfl) rfl (Nat.le_of_eq rfl) (rcs_int (fun _ _ => rfl) rcs_nil) (entl_bor (use_lo rfl) rfl rfl (entl_bor (use_lo rfl) rfl rfl entl_nil)))))))
   (fun c3 h => no_some h))))
   (fun c0 h => no_some h)
theorem b148_0 (cn : ByteArray) (aq nq mq : Nat) (tq : Nat → Int) (rp : Int) (fl : Int) (al nl ml : Nat) (tl : Nat → Int) (Kst : KS) (Kret : KR) (x : St148 ⊕ Rt148) (hS : HS 2 400 ((I148 cn aq nq mq tq rp fl al nl ml tl)) Kst x) (hR : HR 2 400 ((V148 cn aq nq mq tq rp fl al nl ml tl)) (fun r => [newL (2 + 1) ((N148 cn aq nq mq tq rp fl al nl ml tl) r) ++ [(0, (false, .cols mq [.int .i64 tq])), (1, (false, .cols ml [.int .i64 tl]))]]) Kret x) (x0 : Int) (x1 : Int) (x2 : Bool) (x3 : Bool) (x4 : Int) (x5 : List Int) (h : (bif (decide (x0 < (↑nl : Int)))
 then (bif (decide ((0 : Int) ≤ x0 ∧ x0 < (↑nl : Int)))
 then (bif (decide (Int.toNat x0 + al < ml))
 then (bif (decide (tl (Int.toNat x0 + al) ≥ (-1099511627776 : Int)))
 then (bif (decide (tl (Int.toNat x0 + al) ≤ (1099511627776 : Int)))
 then (bif (decide
 ((aq + nq ≤ mq ∧ 2 ≤ nq ∧ nq ≤ 20) ∧
 (0 + List.length x5 ≤ List.length x5 ∧ 2 ≤ List.length x5 ∧ List.length x5 ≤ 1000) ∧
 (0 : Int) ≤ x1 ∧ x1 < (↑(List.length x5) : Int)))
 then (bif (lim IntKind.i64 (x0 + (1 : Int)))
 then (some (.inl (.h0 (x0 + (1 : Int)) (Prod.fst
 (S.setS nq (fun j => tq (j + aq)) fl (List.length x5) (fun j => S.at' x5 j)
 (x1, x2, x3, x4) (tl (Int.toNat x0 + al)))) (Prod.fst
 (Prod.snd
 (S.setS nq (fun j => tq (j + aq)) fl (List.length x5) (fun j => S.at' x5 j)
 (x1, x2, x3, x4) (tl (Int.toNat x0 + al))))) (Prod.fst
 (Prod.snd
 (Prod.snd
 (S.setS nq (fun j => tq (j + aq)) fl (List.length x5) (fun j => S.at' x5 j)
 (x1, x2, x3, x4) (tl (Int.toNat x0 + al)))))) (Prod.snd
 (Prod.snd
 (Prod.snd
 (S.setS nq (fun j => tq (j + aq)) fl (List.length x5) (fun j => S.at' x5 j)
 (x1, x2, x3, x4) (tl (Int.toNat x0 + al)))))) (x5))))
 else (none))
 else (none))
 else (some (.inr ((0 : Int), false, false, (0 : Int), (6 : Int)))))
 else (some (.inr ((0 : Int), false, false, (0 : Int), (6 : Int)))))
 else (none))
 else (none))
 else (some (.inr (x1, x2, x3, x4, (0 : Int)))) : Option (St148 ⊕ Rt148)) = some x) : T148_0 cond Kst Kret cn aq nq mq tq rp fl al nl ml tl x0 x1 x2 x3 x4 x5 := by
  unfold T148_0
  exact bif_split h
   (fun c0 h => bif_split h
   (fun c1 h => bif_split h
   (fun c2 h => bif_split h
   (fun c3 h => bif_split h
   (fun c4 h => cond_yes c1 (cond_yes c2 (bif_split h
   (fun c5 h => bif_split h
   (fun c6 h => stop_at hS _ h (fun n => bif Nat.beq n 2 then 2 else bif Nat.beq n 3 then 3 else bif Nat.beq n 4 then 4 else bif Nat.beq n 5 then 5 else n) rfl rfl rfl ⟨(rn_loose (use_lo rfl) rfl rfl rfl), ⟨(rn_ptr (use_own rfl) rfl rfl), ⟨(rn_ptr (use_own rfl) rfl rfl), ⟨(rn_ptr (use_own rfl) rfl rfl), ⟨(rn_own (use_own rfl) rfl rfl), ⟨(rn_int rfl), trivial⟩⟩⟩⟩⟩⟩ rfl (entl_b (use_own rfl) rfl (by simp) (rb_cells ⟨(rn_str rfl), (rn_loose (use_lo rfl) rfl rfl rfl), (rn_int rfl), (rn_int rfl), trivial⟩) (entl_b (use_own rfl) rfl (by simp) (rb_cells ⟨(rn_int rfl), (rn_tf rfl), (rn_tf rfl), (rn_int rfl), trivial⟩) (entl_b (use_own rfl) rfl (by simp) (rb_cells ⟨(rn_int rfl), (rn_bool rfl), (rn_bool rfl), (rn_int rfl), trivial⟩) (entl_new (use_own rfl) rfl (Nat.le_of_eq rfl) (rcs_int (fun _ _ => rfl) rcs_nil) (entl_bor (use_lo rfl) rfl rfl (entl_bor (use_lo rfl) rfl rfl entl_nil)))))))
   (fun c6 h => no_some h))
   (fun c5 h => no_some h))))
   (fun c4 h => ret_at hR _ h (fun n => n) rfl rfl rfl (rn_tup ⟨(rn_agg ⟨(rn_int rfl), (rn_bool_tf rfl), (rn_bool_tf rfl), (rn_int rfl), trivial⟩), (rn_int rfl), trivial⟩) rfl (entl_bor (use_lo rfl) rfl rfl (entl_bor (use_lo rfl) rfl rfl entl_nil))))
   (fun c3 h => ret_at hR _ h (fun n => n) rfl rfl rfl (rn_tup ⟨(rn_agg ⟨(rn_int rfl), (rn_bool_tf rfl), (rn_bool_tf rfl), (rn_int rfl), trivial⟩), (rn_int rfl), trivial⟩) rfl (entl_bor (use_lo rfl) rfl rfl (entl_bor (use_lo rfl) rfl rfl entl_nil))))
   (fun c2 h => no_some h))
   (fun c1 h => no_some h))
   (fun c0 h => ret_at hR _ h (fun n => n) rfl rfl rfl (rn_tup ⟨(rn_agg ⟨(rn_int rfl), (rn_bool rfl), (rn_bool rfl), (rn_int rfl), trivial⟩), (rn_int rfl), trivial⟩) rfl (entl_bor (use_lo rfl) rfl rfl (entl_bor (use_lo rfl) rfl rfl entl_nil)))
theorem a148 (cn : ByteArray) (aq nq mq : Nat) (tq : Nat → Int) (rp : Int) (fl : Int) (al nl ml : Nat) (tl : Nat → Int) {r : Rt148} (h : Goes ((q148 cn aq nq mq tq rp fl al nl ml tl)) ((p148 cn aq nq mq tq rp fl al nl ml tl)) r) : CallR Try.prog 48 [.agg [.str cn, .loose ⟨0, 1, aq, 0⟩ nq, .int .i64 rp, .int .i64 fl], .loose ⟨1, 1, al, 0⟩ nl] [[(0, (false, .cols mq [.int .i64 tq])), (1, (false, .cols ml [.int .i64 tl]))]] 2 ((V148 cn aq nq mq tq rp fl al nl ml tl) r) ((fun r => [newL (2 + 1) ((N148 cn aq nq mq tq rp fl al nl ml tl) r) ++ [(0, (false, .cols mq [.int .i64 tq])), (1, (false, .cols ml [.int .i64 tl]))]]) r) 400 ∧ ∃ F, Try.prog.funcs[48]? = some F ∧ F.body.isSome = true ∧ (F.name == "runtime.NumGoroutine") = false := by
  refine dec_calls (f := 48) (lo := 2) (hi := 400) (H := [[(0, (false, .cols mq [.int .i64 tq])), (1, (false, .cols ml [.int .i64 tl]))]]) (args := [.agg [.str cn, .loose ⟨0, 1, aq, 0⟩ nq, .int .i64 rp, .int .i64 fl], .loose ⟨1, 1, al, 0⟩ nl]) Try.envOk Try.mixed xB1_ok ((I148 cn aq nq mq tq rp fl al nl ml tl)) ((V148 cn aq nq mq tq rp fl al nl ml tl)) (fun r => [newL (2 + 1) ((N148 cn aq nq mq tq rp fl al nl ml tl) r) ++ [(0, (false, .cols mq [.int .i64 tq])), (1, (false, .cols ml [.int .i64 tl]))]]) (fn := mkFn Try.f48) (ts := [1, 2, 4, 7, 8, 9]) (n := 400) rfl (by decide) (by simp) (names_of rfl) ?_ ?_ ?_ h
  · intro s; cases s <;> exact ⟨hd_ok _ _, by simp [I148], names_of rfl, Nat.le_of_ble_eq_true rfl⟩
  · intro Kst Kret x hS hR h
    exact Holds.eq (te148 cond Kst Kret cn aq nq mq tq rp fl al nl ml tl) (be148 cn aq nq mq tq rp fl al nl ml tl Kst Kret x hS hR h)
  · intro Kst Kret x hS hR s h
    cases s with
    | h0 x0 x1 x2 x3 x4 x5 => exact Holds.eq (t148_0 cond Kst Kret cn aq nq mq tq rp fl al nl ml tl x0 x1 x2 x3 x4 x5) (b148_0 cn aq nq mq tq rp fl al nl ml tl Kst Kret x hS hR x0 x1 x2 x3 x4 x5 h)
noncomputable def k148 : Con := ⟨48, [.agg [.plain (.str), .list [.int .i64], .plain (.int .i64), .plain (.int .i64)], .one (.list [.int .i64])], fun (x : (ByteArray × (Nat × Nat × Nat × (Nat → Int) × Unit) × Int × Int × Unit) × (Nat × Nat × Nat × (Nat → Int) × Unit) × Unit) => (fun (cn : ByteArray) (aq nq mq : Nat) (tq : Nat → Int) (rp : Int) (fl : Int) (al nl ml : Nat) (tl : Nat → Int) => decide ((aq + nq ≤ mq ∧ nq ≤ 1000000) ∧ (al + nl ≤ ml ∧ nl ≤ 1000000))) x.1.1 x.1.2.1.1 x.1.2.1.2.1 x.1.2.1.2.2.1 x.1.2.1.2.2.2.1 x.1.2.2.1 x.1.2.2.2.1 x.2.1.1 x.2.1.2.1 x.2.1.2.2.1 x.2.1.2.2.2.1, fun (x : (ByteArray × (Nat × Nat × Nat × (Nat → Int) × Unit) × Int × Int × Unit) × (Nat × Nat × Nat × (Nat → Int) × Unit) × Unit) => (fun (cn : ByteArray) (aq nq mq : Nat) (tq : Nat → Int) (rp : Int) (fl : Int) (al nl ml : Nat) (tl : Nat → Int) => (V148 cn aq nq mq tq rp fl al nl ml tl) (S.behS (S.cyE cn nq (fun j => tq (j + aq)) rp fl) nq (fun j => tq (j + aq)) rp fl nl (fun j => tl (j + al)))) x.1.1 x.1.2.1.1 x.1.2.1.2.1 x.1.2.1.2.2.1 x.1.2.1.2.2.2.1 x.1.2.2.1 x.1.2.2.2.1 x.2.1.1 x.2.1.2.1 x.2.1.2.2.1 x.2.1.2.2.2.1, fun (x : (ByteArray × (Nat × Nat × Nat × (Nat → Int) × Unit) × Int × Int × Unit) × (Nat × Nat × Nat × (Nat → Int) × Unit) × Unit) => (fun (cn : ByteArray) (aq nq mq : Nat) (tq : Nat → Int) (rp : Int) (fl : Int) (al nl ml : Nat) (tl : Nat → Int) => (N148 cn aq nq mq tq rp fl al nl ml tl) (S.behS (S.cyE cn nq (fun j => tq (j + aq)) rp fl) nq (fun j => tq (j + aq)) rp fl nl (fun j => tl (j + al)))) x.1.1 x.1.2.1.1 x.1.2.1.2.1 x.1.2.1.2.2.1 x.1.2.1.2.2.2.1 x.1.2.2.1 x.1.2.2.2.1 x.2.1.1 x.2.1.2.1 x.2.1.2.2.1 x.2.1.2.2.2.1, fun _ _ => .dead⟩
theorem s148' (cn : ByteArray) (aq nq mq : Nat) (tq : Nat → Int) (rp : Int) (fl : Int) (al nl ml : Nat) (tl : Nat → Int) (hp : (aq + nq ≤ mq ∧ nq ≤ 1000000) ∧ (al + nl ≤ ml ∧ nl ≤ 1000000)) (hn : 2 ≤ nq ∧ nq ≤ 20) (L : List Int) (hL : 2 ≤ L.length ∧ L.length ≤ 1000) : ∀ (k i : Nat), i + k = nl → (∀ j, j < i → -1099511627776 ≤ tl (j + al) ∧ tl (j + al) ≤ 1099511627776) → Comes (q148 cn aq nq mq tq rp fl al nl ml tl) (match S.behK nq (fun j => tq (j + aq)) fl L.length (S.at' L) (fun j => tl (j + al)) i with | (x1, x2, x3, x4) => .h0 (i : Int) x1 x2 x3 x4 L) (if S.all (fun j => decide (-1099511627776 ≤ tl (j + al) ∧ tl (j + al) ≤ 1099511627776)) nl = true then (match S.behK nq (fun j => tq (j + aq)) fl L.length (S.at' L) (fun j => tl (j + al)) nl with | (x1, x2, x3, x4) => (x1, x2, x3, x4, 0)) else (0, false, false, 0, 6)) := by
  obtain ⟨⟨hp1, hp2⟩, hp3, hp4⟩ := hp
  have hb := beh_b (n := nq) (t := (fun j => tq (j + aq))) (fl := fl) (l := S.at' L) (x := (fun j => tl (j + al))) hL.1
  intro k
  induction k with
  | zero =>
    intro i hi hj
    obtain rfl : nl = i := by omega
    rw [if_pos (all_iff.mpr fun j h => decide_eq_true (hj j h))]
    obtain ⟨x1, x2, x3, x4, ha⟩ : ∃ x1 x2 x3 x4, S.behK nq (fun j => tq (j + aq)) fl L.length (S.at' L) (fun j => tl (j + al)) nl = (x1, x2, x3, x4) := ⟨_, _, _, _, rfl⟩
    rw [ha]
    show Comes (q148 cn aq nq mq tq rp fl al nl ml tl) (.h0 (nl : Int) x1 x2 x3 x4 L) (x1, x2, x3, x4, 0)
    apply Comes.of
    show Goes _ _ _
    (first | rw [q148] | unfold q148)
    repeat' first
      | with_reducible refine goes_if (fun h => ?_) (fun h => ?_) <;> (try simp only [lim64, imp_false, decide_eq_true_eq, decide_eq_false_iff_not, Int.toNat_natCast, toNat_pred, toNat_succ, Option.getD_some, Option.getD_none, Bool.not_eq_true', Bool.not_eq_false', Bool.and_eq_true, Bool.or_eq_true, Bool.and_eq_false_iff, Bool.or_eq_false_iff, bne_iff_ne, beq_iff_eq, bne_eq_false_iff_eq, beq_eq_false_iff_ne, ne_eq, not_and, Int.not_le, Int.not_lt, ge_iff_le, gt_iff_lt, Nat.not_lt, Nat.not_le, Bool.not_eq_true, Bool.not_eq_false, Bool.true_eq_false, Bool.false_eq_true, not_false_eq_true, not_true_eq_false] at h)
      | exact goes_none.mpr (by omega)
    all_goals first | (exfalso; omega) | exact goes_inr.mpr rfl
  | succ k ih =>
    intro i hi hj
    have hbi := hb i
    by_cases hc : -1099511627776 ≤ tl (i + al) ∧ tl (i + al) ≤ 1099511627776
    · have ih := ih (i + 1) (by omega) (fun j hlt => by
        rcases Nat.lt_or_eq_of_le (Nat.le_of_lt_succ hlt) with h2 | h2
        · exact hj j h2
        · subst h2; exact hc)
      have e1 : S.behK nq (fun j => tq (j + aq)) fl L.length (S.at' L) (fun j => tl (j + al)) (i + 1) = S.setS nq (fun j => tq (j + aq)) fl L.length (S.at' L) (S.behK nq (fun j => tq (j + aq)) fl L.length (S.at' L) (fun j => tl (j + al)) i) (tl (i + al)) := rfl
      rw [e1] at ih
      obtain ⟨x1, x2, x3, x4, ha⟩ : ∃ x1 x2 x3 x4, S.behK nq (fun j => tq (j + aq)) fl L.length (S.at' L) (fun j => tl (j + al)) i = (x1, x2, x3, x4) := ⟨_, _, _, _, rfl⟩
      rw [ha] at ih hbi ⊢
      show Comes (q148 cn aq nq mq tq rp fl al nl ml tl) (.h0 (i : Int) x1 x2 x3 x4 L) _
      have ih : Comes (q148 cn aq nq mq tq rp fl al nl ml tl) (.h0 (((i + 1 : Nat)) : Int) (S.setS nq (fun j => tq (j + aq)) fl L.length (S.at' L) (x1, x2, x3, x4) (tl (i + al))).1 (S.setS nq (fun j => tq (j + aq)) fl L.length (S.at' L) (x1, x2, x3, x4) (tl (i + al))).2.1 (S.setS nq (fun j => tq (j + aq)) fl L.length (S.at' L) (x1, x2, x3, x4) (tl (i + al))).2.2.1 (S.setS nq (fun j => tq (j + aq)) fl L.length (S.at' L) (x1, x2, x3, x4) (tl (i + al))).2.2.2 L) _ := ih
      dsimp only at hbi
      apply Comes.of
      show Goes _ _ _
      (first | rw [q148] | unfold q148)
      repeat' first
        | with_reducible refine goes_if (fun h => ?_) (fun h => ?_) <;> (try simp only [lim64, imp_false, decide_eq_true_eq, decide_eq_false_iff_not, Int.toNat_natCast, toNat_pred, toNat_succ, Option.getD_some, Option.getD_none, Bool.not_eq_true', Bool.not_eq_false', Bool.and_eq_true, Bool.or_eq_true, Bool.and_eq_false_iff, Bool.or_eq_false_iff, bne_iff_ne, beq_iff_eq, bne_eq_false_iff_eq, beq_eq_false_iff_ne, ne_eq, not_and, Int.not_le, Int.not_lt, ge_iff_le, gt_iff_lt, Nat.not_lt, Nat.not_le, Bool.not_eq_true, Bool.not_eq_false, Bool.true_eq_false, Bool.false_eq_true, not_false_eq_true, not_true_eq_false] at h)
        | exact goes_none.mpr (by omega)
      all_goals first | (exfalso; omega) | exact ih
    · rw [if_neg (all_no (show i < nl by omega) (decide_eq_false hc))]
      obtain ⟨x1, x2, x3, x4, ha⟩ : ∃ x1 x2 x3 x4, S.behK nq (fun j => tq (j + aq)) fl L.length (S.at' L) (fun j => tl (j + al)) i = (x1, x2, x3, x4) := ⟨_, _, _, _, rfl⟩
      rw [ha]
      show Comes (q148 cn aq nq mq tq rp fl al nl ml tl) (.h0 (i : Int) x1 x2 x3 x4 L) _
      apply Comes.of
      show Goes _ _ _
      (first | rw [q148] | unfold q148)
      repeat' first
        | with_reducible refine goes_if (fun h => ?_) (fun h => ?_) <;> (try simp only [lim64, imp_false, decide_eq_true_eq, decide_eq_false_iff_not, Int.toNat_natCast, toNat_pred, toNat_succ, Option.getD_some, Option.getD_none, Bool.not_eq_true', Bool.not_eq_false', Bool.and_eq_true, Bool.or_eq_true, Bool.and_eq_false_iff, Bool.or_eq_false_iff, bne_iff_ne, beq_iff_eq, bne_eq_false_iff_eq, beq_eq_false_iff_ne, ne_eq, not_and, Int.not_le, Int.not_lt, ge_iff_le, gt_iff_lt, Nat.not_lt, Nat.not_le, Bool.not_eq_true, Bool.not_eq_false, Bool.true_eq_false, Bool.false_eq_true, not_false_eq_true, not_true_eq_false] at h)
        | exact goes_none.mpr (by omega)
      all_goals first | (exfalso; omega) | exact goes_inr.mpr rfl
end Go.Ev
