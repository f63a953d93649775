/-
  Extremes as they are specified.
-/
import Derived.Test.YtedbjnojogjnkaaX1
namespace Go.Ev
open Go.Proofs
set_option linter.unusedVariables false
set_option linter.unusedSimpArgs false
set_option maxHeartbeats 2000000 in
theorem o33 (al nl ml : Nat) (tl vl : Nat → Int) (gl : Nat → Bool) (K : Nat) (hp : al + nl ≤ ml) (hn : nl ≤ 400) (hK : 1 ≤ K ∧ K ≤ 200) : ∀ d p : Nat, p + d = K → Comes (q33 al nl ml tl vl gl (K : Int)) (.h0 (p : Int) (S.extL (fun j => (tl (j + al), vl (j + al), gl (j + al))) nl K p)) ((0 : Int), S.extL (fun j => (tl (j + al), vl (j + al), gl (j + al))) nl K K) := by
  intro d
  induction d with
  | zero =>
    intro p h
    obtain rfl : p = K := by omega
    apply Comes.of
    show Goes _ _ _
    unfold q33
    repeat' first
      | with_reducible refine goes_if (fun h => ?_) (fun h => ?_) <;> (try simp only [lim64, decide_eq_true_eq, decide_eq_false_iff_not, Int.toNat_natCast, toNat_pred, toNat_succ, Option.getD_some, Option.getD_none, Bool.not_eq_true', Bool.not_eq_false', Bool.and_eq_true, Bool.or_eq_true, Bool.and_eq_false_iff, Bool.or_eq_false_iff, bne_iff_ne, beq_iff_eq, bne_eq_false_iff_eq, beq_eq_false_iff_ne, ne_eq, not_and, Int.not_le, Int.not_lt, ge_iff_le, gt_iff_lt, Nat.not_lt, Nat.not_le, Bool.not_eq_true, Bool.not_eq_false, Bool.true_eq_false, Bool.false_eq_true, not_false_eq_true, not_true_eq_false] at h)
      | exact goes_none.mpr (by omega)
    all_goals first | (exfalso; omega) | rfl
  | succ d ih =>
    intro p h
    have ih := ih (p + 1) (by omega)
    obtain ⟨f1, f2⟩ := cutP_facts (n := nl) (k := K) (p := p) (by omega)
    have m1 := mul_lim (n := nl) (p := p) hn (by omega)
    have m2 := mul_lim' (n := nl) (p := p) hn (by omega)
    have hl := extL_len (row := (fun j => (tl (j + al), vl (j + al), gl (j + al)))) (n := nl) (k := K) p
    have i1 := fun (h : S.cutP nl K p < S.cutP nl K (p + 1)) (r : Rt33) => i33 al nl ml tl vl gl (K : Int) hp hn p (S.cutP nl K p) (S.cutP nl K (p + 1)) f2 (by omega) (S.extL (fun j => (tl (j + al), vl (j + al), gl (j + al))) nl K p) (by omega) (r := r) (S.cutP nl K (p + 1) - S.cutP nl K p) (S.cutP nl K p) (S.cutP nl K p) (S.cutP nl K p) (by omega) (Nat.le_refl _) h (Nat.le_refl _) (Nat.le_refl _) (Nat.le_refl _) (Nat.le_refl _) h h
    try simp only [Nat.sub_self] at i1
    simp only [S.extL] at ih
    by_cases hc : S.cutP nl K p = S.cutP nl K (p + 1)
    · rw [if_pos hc] at ih
      apply Comes.of
      show Goes _ _ _
      unfold q33
      repeat' first
        | with_reducible refine goes_if (fun h => ?_) (fun h => ?_) <;> (try simp only [lim64, decide_eq_true_eq, decide_eq_false_iff_not, Int.toNat_natCast, toNat_pred, toNat_succ, Option.getD_some, Option.getD_none, Bool.not_eq_true', Bool.not_eq_false', Bool.and_eq_true, Bool.or_eq_true, Bool.and_eq_false_iff, Bool.or_eq_false_iff, bne_iff_ne, beq_iff_eq, bne_eq_false_iff_eq, beq_eq_false_iff_ne, ne_eq, not_and, Int.not_le, Int.not_lt, ge_iff_le, gt_iff_lt, Nat.not_lt, Nat.not_le, Bool.not_eq_true, Bool.not_eq_false, Bool.true_eq_false, Bool.false_eq_true, not_false_eq_true, not_true_eq_false, cutP_int, cutP_int'] at h)
        | exact goes_none.mpr (by omega)
      all_goals (try simp only [cutP_int, cutP_int'] at *)
      all_goals first | (exfalso; omega) | exact ih
    · rw [if_neg hc] at ih
      have i1 := i1 (by omega) _ ih
      apply Comes.of
      show Goes _ _ _
      unfold q33
      repeat' first
        | with_reducible refine goes_if (fun h => ?_) (fun h => ?_) <;> (try simp only [lim64, decide_eq_true_eq, decide_eq_false_iff_not, Int.toNat_natCast, toNat_pred, toNat_succ, Option.getD_some, Option.getD_none, Bool.not_eq_true', Bool.not_eq_false', Bool.and_eq_true, Bool.or_eq_true, Bool.and_eq_false_iff, Bool.or_eq_false_iff, bne_iff_ne, beq_iff_eq, bne_eq_false_iff_eq, beq_eq_false_iff_ne, ne_eq, not_and, Int.not_le, Int.not_lt, ge_iff_le, gt_iff_lt, Nat.not_lt, Nat.not_le, Bool.not_eq_true, Bool.not_eq_false, Bool.true_eq_false, Bool.false_eq_true, not_false_eq_true, not_true_eq_false, cutP_int, cutP_int'] at h)
        | exact goes_none.mpr (by omega)
      all_goals (try simp only [cutP_int, cutP_int', Int.toNat_natCast] at *)
      all_goals first | (exfalso; omega) | exact i1
theorem s33 (al nl ml : Nat) (tl : Nat → Int) (vl : Nat → Int) (gl : Nat → Bool) (k : Int) (hp : al + nl ≤ ml ∧ nl ≤ 1000000) : Goes ((q33 al nl ml tl vl gl k)) ((p33 al nl ml tl vl gl k)) (S.extR nl (fun j => tl (j + al)) (fun j => vl (j + al)) (fun j => gl (j + al)) k) := by
  obtain ⟨hp1, hp2⟩ := hp
  unfold S.extR
  by_cases h4 : 400 < nl
  · rw [if_pos h4]
    show Goes _ _ _
    unfold p33
    repeat' first
      | with_reducible refine goes_if (fun h => ?_) (fun h => ?_) <;> (try simp only [lim64, decide_eq_true_eq, decide_eq_false_iff_not, Int.toNat_natCast, toNat_pred, toNat_succ, Option.getD_some, Option.getD_none, Bool.not_eq_true', Bool.not_eq_false', Bool.and_eq_true, Bool.or_eq_true, Bool.and_eq_false_iff, Bool.or_eq_false_iff, bne_iff_ne, beq_iff_eq, bne_eq_false_iff_eq, beq_eq_false_iff_ne, ne_eq, not_and, Int.not_le, Int.not_lt, ge_iff_le, gt_iff_lt, Nat.not_lt, Nat.not_le, Bool.not_eq_true, Bool.not_eq_false, Bool.true_eq_false, Bool.false_eq_true, not_false_eq_true, not_true_eq_false] at h)
      | exact goes_none.mpr (by omega)
    all_goals first | (exfalso; omega) | rfl
  rw [if_neg h4]
  generalize he : S.errS (fun j => tl (j + al)) (fun j => vl (j + al)) 0 nl = e
  by_cases h0 : e = 0
  · rw [if_pos h0]
    by_cases hk : 1 ≤ k ∧ k ≤ 200
    · rw [if_pos hk]
      obtain ⟨K, rfl⟩ : ∃ K : Nat, k = (K : Int) := ⟨k.toNat, by omega⟩
      have hm := o33 al nl ml tl vl gl K hp1 (by omega) (by omega) K 0 (by omega)
      show Goes _ _ _
      unfold p33; rw [he]
      repeat' first
        | with_reducible refine goes_if (fun h => ?_) (fun h => ?_) <;> (try simp only [lim64, decide_eq_true_eq, decide_eq_false_iff_not, Int.toNat_natCast, toNat_pred, toNat_succ, Option.getD_some, Option.getD_none, Bool.not_eq_true', Bool.not_eq_false', Bool.and_eq_true, Bool.or_eq_true, Bool.and_eq_false_iff, Bool.or_eq_false_iff, bne_iff_ne, beq_iff_eq, bne_eq_false_iff_eq, beq_eq_false_iff_ne, ne_eq, not_and, Int.not_le, Int.not_lt, ge_iff_le, gt_iff_lt, Nat.not_lt, Nat.not_le, Bool.not_eq_true, Bool.not_eq_false, Bool.true_eq_false, Bool.false_eq_true, not_false_eq_true, not_true_eq_false] at h)
        | exact goes_none.mpr (by omega)
      all_goals first | (exfalso; omega) | exact hm
    · rw [if_neg hk]
      show Goes _ _ _
      unfold p33; rw [he]
      repeat' first
        | with_reducible refine goes_if (fun h => ?_) (fun h => ?_) <;> (try simp only [lim64, decide_eq_true_eq, decide_eq_false_iff_not, Int.toNat_natCast, toNat_pred, toNat_succ, Option.getD_some, Option.getD_none, Bool.not_eq_true', Bool.not_eq_false', Bool.and_eq_true, Bool.or_eq_true, Bool.and_eq_false_iff, Bool.or_eq_false_iff, bne_iff_ne, beq_iff_eq, bne_eq_false_iff_eq, beq_eq_false_iff_ne, ne_eq, not_and, Int.not_le, Int.not_lt, ge_iff_le, gt_iff_lt, Nat.not_lt, Nat.not_le, Bool.not_eq_true, Bool.not_eq_false, Bool.true_eq_false, Bool.false_eq_true, not_false_eq_true, not_true_eq_false] at h)
        | exact goes_none.mpr (by omega)
      all_goals first | (exfalso; omega) | rfl
  · rw [if_neg h0]
    show Goes _ _ _
    unfold p33; rw [he]
    repeat' first
      | with_reducible refine goes_if (fun h => ?_) (fun h => ?_) <;> (try simp only [lim64, decide_eq_true_eq, decide_eq_false_iff_not, Int.toNat_natCast, toNat_pred, toNat_succ, Option.getD_some, Option.getD_none, Bool.not_eq_true', Bool.not_eq_false', Bool.and_eq_true, Bool.or_eq_true, Bool.and_eq_false_iff, Bool.or_eq_false_iff, bne_iff_ne, beq_iff_eq, bne_eq_false_iff_eq, beq_eq_false_iff_ne, ne_eq, not_and, Int.not_le, Int.not_lt, ge_iff_le, gt_iff_lt, Nat.not_lt, Nat.not_le, Bool.not_eq_true, Bool.not_eq_false, Bool.true_eq_false, Bool.false_eq_true, not_false_eq_true, not_true_eq_false] at h)
      | exact goes_none.mpr (by omega)
    all_goals first | (exfalso; omega) | rfl

theorem k33_ok : k33.ok Try.prog := by
  intro x hx
  obtain ⟨⟨al, nl, ml, tl, vl, gl, _⟩, k, _⟩ := x
  obtain ⟨h1, h2⟩ := a33 al nl ml tl vl gl k (s33 al nl ml tl vl gl k (of_decide_eq_true hx))
  exact ⟨⟨400, (by decide : 1 + 1 + 1 ≤ 400), h1⟩, h2⟩
set_option maxHeartbeats 2000000 in
theorem o31 (al nl ml : Nat) (tl vl : Nat → Int) (gl : Nat → Bool) (K : Nat) (hp : al + nl ≤ ml) (hn : nl ≤ 400) (hK : 1 ≤ K ∧ K ≤ 200) : ∀ d p : Nat, p + d = K → Comes (q31 al nl ml tl vl gl (K : Int)) (.h0 (p : Int) (S.extL (fun j => (tl (j + al), vl (j + al), gl (j + al))) nl K p)) ((0 : Int), S.extL (fun j => (tl (j + al), vl (j + al), gl (j + al))) nl K K) := by
  intro d
  induction d with
  | zero =>
    intro p h
    obtain rfl : p = K := by omega
    apply Comes.of
    show Goes _ _ _
    unfold q31
    repeat' first
      | with_reducible refine goes_if (fun h => ?_) (fun h => ?_) <;> (try simp only [lim64, decide_eq_true_eq, decide_eq_false_iff_not, Int.toNat_natCast, toNat_pred, toNat_succ, Option.getD_some, Option.getD_none, Bool.not_eq_true', Bool.not_eq_false', Bool.and_eq_true, Bool.or_eq_true, Bool.and_eq_false_iff, Bool.or_eq_false_iff, bne_iff_ne, beq_iff_eq, bne_eq_false_iff_eq, beq_eq_false_iff_ne, ne_eq, not_and, Int.not_le, Int.not_lt, ge_iff_le, gt_iff_lt, Nat.not_lt, Nat.not_le, Bool.not_eq_true, Bool.not_eq_false, Bool.true_eq_false, Bool.false_eq_true, not_false_eq_true, not_true_eq_false] at h)
      | exact goes_none.mpr (by omega)
    all_goals first | (exfalso; omega) | rfl
  | succ d ih =>
    intro p h
    have ih := ih (p + 1) (by omega)
    obtain ⟨f1, f2⟩ := cutP_facts (n := nl) (k := K) (p := p) (by omega)
    have m1 := mul_lim (n := nl) (p := p) hn (by omega)
    have m2 := mul_lim' (n := nl) (p := p) hn (by omega)
    have hl := extL_len (row := (fun j => (tl (j + al), vl (j + al), gl (j + al)))) (n := nl) (k := K) p
    have i1 := fun (h : S.cutP nl K p < S.cutP nl K (p + 1)) (r : Rt31) => i31 al nl ml tl vl gl (K : Int) hp hn p (S.cutP nl K p) (S.cutP nl K (p + 1)) f2 (by omega) (S.extL (fun j => (tl (j + al), vl (j + al), gl (j + al))) nl K p) (by omega) (r := r) (S.cutP nl K (p + 1) - S.cutP nl K p) (S.cutP nl K p) (S.cutP nl K p) (S.cutP nl K p) (by omega) (Nat.le_refl _) h (Nat.le_refl _) (Nat.le_refl _) (Nat.le_refl _) (Nat.le_refl _) h h
    try simp only [Nat.sub_self] at i1
    simp only [S.extL] at ih
    by_cases hc : S.cutP nl K p = S.cutP nl K (p + 1)
    · rw [if_pos hc] at ih
      apply Comes.of
      show Goes _ _ _
      unfold q31
      repeat' first
        | with_reducible refine goes_if (fun h => ?_) (fun h => ?_) <;> (try simp only [lim64, decide_eq_true_eq, decide_eq_false_iff_not, Int.toNat_natCast, toNat_pred, toNat_succ, Option.getD_some, Option.getD_none, Bool.not_eq_true', Bool.not_eq_false', Bool.and_eq_true, Bool.or_eq_true, Bool.and_eq_false_iff, Bool.or_eq_false_iff, bne_iff_ne, beq_iff_eq, bne_eq_false_iff_eq, beq_eq_false_iff_ne, ne_eq, not_and, Int.not_le, Int.not_lt, ge_iff_le, gt_iff_lt, Nat.not_lt, Nat.not_le, Bool.not_eq_true, Bool.not_eq_false, Bool.true_eq_false, Bool.false_eq_true, not_false_eq_true, not_true_eq_false, cutP_int, cutP_int'] at h)
        | exact goes_none.mpr (by omega)
      all_goals (try simp only [cutP_int, cutP_int'] at *)
      all_goals first | (exfalso; omega) | exact ih
    · rw [if_neg hc] at ih
      have i1 := i1 (by omega) _ ih
      apply Comes.of
      show Goes _ _ _
      unfold q31
      repeat' first
        | with_reducible refine goes_if (fun h => ?_) (fun h => ?_) <;> (try simp only [lim64, decide_eq_true_eq, decide_eq_false_iff_not, Int.toNat_natCast, toNat_pred, toNat_succ, Option.getD_some, Option.getD_none, Bool.not_eq_true', Bool.not_eq_false', Bool.and_eq_true, Bool.or_eq_true, Bool.and_eq_false_iff, Bool.or_eq_false_iff, bne_iff_ne, beq_iff_eq, bne_eq_false_iff_eq, beq_eq_false_iff_ne, ne_eq, not_and, Int.not_le, Int.not_lt, ge_iff_le, gt_iff_lt, Nat.not_lt, Nat.not_le, Bool.not_eq_true, Bool.not_eq_false, Bool.true_eq_false, Bool.false_eq_true, not_false_eq_true, not_true_eq_false, cutP_int, cutP_int'] at h)
        | exact goes_none.mpr (by omega)
      all_goals (try simp only [cutP_int, cutP_int', Int.toNat_natCast] at *)
      all_goals first | (exfalso; omega) | exact i1
theorem s31 (al nl ml : Nat) (tl : Nat → Int) (vl : Nat → Int) (gl : Nat → Bool) (k : Int) (hp : al + nl ≤ ml ∧ nl ≤ 1000000) : Goes ((q31 al nl ml tl vl gl k)) ((p31 al nl ml tl vl gl k)) (S.extR nl (fun j => tl (j + al)) (fun j => vl (j + al)) (fun j => gl (j + al)) k) := by
  obtain ⟨hp1, hp2⟩ := hp
  unfold S.extR
  by_cases h4 : 400 < nl
  · rw [if_pos h4]
    show Goes _ _ _
    unfold p31
    repeat' first
      | with_reducible refine goes_if (fun h => ?_) (fun h => ?_) <;> (try simp only [lim64, decide_eq_true_eq, decide_eq_false_iff_not, Int.toNat_natCast, toNat_pred, toNat_succ, Option.getD_some, Option.getD_none, Bool.not_eq_true', Bool.not_eq_false', Bool.and_eq_true, Bool.or_eq_true, Bool.and_eq_false_iff, Bool.or_eq_false_iff, bne_iff_ne, beq_iff_eq, bne_eq_false_iff_eq, beq_eq_false_iff_ne, ne_eq, not_and, Int.not_le, Int.not_lt, ge_iff_le, gt_iff_lt, Nat.not_lt, Nat.not_le, Bool.not_eq_true, Bool.not_eq_false, Bool.true_eq_false, Bool.false_eq_true, not_false_eq_true, not_true_eq_false] at h)
      | exact goes_none.mpr (by omega)
    all_goals first | (exfalso; omega) | rfl
  rw [if_neg h4]
  generalize he : S.errS (fun j => tl (j + al)) (fun j => vl (j + al)) 0 nl = e
  by_cases h0 : e = 0
  · rw [if_pos h0]
    by_cases hk : 1 ≤ k ∧ k ≤ 200
    · rw [if_pos hk]
      obtain ⟨K, rfl⟩ : ∃ K : Nat, k = (K : Int) := ⟨k.toNat, by omega⟩
      have hm := o31 al nl ml tl vl gl K hp1 (by omega) (by omega) K 0 (by omega)
      show Goes _ _ _
      unfold p31; rw [he]
      repeat' first
        | with_reducible refine goes_if (fun h => ?_) (fun h => ?_) <;> (try simp only [lim64, decide_eq_true_eq, decide_eq_false_iff_not, Int.toNat_natCast, toNat_pred, toNat_succ, Option.getD_some, Option.getD_none, Bool.not_eq_true', Bool.not_eq_false', Bool.and_eq_true, Bool.or_eq_true, Bool.and_eq_false_iff, Bool.or_eq_false_iff, bne_iff_ne, beq_iff_eq, bne_eq_false_iff_eq, beq_eq_false_iff_ne, ne_eq, not_and, Int.not_le, Int.not_lt, ge_iff_le, gt_iff_lt, Nat.not_lt, Nat.not_le, Bool.not_eq_true, Bool.not_eq_false, Bool.true_eq_false, Bool.false_eq_true, not_false_eq_true, not_true_eq_false] at h)
        | exact goes_none.mpr (by omega)
      all_goals first | (exfalso; omega) | exact hm
    · rw [if_neg hk]
      show Goes _ _ _
      unfold p31; rw [he]
      repeat' first
        | with_reducible refine goes_if (fun h => ?_) (fun h => ?_) <;> (try simp only [lim64, decide_eq_true_eq, decide_eq_false_iff_not, Int.toNat_natCast, toNat_pred, toNat_succ, Option.getD_some, Option.getD_none, Bool.not_eq_true', Bool.not_eq_false', Bool.and_eq_true, Bool.or_eq_true, Bool.and_eq_false_iff, Bool.or_eq_false_iff, bne_iff_ne, beq_iff_eq, bne_eq_false_iff_eq, beq_eq_false_iff_ne, ne_eq, not_and, Int.not_le, Int.not_lt, ge_iff_le, gt_iff_lt, Nat.not_lt, Nat.not_le, Bool.not_eq_true, Bool.not_eq_false, Bool.true_eq_false, Bool.false_eq_true, not_false_eq_true, not_true_eq_false] at h)
        | exact goes_none.mpr (by omega)
      all_goals first | (exfalso; omega) | rfl
  · rw [if_neg h0]
    show Goes _ _ _
    unfold p31; rw [he]
    repeat' first
      | with_reducible refine goes_if (fun h => ?_) (fun h => ?_) <;> (try simp only [lim64, decide_eq_true_eq, decide_eq_false_iff_not, Int.toNat_natCast, toNat_pred, toNat_succ, Option.getD_some, Option.getD_none, Bool.not_eq_true', Bool.not_eq_false', Bool.and_eq_true, Bool.or_eq_true, Bool.and_eq_false_iff, Bool.or_eq_false_iff, bne_iff_ne, beq_iff_eq, bne_eq_false_iff_eq, beq_eq_false_iff_ne, ne_eq, not_and, Int.not_le, Int.not_lt, ge_iff_le, gt_iff_lt, Nat.not_lt, Nat.not_le, Bool.not_eq_true, Bool.not_eq_false, Bool.true_eq_false, Bool.false_eq_true, not_false_eq_true, not_true_eq_false] at h)
      | exact goes_none.mpr (by omega)
    all_goals first | (exfalso; omega) | rfl

theorem k31_ok : k31.ok Try.prog := by
  intro x hx
  obtain ⟨⟨al, nl, ml, tl, vl, gl, _⟩, k, _⟩ := x
  obtain ⟨h1, h2⟩ := a31 al nl ml tl vl gl k (s31 al nl ml tl vl gl k (of_decide_eq_true hx))
  exact ⟨⟨400, (by decide : 1 + 1 + 1 ≤ 400), h1⟩, h2⟩
noncomputable def xL (test : Bool → Prop → Prop → Prop) : Ext := consX test [k11, k31, k33, k32, k22, k35]
theorem xL_ok : ExtOk Try.prog (xL cond) := consX_ok ⟨k11_ok, k31_ok, k33_ok, k32_ok, k22_ok, k35_ok, trivial⟩

end Go.Ev
