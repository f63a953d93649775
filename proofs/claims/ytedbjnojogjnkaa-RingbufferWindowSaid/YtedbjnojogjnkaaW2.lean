/-
  Windows that are neighbours.
-/
import Derived.Test.YtedbjnojogjnkaaW1
namespace Go.Ev
open Go.Proofs
set_option linter.unusedVariables false
set_option linter.unusedSimpArgs false
set_option maxRecDepth 100000

theorem errS_ok {t v : Nat → Int} : ∀ (k i : Nat), S.errS t v i k = 0 ↔ ∀ j, i ≤ j → j < i + k → S.okS (t j) (v j) = true ∧ (0 < j → t (j - 1) ≤ t j) := by
  intro k
  induction k with
  | zero => intro i; simp only [S.errS, true_iff]; intro j h1 h2; omega
  | succ k ih =>
    intro i
    simp only [S.errS]
    constructor
    · intro h j h1 h2
      split at h
      · rename_i ho
        split at h
        · cases h
        · rename_i hd
          rcases Nat.lt_or_ge i j with h3 | h3
          · exact (ih (i + 1)).1 h j h3 (by omega)
          · obtain rfl : j = i := by omega
            exact ⟨ho, fun h0 => by omega⟩
      · cases h
    · intro h
      obtain ⟨h1, h2⟩ := h i (Nat.le_refl _) (by omega)
      rw [if_pos h1, if_neg (by intro h3; have := h2 h3.1; omega)]
      exact (ih (i + 1)).2 fun j h3 h4 => h j (by omega) (by omega)
section
variable {ca af ov re a b : Int} {fz : Bool} {n : Nat}
theorem winR_mkl {f : Nat → Row} : S.winR ca af (S.mkl n f).length (fun j => (S.at' (S.mkl n f) j).1) (fun j => (S.at' (S.mkl n f) j).2.1) (fun j => (S.at' (S.mkl n f) j).2.2) ov re fz a b = S.winR ca af n (fun j => (f j).1) (fun j => (f j).2.1) (fun j => (f j).2.2) ov re fz a b := by
  simp only [S.winR, vB_mkl, mkl3_at]
theorem winR_len {t v : Nat → Int} {g : Nat → Bool} : (S.winR ca af n t v g ov re fz a b).2.length ≤ n := by
  unfold S.winR
  split
  · split
    · exact Nat.le_trans (List.length_filter_le _ _) (Nat.le_of_eq mkl_len)
    · exact Nat.zero_le _
  · exact Nat.zero_le _
theorem filter_two {L : List Row} {a b c : Int} (hab : a ≤ b) (hbc : b ≤ c) (hs : L.Pairwise fun x y => x.1 ≤ y.1) : L.filter (S.inW a c) = L.filter (S.inW a b) ++ L.filter (S.inW b c) := by
  induction L with
  | nil => rfl
  | cons x L ih =>
    obtain ⟨h1, h2⟩ := List.pairwise_cons.1 hs
    have ih := ih h2
    by_cases hb : x.1 < b
    · have e3 : S.inW b c x = false := decide_eq_false (by omega)
      by_cases ha : a ≤ x.1
      · have e1 : S.inW a c x = true := decide_eq_true (by omega)
        have e2 : S.inW a b x = true := decide_eq_true (by omega)
        simp only [List.filter_cons, e1, e2, e3, if_true, Bool.false_eq_true, if_false, ih, List.cons_append]
      · have e1 : S.inW a c x = false := decide_eq_false (by omega)
        have e2 : S.inW a b x = false := decide_eq_false (by omega)
        simp only [List.filter_cons, e1, e2, e3, Bool.false_eq_true, if_false, ih]
    · have hn : ∀ y ∈ x :: L, S.inW a b y = false := fun y hy => by
        rcases List.mem_cons.1 hy with rfl | hy
        · exact decide_eq_false (by omega)
        · have := h1 y hy; exact decide_eq_false (by omega)
      rw [show (x :: L).filter (S.inW a b) = [] from List.filter_eq_nil_iff.2 fun y hy => by simp [hn y hy], List.nil_append]
      apply List.filter_congr
      intro y hy
      have h3 : b ≤ y.1 := by
        rcases List.mem_cons.1 hy with rfl | hy
        · omega
        · have := h1 y hy; omega
      by_cases h4 : y.1 < c
      · rw [show S.inW a c y = true from decide_eq_true (by omega), show S.inW b c y = true from decide_eq_true (by omega)]
      · rw [show S.inW a c y = false from decide_eq_false (by omega), show S.inW b c y = false from decide_eq_false (by omega)]
theorem mkl_sorted {t v : Nat → Int} {g : Nat → Bool} (h : S.errS t v 0 n = 0) : (S.mkl n fun j => (t j, v j, g j)).Pairwise fun x y => x.1 ≤ y.1 := by
  have h0 := (errS_ok n 0).1 h
  have hm : ∀ d i, i + d < n → t i ≤ t (i + d) := by
    intro d
    induction d with
    | zero => intro i hi; exact Int.le_refl _
    | succ d ih =>
      intro i hi
      have h1 := ih i (by omega)
      have h2 := (h0 (i + (d + 1)) (by omega) (by omega)).2 (by omega)
      rw [show i + (d + 1) - 1 = i + d by omega] at h2
      omega
  rw [S.mkl, List.pairwise_map]
  refine List.pairwise_iff_getElem.2 fun i j hi hj hij => ?_
  simp only [List.length_range] at hi hj
  simp only [List.getElem_range]
  have := hm (j - i) i (by omega)
  rwa [show i + (j - i) = j by omega] at this
theorem winR_two {t v : Nat → Int} {g : Nat → Bool} {c : Int} (h1 : (S.winR ca af n t v g ov re fz a b).1 = 0) (h2 : (S.winR ca af n t v g ov re fz b c).1 = 0) : (S.winR ca af n t v g ov re fz a c).1 = 0 ∧ (S.winR ca af n t v g ov re fz a c).2 = (S.winR ca af n t v g ov re fz a b).2 ++ (S.winR ca af n t v g ov re fz b c).2 := by
  by_cases hv : S.vB ca af n t v ov re fz = 0
  · have key : ∀ x y : Int, S.winR ca af n t v g ov re fz x y = if 0 ≤ x ∧ x ≤ y ∧ y ≤ 1099511627776 then (0, (S.mkl n fun j => (t j, v j, g j)).filter (S.inW x y)) else (6, []) := fun x y => by simp only [S.winR, if_pos hv]
    rw [key] at h1 h2
    rw [key, key, key]
    by_cases c1 : 0 ≤ a ∧ a ≤ b ∧ b ≤ 1099511627776
    · by_cases c2 : 0 ≤ b ∧ b ≤ c ∧ c ≤ 1099511627776
      · have c3 : 0 ≤ a ∧ a ≤ c ∧ c ≤ 1099511627776 := by omega
        rw [if_pos c1, if_pos c2, if_pos c3]
        exact ⟨rfl, filter_two (by omega) (by omega) (mkl_sorted (vB_ok hv).2.2.2.2.2.2.2.2.2.2.2.2)⟩
      · rw [if_neg c2] at h2; cases h2
    · rw [if_neg c1] at h1; cases h1
  · unfold S.winR at h1
    rw [if_neg hv] at h1
    contradiction
end

end Go.Ev
