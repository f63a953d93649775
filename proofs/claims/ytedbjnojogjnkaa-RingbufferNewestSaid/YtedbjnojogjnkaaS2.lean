/-
  Steps keep a buffer valid.
-/
import Derived.Test.YtedbjnojogjnkaaW2
import Derived.Test.YtedbjnojogjnkaaL9
namespace Go.Ev
open Go.Proofs
set_option linter.unusedVariables false
set_option linter.unusedSimpArgs false

namespace S
/-- The error of a buffer with its list. -/
def vBu (ca af : Int) (L : List (Int × Int × Bool)) (ov re : Int) (fz : Bool) : Int := vB ca af L.length (fun j => (at' L j).1) (fun j => (at' L j).2.1) ov re fz
def okB (b : Bu) : Prop := vBu b.1 b.2.1 b.2.2.2.2.2.2 b.2.2.1 b.2.2.2.1 b.2.2.2.2.1 = 0
end S
theorem vBu_mk {ca af ov re : Int} {fz : Bool} {L : List Row} (h1 : 1 ≤ ca ∧ ca ≤ 200 ∧ 0 ≤ af ∧ af ≤ 200 ∧ 0 ≤ ov ∧ ov ≤ 1099511627776 ∧ -1 ≤ re ∧ re ≤ af) (h2 : (L.length : Int) ≤ ca) (h3 : (fz = true → re = 0) ∧ (re = 0 → fz = true) ∧ ¬ (0 < ov ∧ (L.length : Int) < ca)) (h4 : S.errS (fun j => (S.at' L j).1) (fun j => (S.at' L j).2.1) 0 L.length = 0) : S.vBu ca af L ov re fz = 0 := by
  unfold S.vBu S.vB
  rw [if_pos h1, if_pos h4, if_pos h2, if_pos h3]
theorem errS_snoc {L : List Row} {x : Row} (h : S.errS (fun j => (S.at' L j).1) (fun j => (S.at' L j).2.1) 0 L.length = 0) (hx : S.okS x.1 x.2.1 = true) (hl : 0 < L.length → (S.at' L (L.length - 1)).1 ≤ x.1) :
    S.errS (fun j => (S.at' (S.snoc L x) j).1) (fun j => (S.at' (S.snoc L x) j).2.1) 0 (S.snoc L x).length = 0 := by
  have h0 := (errS_ok _ 0).1 h
  refine (errS_ok _ 0).2 fun j _ hj => ?_
  rw [snoc_len] at hj
  rcases Nat.lt_or_ge j L.length with h1 | h1
  · obtain ⟨a, b⟩ := h0 j (by omega) (by omega)
    refine ⟨by simp only [at_snoc_lt h1]; exact a, fun h2 => ?_⟩
    simp only [at_snoc_lt h1, at_snoc_lt (show j - 1 < L.length by omega)]
    exact b h2
  · obtain rfl : j = L.length := by omega
    refine ⟨by simp only [at_snoc_eq]; exact hx, fun h2 => ?_⟩
    simp only [at_snoc_eq, at_snoc_lt (show L.length - 1 < L.length by omega)]
    exact hl h2
theorem errS_mkl {n : Nat} {f : Nat → Row} (h : S.errS (fun j => (f j).1) (fun j => (f j).2.1) 0 n = 0) : S.errS (fun j => (S.at' (S.mkl n f) j).1) (fun j => (S.at' (S.mkl n f) j).2.1) 0 (S.mkl n f).length = 0 := by
  rw [mkl_len, errS_congr n 0 (t' := fun j => (f j).1) (v' := fun j => (f j).2.1) fun j _ hj => by rw [at_mkl (by omega)]; exact ⟨rfl, rfl⟩]
  exact h
section
variable {ca af ov re st sv a kd : Int} {fz sg : Bool} {n : Nat} {t v : Nat → Int} {g : Nat → Bool}
theorem put_facts (h : S.putE ca af n t v ov re fz st sv = 0) : S.vB ca af n t v ov re fz = 0 ∧ fz = false ∧ S.okS st sv = true ∧ ¬ (0 < n ∧ st < t (n - 1)) ∧ ov ≠ 1099511627776 := by
  unfold S.putE at h
  by_cases h1 : S.vB ca af n t v ov re fz = 0
  · rw [if_pos h1] at h
    cases fz with
    | true => simp at h
    | false =>
      simp only [Bool.false_eq_true, if_false] at h
      by_cases h2 : S.okS st sv = true
      · rw [if_pos h2] at h
        by_cases h3 : 0 < n ∧ st < t (n - 1)
        · rw [if_pos h3] at h; cases h
        · rw [if_neg h3] at h
          by_cases h4 : ov = 1099511627776
          · rw [if_pos h4] at h; cases h
          · exact ⟨h1, rfl, h2, h3, h4⟩
      · rw [if_neg h2] at h; cases h
  · rw [if_neg h1] at h; exact absurd h h1
theorem put_e : (S.putS ca af n t v g ov re fz st sv sg).2.2.2.2.2.1 = S.putE ca af n t v ov re fz st sv := by
  unfold S.putS
  split
  · rename_i h; exact h.symm
  · rfl
theorem put_ok (h : (S.putS ca af n t v g ov re fz st sv sg).2.2.2.2.2.1 = 0) : (S.putS ca af n t v g ov re fz st sv sg).1 = ca ∧ (S.putS ca af n t v g ov re fz st sv sg).2.1 = af ∧ S.okB (S.putS ca af n t v g ov re fz st sv sg) := by
  rw [put_e] at h
  obtain ⟨hv, hf, ho, ht, hm⟩ := put_facts h
  obtain ⟨v1, v2, v3, v4, v5, v6, v7, v8, v9, v10, v11, v12, v13⟩ := vB_ok hv
  subst hf
  have v11' : re ≠ 0 := fun e => by have := v11 e; cases this
  have hE := (errS_ok n 0).1 v13
  unfold S.putS S.okB
  rw [if_pos h]
  refine ⟨rfl, rfl, ?_⟩
  simp only
  by_cases hc : (n : Int) = ca
  · simp only [if_pos hc]
    refine vBu_mk ⟨v1, v2, v3, v4, by omega, by omega, by split <;> omega, by split <;> omega⟩ (by rw [snoc_len, mkl_len]; omega) ⟨fun h1 => ?_, fun h1 => ?_, by rw [snoc_len, mkl_len]; omega⟩ (errS_snoc (errS_mkl ((errS_ok _ 0).2 fun j _ hj => ?_)) ho fun hl => ?_)
    · split at h1
      · split <;> omega
      · cases h1
    · split at h1
      · rw [if_pos (by omega)]
      · omega
    · obtain ⟨a1, a2⟩ := hE (j + 1) (by omega) (by omega)
      exact ⟨a1, fun h0 => by have := a2 (by omega); simpa [show j - 1 + 1 = j by omega] using this⟩
    · rw [mkl_len] at hl ⊢
      rw [at_mkl (by omega)]
      simp only [show n - 1 - 1 + 1 = n - 1 by omega]
      omega
  · simp only [if_neg hc]
    refine vBu_mk ⟨v1, v2, v3, v4, by omega, by omega, by split <;> omega, by split <;> omega⟩ (by rw [snoc_len, mkl_len]; omega) ⟨fun h1 => ?_, fun h1 => ?_, by rw [snoc_len, mkl_len]; omega⟩ (errS_snoc (errS_mkl v13) ho fun hl => ?_)
    · split at h1
      · split <;> omega
      · cases h1
    · split at h1
      · rw [if_pos (by omega)]
      · omega
    · rw [mkl_len] at hl ⊢
      rw [at_mkl (by omega)]
      simp only
      omega
theorem frz_ok (h : (S.frzS ca af n t v g ov re fz a).2.2.2.2.2.1 = 0) : (S.frzS ca af n t v g ov re fz a).1 = ca ∧ (S.frzS ca af n t v g ov re fz a).2.1 = af ∧ S.okB (S.frzS ca af n t v g ov re fz a) := by
  unfold S.frzS at *
  by_cases hv : S.vB ca af n t v ov re fz = 0
  · rw [if_pos hv] at h ⊢
    by_cases ha : 0 ≤ a ∧ a ≤ 1099511627776
    · rw [if_pos ha] at h ⊢
      obtain ⟨v1, v2, v3, v4, v5, v6, v7, v8, v9, v10, v11, v12, v13⟩ := vB_ok hv
      refine ⟨rfl, rfl, vBu_mk ⟨v1, v2, v3, v4, v5, v6, by simp only; split <;> omega, by simp only; split <;> omega⟩ (by simp only [mkl_len]; omega) ⟨fun h1 => ?_, fun h1 => ?_, by simp only [mkl_len]; omega⟩ (errS_mkl v13)⟩
      · simp only at h1 ⊢
        by_cases hr : re = -1
        · rw [if_pos hr] at h1 ⊢
          split at h1
          · assumption
          · cases h1
        · rw [if_neg hr] at h1 ⊢; exact v10 h1
      · simp only at h1 ⊢
        by_cases hr : re = -1
        · rw [if_pos hr] at h1 ⊢; rw [if_pos h1]
        · rw [if_neg hr] at h1 ⊢; exact v11 h1
    · rw [if_neg ha] at h; cases h
  · rw [if_neg hv] at h; exact absurd h hv
theorem rea_ok (h : (S.reaS ca af n t v ov re fz).2.2.2 = 0) : S.vB ca af n t v ov re fz = 0 ∧ fz = true ∧ S.reaS ca af n t v ov re fz = (ca, af, -1, 0) := by
  unfold S.reaS at *
  by_cases hv : S.vB ca af n t v ov re fz = 0
  · rw [if_pos hv] at h ⊢
    by_cases hf : fz = true
    · rw [if_pos hf]; exact ⟨hv, hf, rfl⟩
    · rw [if_neg hf] at h; cases h
  · rw [if_neg hv] at h; exact absurd h hv
theorem okB_new {ca af e : Int} (h : 1 ≤ ca ∧ ca ≤ 200 ∧ 0 ≤ af ∧ af ≤ 200) : S.okB (ca, af, 0, -1, false, e, []) := vBu_mk ⟨h.1, h.2.1, h.2.2.1, h.2.2.2, by show (0 : Int) ≤ 0; omega, by show (0 : Int) ≤ 1099511627776; omega, by show (-1 : Int) ≤ -1; omega, by simp only; omega⟩ (by simp only [List.length_nil]; omega) ⟨fun h => (by cases h), fun h => (by cases h), by simp only; omega⟩ rfl
theorem step_ok {b : S.Bu} (h : (S.stepB b kd st sv sg).2.2.2.2.2.1 = 0) : (S.stepB b kd st sv sg).1 = b.1 ∧ (S.stepB b kd st sv sg).2.1 = b.2.1 ∧ S.okB (S.stepB b kd st sv sg) := by
  unfold S.stepB S.stepS at *
  by_cases h1 : kd = 1
  · simp only [if_pos h1] at h ⊢; exact put_ok h
  · by_cases h2 : kd = 2
    · simp only [if_neg h1, if_pos h2] at h ⊢; exact frz_ok h
    · by_cases h3 : kd = 3
      · simp only [if_neg h1, if_neg h2, if_pos h3] at h ⊢
        obtain ⟨hv, hf, e⟩ := rea_ok h
        obtain ⟨v1, v2, v3, v4, -⟩ := vB_ok hv
        rw [e]
        exact ⟨rfl, rfl, okB_new ⟨v1, v2, v3, v4⟩⟩
      · simp only [if_neg h1, if_neg h2, if_neg h3] at h; cases h
end
theorem run_ok' {kd st sv : Nat → Int} {sg : Nat → Bool} : ∀ (k i : Nat) (b : S.Bu) (r : Int), S.okB b → (S.runS kd st sv sg i k b r).1.1 = b.1 ∧ (S.runS kd st sv sg i k b r).1.2.1 = b.2.1 ∧ S.okB (S.runS kd st sv sg i k b r).1 := by
  intro k
  induction k with
  | zero => intro i b r h; exact ⟨rfl, rfl, h⟩
  | succ k ih =>
    intro i b r h
    simp only [S.runS]
    split
    · rename_i he
      obtain ⟨a1, a2, a3⟩ := step_ok he
      obtain ⟨c1, c2, c3⟩ := ih (i + 1) _ r a3
      exact ⟨c1.trans a1, c2.trans a2, c3⟩
    · exact ih (i + 1) b (r + 1) h

end Go.Ev
