/-
  What is asked of task sets.
-/
import Derived.Test.YtofnanmggmeleaaB2
namespace Go.Ev
open Go.Proofs
set_option linter.unusedVariables false
set_option linter.unusedSimpArgs false
set_option maxRecDepth 100000

namespace S
def tskG (p c d : Int) : Bool := decide (1 ≤ p ∧ p ≤ 1000000 ∧ 1 ≤ c ∧ c ≤ p ∧ c ≤ d ∧ d ≤ p)
/-- The error of the tasks from the i-th on. -/
def tskE (t : Nat → ByteArray) (p c d : Nat → Int) : Nat → Nat → Int
  | _, 0 => 0
  | i, k + 1 => if isNam (t i) = true then (if any (fun j => eqS (t j) (t i)) i = true then 5 else if tskG (p i) (c i) (d i) = true then tskE t p c d (i + 1) k else 6) else 2
def tskS (n : Nat) (t : Nat → ByteArray) (p c d : Nat → Int) : Int := if n = 0 then 7 else if 8 < n then 3 else tskE t p c d 0 n
/-- Are all numbers of a task set within their bounds? -/
def okT (n : Nat) (p c d : Nat → Int) : Bool := decide (n ≤ 8 ∧ ∀ j, j < n → 1 ≤ p j ∧ p j ≤ 1000000 ∧ 1 ≤ c j ∧ c j ≤ p j ∧ c j ≤ d j ∧ d j ≤ p j)
/-- What tasks of higher priority ask for in a time. -/
def dsum (p c : Nat → Int) (t : Int) : Nat → Int
  | 0 => 0
  | j + 1 => dsum p c t j + c j * Int.tdiv (t + p j - 1) (p j)
def dem (p c : Nat → Int) (i : Nat) (t : Int) : Int := c i + dsum p c t i
/-- The first fixed point from t on, among k numbers. -/
def fixF (f : Int → Int) : Nat → Int → Int × Bool
  | 0, _ => (0, false)
  | k + 1, t => if f t = t then (t, true) else fixF f k (t + 1)
/-- The response time of a task. -/
def resT (p c d : Nat → Int) (i : Nat) : Int × Bool := fixF (fun t => dem p c i t) (d i).toNat 1
def misT (n : Nat) (p c d : Nat → Int) : Int := idx (fun i => !(resT p c d i).2) 0 n
end S
theorem any_sc {p : Nat → Bool} {n : Nat} : S.any p (n + 1) = (S.any p n || p n) := by simp [S.any, List.range_succ]
theorem tskE_ok {t : Nat → ByteArray} {p c d : Nat → Int} : ∀ {k i : Nat}, S.tskE t p c d i k = 0 → ∀ j, i ≤ j → j < i + k → S.tskG (p j) (c j) (d j) = true
  | 0, i, _, j, h1, h2 => by omega
  | k + 1, i, h, j, h1, h2 => by
    simp only [S.tskE] at h
    split at h
    · split at h
      · cases h
      · split at h
        · rename_i hg
          rcases Nat.lt_or_ge i j with h3 | h3
          · exact tskE_ok h j (by omega) (by omega)
          · obtain rfl : j = i := by omega
            exact hg
        · cases h
    · cases h
theorem tskS_ok {n : Nat} {t : Nat → ByteArray} {p c d : Nat → Int} (h : S.tskS n t p c d = 0) : 1 ≤ n ∧ S.okT n p c d = true := by
  unfold S.tskS at h
  split at h
  · cases h
  · split at h
    · cases h
    · refine ⟨by omega, decide_eq_true ⟨by omega, fun j hj => of_decide_eq_true (tskE_ok h j (Nat.zero_le _) (by omega))⟩⟩
theorem okT_at {n : Nat} {p c d : Nat → Int} (h : S.okT n p c d = true) : n ≤ 8 ∧ ∀ j, j < n → 1 ≤ p j ∧ p j ≤ 1000000 ∧ 1 ≤ c j ∧ c j ≤ p j ∧ c j ≤ d j ∧ d j ≤ p j := of_decide_eq_true h
/-- A quotient rounded up. -/
theorem up_b {t p : Int} (h0 : 0 ≤ t) (h1 : 1 ≤ p) : 0 ≤ Int.tdiv (t + p - 1) p ∧ Int.tdiv (t + p - 1) p ≤ t := by
  rw [Int.tdiv_eq_ediv_of_nonneg (by omega)]
  refine ⟨Int.ediv_nonneg (by omega) (by omega), ?_⟩
  have : (t + p - 1) / p < t + 1 := by
    rw [Int.ediv_lt_iff_lt_mul (by omega)]
    have : (t + 1) * p = t * p + p := by rw [Int.add_mul, Int.one_mul]
    have h2 : t * 1 ≤ t * p := Int.mul_le_mul_of_nonneg_left h1 h0
    omega
  omega
theorem up_mono {t u p : Int} (h0 : 0 ≤ t) (h1 : 1 ≤ p) (h : t ≤ u) : Int.tdiv (t + p - 1) p ≤ Int.tdiv (u + p - 1) p := by
  rw [Int.tdiv_eq_ediv_of_nonneg (by omega), Int.tdiv_eq_ediv_of_nonneg (by omega)]
  exact Int.ediv_le_ediv (by omega) (by omega)
theorem dsum_b {p c : Nat → Int} {t : Int} (h0 : 0 ≤ t) (ht : t ≤ 1000000) : ∀ {i : Nat}, (∀ j, j < i → 1 ≤ p j ∧ 0 ≤ c j ∧ c j ≤ 1000000) → 0 ≤ S.dsum p c t i ∧ S.dsum p c t i ≤ 1000000000000 * i
  | 0, _ => ⟨Int.le_refl _, Int.le_refl _⟩
  | i + 1, h => by
    have ih := dsum_b (p := p) (c := c) (t := t) h0 ht (i := i) fun j hj => h j (by omega)
    obtain ⟨a1, a2, a3⟩ := h i (by omega)
    obtain ⟨b1, b2⟩ := up_b (t := t) h0 a1
    simp only [S.dsum]
    generalize Int.tdiv (t + p i - 1) (p i) = q at *
    have c1 : 0 ≤ c i * q := Int.mul_nonneg a2 b1
    have c2 : c i * q ≤ 1000000 * 1000000 := Int.mul_le_mul a3 (by omega) b1 (by omega)
    omega
theorem dsum_mono {p c : Nat → Int} {t u : Int} (h0 : 0 ≤ t) (hu : t ≤ u) : ∀ {i : Nat}, (∀ j, j < i → 1 ≤ p j ∧ 0 ≤ c j) → S.dsum p c t i ≤ S.dsum p c u i
  | 0, _ => Int.le_refl _
  | i + 1, h => by
    have ih := dsum_mono (p := p) (c := c) h0 hu (i := i) fun j hj => h j (by omega)
    obtain ⟨a1, a2⟩ := h i (by omega)
    have := Int.mul_le_mul_of_nonneg_left (up_mono h0 a1 hu) a2
    simp only [S.dsum]
    omega
theorem dem_b {n : Nat} {p c d : Nat → Int} (h : S.okT n p c d = true) {i : Nat} (hi : i < n) {t : Int} (h0 : 0 ≤ t) (ht : t ≤ 1000000) : c i ≤ S.dem p c i t ∧ S.dem p c i t ≤ 10000000000000 := by
  obtain ⟨hn, h⟩ := okT_at h
  have := dsum_b (p := p) (c := c) h0 ht (i := i) fun j hj => by have := h j (by omega); omega
  have := h i hi
  unfold S.dem
  omega
theorem dem_mono {n : Nat} {p c d : Nat → Int} (h : S.okT n p c d = true) {i : Nat} (hi : i < n) {t u : Int} (h0 : 0 ≤ t) (hu : t ≤ u) : S.dem p c i t ≤ S.dem p c i u := by
  obtain ⟨hn, h⟩ := okT_at h
  have := dsum_mono (p := p) (c := c) h0 hu (i := i) fun j hj => by have := h j (by omega); omega
  unfold S.dem
  omega
/-- Fixed points. -/
theorem fixF_skip {f : Int → Int} : ∀ {k : Nat} {t : Int} (j : Nat), j ≤ k → (∀ u, t ≤ u → u < t + j → f u ≠ u) → S.fixF f k t = S.fixF f (k - j) (t + j)
  | k, t, 0, _, _ => by simp
  | 0, t, j + 1, h, _ => by omega
  | k + 1, t, j + 1, h, hf => by
    simp only [S.fixF]
    rw [if_neg (hf t (Int.le_refl _) (by omega)), fixF_skip (k := k) (t := t + 1) j (by omega) fun u h1 h2 => hf u (by omega) (by omega)]
    rw [show k + 1 - (j + 1) = k - j by omega, show t + 1 + (j : Int) = t + ((j + 1 : Nat) : Int) by omega]
theorem fixF_none {f : Int → Int} : ∀ {k : Nat} {t : Int}, (∀ u, t ≤ u → u < t + k → f u ≠ u) → S.fixF f k t = (0, false)
  | 0, t, _ => rfl
  | k + 1, t, h => by
    simp only [S.fixF]
    rw [if_neg (h t (Int.le_refl _) (by omega))]
    exact fixF_none fun u h1 h2 => h u (by omega) (by omega)
theorem fixF_some {f : Int → Int} : ∀ {k : Nat} {t : Int}, (S.fixF f k t).2 = true → t ≤ (S.fixF f k t).1 ∧ (S.fixF f k t).1 < t + k ∧ f (S.fixF f k t).1 = (S.fixF f k t).1
  | 0, t, h => by cases h
  | k + 1, t, h => by
    simp only [S.fixF] at h ⊢
    split at h
    · rename_i he
      rw [if_pos he]; exact ⟨Int.le_refl _, by show t < t + ((k + 1 : Nat) : Int); omega, he⟩
    · rename_i he
      rw [if_neg he]
      have := fixF_some h
      refine ⟨by omega, by omega, this.2.2⟩
theorem fixF_le {f : Int → Int} : ∀ {k : Nat} {t u : Int}, t ≤ u → u < t + k → f u = u → (S.fixF f k t).2 = true ∧ (S.fixF f k t).1 ≤ u
  | 0, t, u, h1, h2, _ => by omega
  | k + 1, t, u, h1, h2, he => by
    simp only [S.fixF]
    by_cases hf : f t = t
    · rw [if_pos hf]; exact ⟨rfl, h1⟩
    · rw [if_neg hf]
      have hne : t ≠ u := fun e => hf (by rw [e]; exact he)
      exact fixF_le (by omega) (by omega) he
/-- A step from below. -/
theorem fix_step {f : Int → Int} {D t : Int} (hm : ∀ u v, 0 ≤ u → u ≤ v → f u ≤ f v) (ht : 1 ≤ t) (hD : t ≤ D) (hlt : t ≤ f t) (hne : f t ≠ t) : S.fixF f (D - t + 1).toNat t = S.fixF f (D - f t + 1).toNat (f t) := by
  have hno : ∀ u, t ≤ u → u < f t → f u ≠ u := fun u h1 h2 e => by
    have := hm t u (by omega) h1
    omega
  by_cases hb : f t ≤ D
  · rw [fixF_skip (k := (D - t + 1).toNat) (t := t) (f t - t).toNat (by omega) fun u h1 h2 => hno u h1 (by omega)]
    rw [show (D - t + 1).toNat - (f t - t).toNat = (D - f t + 1).toNat by omega, show t + ((f t - t).toNat : Int) = f t by omega]
  · rw [fixF_none fun u h1 h2 => hno u h1 (by omega), show (D - f t + 1).toNat = 0 by omega]
    rfl

end Go.Ev
