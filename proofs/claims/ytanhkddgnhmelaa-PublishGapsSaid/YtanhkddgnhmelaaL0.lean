/-
  Lists: specs of functions of package slices.
-/
import Derived.Test.YtanhkddgnhmelaaEvY
import Derived.Test.YtanhkddgnhmelaaEnv
namespace Go.Ev
open Go.Proofs
set_option linter.unusedVariables false
set_option linter.unusedSimpArgs false
set_option maxRecDepth 100000

namespace S
/-- The first place from the i-th on at which something holds, or -1. -/
def idx (p : Nat → Bool) : Nat → Nat → Int
  | _, 0 => -1
  | i, k + 1 => if p i = true then i else idx p (i + 1) k
/-- Does it hold at one of the first n places? -/
def any (p : Nat → Bool) (n : Nat) : Bool := (List.range n).any p
/-- The greatest of the first n + 1 values. -/
def maxN (t : Nat → Int) : Nat → Int
  | 0 => t 0
  | n + 1 => max (maxN t n) (t (n + 1))
def minN (t : Nat → Int) : Nat → Int
  | 0 => t 0
  | n + 1 => min (minN t n) (t (n + 1))
end S
theorem any_iff {p : Nat → Bool} {n : Nat} : S.any p n = true ↔ ∃ j, j < n ∧ p j = true := by simp [S.any]
theorem any_no {p : Nat → Bool} {n : Nat} : S.any p n = false ↔ ∀ j, j < n → p j = false := by simp [S.any]
theorem any_congr {p q : Nat → Bool} {n : Nat} (h : ∀ j, j < n → p j = q j) : S.any p n = S.any q n := by
  rw [Bool.eq_iff_iff, any_iff, any_iff]
  constructor
  · rintro ⟨j, h1, h2⟩; exact ⟨j, h1, by rw [← h j h1]; exact h2⟩
  · rintro ⟨j, h1, h2⟩; exact ⟨j, h1, by rw [h j h1]; exact h2⟩
theorem idx_ge {p : Nat → Bool} : ∀ {k i : Nat}, S.idx p i k = -1 ∨ ((i : Int) ≤ S.idx p i k ∧ S.idx p i k < i + k)
  | 0, i => .inl rfl
  | k + 1, i => by
    simp only [S.idx]
    split
    · exact .inr ⟨by omega, by omega⟩
    · rcases idx_ge (p := p) (k := k) (i := i + 1) with h | h
      · exact .inl h
      · exact .inr ⟨by omega, by omega⟩
theorem idx_no {p : Nat → Bool} : ∀ {k i : Nat}, S.idx p i k = -1 ↔ ∀ j, i ≤ j → j < i + k → p j = false
  | 0, i => ⟨fun _ j h1 h2 => by omega, fun _ => rfl⟩
  | k + 1, i => by
    simp only [S.idx]
    split
    · rename_i h
      exact ⟨fun e => by omega, fun e => by rw [e i (Nat.le_refl _) (by omega)] at h; cases h⟩
    · rename_i h
      rw [idx_no]
      constructor
      · intro e j h1 h2
        by_cases hj : j = i
        · subst hj; simpa using h
        · exact e j (by omega) (by omega)
      · exact fun e j h1 h2 => e j (by omega) (by omega)
theorem idx_any {p : Nat → Bool} {n : Nat} : decide (S.idx p 0 n ≥ 0) = S.any p n := by
  rw [Bool.eq_iff_iff, decide_eq_true_eq, any_iff]
  constructor
  · intro h
    by_cases hn : S.idx p 0 n = -1
    · omega
    · rw [idx_no] at hn
      simp only [Classical.not_forall] at hn
      obtain ⟨j, _, h2, h3⟩ := hn
      exact ⟨j, by omega, by simpa using h3⟩
  · rintro ⟨j, h1, h2⟩
    rcases idx_ge (p := p) (k := n) (i := 0) with h | h
    · rw [idx_no] at h
      rw [h j (by omega) (by omega)] at h2; cases h2
    · omega
theorem idx_congr {p q : Nat → Bool} : ∀ {k i : Nat}, (∀ j, i ≤ j → j < i + k → p j = q j) → S.idx p i k = S.idx q i k
  | 0, i, _ => rfl
  | k + 1, i, h => by
    simp only [S.idx, h i (Nat.le_refl _) (by omega)]
    rw [idx_congr fun j h1 h2 => h j (by omega) (by omega)]
theorem maxN_le {t : Nat → Int} {v : Int} : ∀ {n : Nat}, S.maxN t n ≤ v ↔ ∀ j, j ≤ n → t j ≤ v
  | 0 => ⟨fun h j hj => by obtain rfl : j = 0 := by omega
                           exact h, fun h => h 0 (Nat.le_refl _)⟩
  | n + 1 => by
    simp only [S.maxN, Int.max_le, maxN_le]
    exact ⟨fun h j hj => by rcases Nat.lt_or_eq_of_le hj with h1 | rfl; exact h.1 j (by omega); exact h.2, fun h => ⟨fun j hj => h j (by omega), h _ (Nat.le_refl _)⟩⟩
theorem le_minN {t : Nat → Int} {v : Int} : ∀ {n : Nat}, v ≤ S.minN t n ↔ ∀ j, j ≤ n → v ≤ t j
  | 0 => ⟨fun h j hj => by obtain rfl : j = 0 := by omega
                           exact h, fun h => h 0 (Nat.le_refl _)⟩
  | n + 1 => by
    simp only [S.minN, Int.le_min, le_minN]
    exact ⟨fun h j hj => by rcases Nat.lt_or_eq_of_le hj with h1 | rfl; exact h.1 j (by omega); exact h.2, fun h => ⟨fun j hj => h j (by omega), h _ (Nat.le_refl _)⟩⟩
theorem maxN_congr {t u : Nat → Int} : ∀ {n : Nat}, (∀ j, j ≤ n → t j = u j) → S.maxN t n = S.maxN u n
  | 0, h => h 0 (Nat.le_refl _)
  | n + 1, h => by
    have e : S.maxN t n = S.maxN u n := maxN_congr fun j hj => h j (by omega)
    simp only [S.maxN, h (n + 1) (Nat.le_refl _), e]
theorem minN_congr {t u : Nat → Int} : ∀ {n : Nat}, (∀ j, j ≤ n → t j = u j) → S.minN t n = S.minN u n
  | 0, h => h 0 (Nat.le_refl _)
  | n + 1, h => by
    have e : S.minN t n = S.minN u n := minN_congr fun j hj => h j (by omega)
    simp only [S.minN, h (n + 1) (Nat.le_refl _), e]

theorem nbeq_no {i j : Nat} (h : j ≠ i) : Nat.beq j i = false := by
  cases hb : Nat.beq j i
  · rfl
  · exact absurd (Nat.eq_of_beq_eq_true hb) h
/-- A list that is changed in place, element by element. -/
theorem upd_step {α : Type} [Inhabited α] {n i : Nat} {f g : Nat → α} {v : α} (hv : v = g i) : (S.mkl n fun j => bif Nat.beq j i then v else S.at' (S.mkl n fun j => if j < i then g j else f j) j) = S.mkl n fun j => if j < i + 1 then g j else f j := by
  refine mkl_congr fun j hj => ?_
  by_cases h : j = i
  · subst h; rw [Nat.beq_refl, cond_true, if_pos (Nat.lt_succ_self _), hv]
  · rw [nbeq_no h, cond_false, at_mkl hj]
    by_cases h2 : j < i
    · rw [if_pos h2, if_pos (by omega)]
    · rw [if_neg h2, if_neg (by omega)]
theorem same_step {α : Type} [Inhabited α] {n i : Nat} {f g : Nat → α} (hv : f i = g i) : (S.mkl n fun j => if j < i then g j else f j) = S.mkl n fun j => if j < i + 1 then g j else f j := by
  refine mkl_congr fun j hj => ?_
  by_cases h : j = i
  · subst h; rw [if_neg (Nat.lt_irrefl _), if_pos (Nat.lt_succ_self _), hv]
  · by_cases h2 : j < i
    · rw [if_pos h2, if_pos (by omega)]
    · rw [if_neg h2, if_neg (by omega)]
theorem upd_all {α : Type} [Inhabited α] {n : Nat} {f g : Nat → α} : (S.mkl n fun j => if j < n then g j else f j) = S.mkl n g := mkl_congr fun j hj => if_pos hj
theorem upd_none {α : Type} [Inhabited α] {n : Nat} {f g : Nat → α} : S.mkl n f = S.mkl n fun j => if j < 0 then g j else f j := mkl_congr fun j hj => (if_neg (Nat.not_lt_zero j)).symm

theorem bif_t {α : Type} {b : Bool} {x y z : α} (hb : b = true) (h : x = z) : cond b x y = z := by subst hb; exact h
theorem bif_f {α : Type} {b : Bool} {x y z : α} (hb : b = false) (h : y = z) : cond b x y = z := by subst hb; exact h

end Go.Ev
