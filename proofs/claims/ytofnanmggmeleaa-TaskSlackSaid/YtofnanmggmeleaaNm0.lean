/-
  Names: the specs.
-/
import Derived.Test.YtofnanmggmeleaaL0
namespace Go.Ev
open Go.Proofs
set_option linter.unusedVariables false
set_option linter.unusedSimpArgs false
set_option maxRecDepth 100000

namespace S
/-- How many places from the i-th on, one behind the other, something holds at. -/
def runN (p : Nat → Bool) : Nat → Nat → Nat
  | _, 0 => 0
  | i, k + 1 => if p i = true then runN p (i + 1) k + 1 else 0
def lowB (c : Int) : Bool := decide (97 ≤ c ∧ c ≤ 122)
def namB (c : Int) : Bool := decide ((97 ≤ c ∧ c ≤ 122) ∨ (48 ≤ c ∧ c ≤ 57) ∨ c = 95)
/-- Is a string a name? -/
def isNam (s : ByteArray) : Bool := decide (1 ≤ s.size ∧ s.size ≤ 20) && (lowB (keys s 0) && decide (runN (fun j => namB (keys s j)) 0 s.size = s.size))
def all (p : Nat → Bool) (n : Nat) : Bool := (List.range n).all p
end S
theorem all_iff {p : Nat → Bool} {n : Nat} : S.all p n = true ↔ ∀ j, j < n → p j = true := by simp [S.all]
theorem all_no {p : Nat → Bool} {n i : Nat} (hi : i < n) (h : p i = false) : ¬ S.all p n = true := fun e => by rw [all_iff.mp e i hi] at h; cases h
theorem runN_le {p : Nat → Bool} : ∀ {k i : Nat}, S.runN p i k ≤ k
  | 0, _ => Nat.le_refl _
  | k + 1, i => by
    simp only [S.runN]
    split
    · have := runN_le (p := p) (k := k) (i := i + 1); omega
    · omega
theorem runN_all {p : Nat → Bool} : ∀ {k i : Nat}, S.runN p i k = k ↔ ∀ j, i ≤ j → j < i + k → p j = true
  | 0, i => ⟨fun _ j h1 h2 => by omega, fun _ => rfl⟩
  | k + 1, i => by
    simp only [S.runN]
    have hl := runN_le (p := p) (k := k) (i := i + 1)
    constructor
    · intro h j h1 h2
      split at h
      · rename_i h0
        rcases Nat.lt_or_ge i j with h3 | h3
        · exact (runN_all (k := k) (i := i + 1)).1 (by omega) j h3 (by omega)
        · obtain rfl : j = i := by omega
          exact h0
      · omega
    · intro h
      rw [if_pos (h i (Nat.le_refl _) (by omega)), (runN_all (k := k) (i := i + 1)).2 fun j h1 h2 => h j (by omega) (by omega)]
theorem size_nil {s : ByteArray} : (s.toList == []) = decide (s.size = 0) := by
  rw [ByteArray.toList_eq, Bool.eq_iff_iff, beq_iff_eq, decide_eq_true_eq]
  have : s.size = s.data.toList.length := rfl
  rw [this, List.length_eq_zero_iff]

end Go.Ev
