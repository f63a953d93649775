/-
  Measure: the specs.
-/
import Derived.Test.YtffldkecndnbiaaTA4
namespace Go.Ev
open Go.Proofs
set_option linter.unusedVariables false
set_option linter.unusedSimpArgs false
set_option maxRecDepth 100000

namespace S
def winT (t : Nat → Int) : Nat → Nat → Bool
  | _, 0 => true
  | i, k + 1 => if 0 ≤ t i ∧ t i ≤ 1000000000 then winT t (i + 1) k else false
def meaT (p j r : Nat → Int) (a : Int) (i : Nat) : Int × Int × Bool × Bool := (max 0 ((r i - (2 * dl p j i + a) + 1) / 2), (r i + (2 * dl p j i + a)) / 2, false, false)
def meaK (f : Nat → Int × Int × Bool × Bool) : Nat → Nat → List (Int × Int × Bool × Bool) → Int × List (Int × Int × Bool × Bool)
  | _, 0, L => (0, L)
  | i, k + 1, L => if (f i).1 > (f i).2.1 then (12, []) else meaK f (i + 1) k (snoc L (f i))
def meaS (n : Nat) (p d u j : Nat → Int) (m : Nat) (r : Nat → Int) (a : Int) : Int × List (Int × Int × Bool × Bool) := if treE n p d u j = 0 then (if m = n ∧ r 0 = 0 ∧ (0 ≤ a ∧ a ≤ 1000000000) ∧ winT r 0 m = true then meaK (meaT p j r a) 1 (n - 1) [(0, 0, false, false)] else (6, [])) else (treE n p d u j, [])
end S
theorem winT_iff {t : Nat → Int} : ∀ {k i : Nat}, S.winT t i k = true ↔ ∀ j, i ≤ j → j < i + k → 0 ≤ t j ∧ t j ≤ 1000000000
  | 0, i => ⟨fun _ j a c => by omega, fun _ => rfl⟩
  | k + 1, i => by
    simp only [S.winT]
    constructor
    · intro h0 j a c
      split at h0
      · by_cases hj : j = i
        · subst hj; assumption
        · exact winT_iff.mp h0 j (by omega) (by omega)
      · cases h0
    · intro h0
      rw [if_pos (h0 i (Nat.le_refl _) (by omega))]
      exact winT_iff.mpr fun j a c => h0 j (by omega) (by omega)
theorem winT_yes {t : Nat → Int} {i k : Nat} (h : 0 ≤ t i ∧ t i ≤ 1000000000) : S.winT t i (k + 1) = S.winT t (i + 1) k := if_pos h
theorem winT_no {t : Nat → Int} {i k : Nat} (h : ¬ (0 ≤ t i ∧ t i ≤ 1000000000)) : S.winT t i (k + 1) = false := if_neg h
theorem shr1 {a : Int} : S.shrB .i64 a 1 = a / 2 := by
  unfold S.shrB
  rw [Int.fdiv_eq_ediv_of_nonneg _ (by decide)]; rfl
theorem half_up {y : Int} : Int.tdiv (max y 0 + 1) 2 = max 0 ((y + 1) / 2) := by
  rw [Int.tdiv_eq_ediv_of_nonneg (by omega)]; omega
theorem half_dn {y : Int} (h : 0 ≤ y) : Int.tdiv y 2 = y / 2 := Int.tdiv_eq_ediv_of_nonneg h
theorem meaK_len {f : Nat → Int × Int × Bool × Bool} : ∀ {k i : Nat} {L : List (Int × Int × Bool × Bool)}, (S.meaK f i k L).2.length ≤ L.length + k
  | 0, i, L => Nat.le_refl _
  | k + 1, i, L => by
    simp only [S.meaK]
    split
    · exact Nat.zero_le _
    · have := meaK_len (f := f) (k := k) (i := i + 1) (L := S.snoc L (f i))
      rw [snoc_len] at this; omega
theorem mea_len {n m : Nat} {p d u j r : Nat → Int} {a : Int} : (S.meaS n p d u j m r a).2.length ≤ n := by
  unfold S.meaS
  split
  · rename_i h0
    have := (tre_ok h0).1
    split
    · have := meaK_len (f := S.meaT p j r a) (k := n - 1) (i := 1) (L := [(0, 0, false, false)])
      have e : ([(0, 0, false, false)] : List (Int × Int × Bool × Bool)).length = 1 := rfl
      omega
    · exact Nat.zero_le _
  · exact Nat.zero_le _
noncomputable def xK (test : Bool → Prop → Prop → Prop) : Ext := consX test [k19, k43]
theorem xK_ok : ExtOk Try.prog (xK cond) := consX_ok ⟨k19_ok, k43_ok, trivial⟩

end Go.Ev
