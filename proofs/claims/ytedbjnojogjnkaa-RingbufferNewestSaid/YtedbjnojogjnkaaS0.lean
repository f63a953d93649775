/-
  Steps of descriptions.
-/
import Derived.Test.YtedbjnojogjnkaaW1
namespace Go.Ev
open Go.Proofs
set_option linter.unusedVariables false
set_option linter.unusedSimpArgs false

namespace S
def sumT (t : Nat → Int) : Nat → Int
  | 0 => 0
  | i + 1 => sumT t i + (t i).tdiv 16
def bytes (n : Nat) (t : Nat → Int) : Bool := decide (∀ j, j < n → 0 ≤ t j ∧ t j ≤ 255)
def kdT (x : Int) : Int := if x.tmod 16 = 15 then 3 else if x.tmod 16 = 14 then 2 else 1
def stepsT (n : Nat) (t v : Nat → Int) : List (Int × Int × Int × Bool) := mkl n fun j => (kdT (t j), sumT t (j + 1), (v j).tmod 32 - 16, decide (32 ≤ v j))
end S
theorem lim8 (n : Int) : lim .u8 n = decide (0 ≤ n ∧ n ≤ 255) := rfl
theorem byte_facts {x : Int} (h : 0 ≤ x ∧ x ≤ 255) : 0 ≤ x.tdiv 16 ∧ x.tdiv 16 ≤ 15 ∧ 0 ≤ x.tmod 16 ∧ x.tmod 16 < 16 ∧ 0 ≤ x.tmod 32 ∧ x.tmod 32 < 32 ∧ 0 ≤ x.tmod 10 ∧ x.tmod 10 < 10 ∧ 0 ≤ x.tmod 11 ∧ x.tmod 11 < 11 ∧ 0 ≤ x.tmod 20 ∧ x.tmod 20 < 20 := by
  rw [Int.tdiv_eq_ediv_of_nonneg h.1, Int.tmod_eq_emod_of_nonneg h.1, Int.tmod_eq_emod_of_nonneg h.1, Int.tmod_eq_emod_of_nonneg h.1, Int.tmod_eq_emod_of_nonneg h.1, Int.tmod_eq_emod_of_nonneg h.1]
  omega
theorem sumT_ok {t : Nat → Int} : ∀ {n : Nat}, (∀ j, j < n → 0 ≤ t j ∧ t j ≤ 255) → 0 ≤ S.sumT t n ∧ S.sumT t n ≤ 15 * n
  | 0, _ => by simp [S.sumT]
  | n + 1, h => by
    have h1 := sumT_ok (n := n) fun j hj => h j (by omega)
    have h2 := byte_facts (h n (by omega))
    simp only [S.sumT]
    omega

end Go.Ev
