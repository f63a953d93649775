/-
  Pairs of buckets, counted.
-/
import Derived.Test.YtejcmbcmhfejkaaA7x
namespace Go.Ev
open Go.Proofs
set_option linter.unusedVariables false
set_option linter.unusedSimpArgs false
set_option maxRecDepth 100000

namespace S
def byte (x : Int) : Bool := decide (0 ≤ x ∧ x ≤ 255)
def prOk (n m i j : Nat) : Bool := decide ((meeS (n : Int) (i : Int) (m : Int) (j : Int) 0).2 = 10 ∨ ((meeS (n : Int) (i : Int) (m : Int) (j : Int) 0).2 = 0 ∧ 0 ≤ (meeS (n : Int) (i : Int) (m : Int) (j : Int) 0).1 ∧ (meeS (n : Int) (i : Int) (m : Int) (j : Int) 0).1 < (perS (n : Int) (m : Int)).1))
def cntR (n m i : Nat) : Nat → Int
  | 0 => 0
  | j + 1 => if (meeS (n : Int) (i : Int) (m : Int) (j : Int) 0).2 = 10 then cntR n m i j else cntR n m i j + 1
def cntT (n m : Nat) : Nat → Int
  | 0 => 0
  | i + 1 => cntT n m i + cntR n m i m
end S
theorem pairs_all : ∀ n, n < 12 → ∀ m, m < 12 → (∀ i, i < n + 1 → ∀ j, j < m + 1 → S.prOk (n + 1) (m + 1) i j = true) ∧ S.cntT (n + 1) (m + 1) (n + 1) = (S.perS ((n + 1 : Nat) : Int) ((m + 1 : Nat) : Int)).1 ∧ (S.perS ((n + 1 : Nat) : Int) ((m + 1 : Nat) : Int)).2 = 0 := by decide +kernel
theorem cntR_b {n m i : Nat} : ∀ j, 0 ≤ S.cntR n m i j ∧ S.cntR n m i j ≤ j
  | 0 => ⟨Int.le_refl _, Int.le_refl _⟩
  | j + 1 => by
    have ih := cntR_b (n := n) (m := m) (i := i) j
    simp only [S.cntR]
    split <;> omega
theorem cntT_b {n m : Nat} (hm : m ≤ 12) : ∀ i, 0 ≤ S.cntT n m i ∧ S.cntT n m i ≤ i * 12
  | 0 => ⟨Int.le_refl _, Int.le_refl _⟩
  | i + 1 => by
    have ih := cntT_b (n := n) hm i
    have h := cntR_b (n := n) (m := m) (i := i) m
    simp only [S.cntT]
    omega
theorem byte_mk {x : Int} (h : 0 ≤ x ∧ x ≤ 255) : S.byte x = true := decide_eq_true h

end Go.Ev
