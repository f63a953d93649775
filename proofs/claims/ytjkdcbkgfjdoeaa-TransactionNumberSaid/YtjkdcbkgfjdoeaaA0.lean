/-
  Transactions.
-/
import Derived.Test.YtjkdcbkgfjdoeaaL0
namespace Go.Ev
open Go.Proofs
set_option linter.unusedVariables false
set_option linter.unusedSimpArgs false
set_option maxRecDepth 100000

namespace S
def ptyB (a i o : Int) : Bool := decide ((0 ≤ a ∧ a ≤ 7) ∧ (0 ≤ i ∧ i ≤ 3) ∧ 0 ≤ o ∧ o ≤ 4)
def ptyK (a i o : Nat → Int) : Nat → Nat → Int
  | _, 0 => 0
  | q, k + 1 => if ptyB (a q) (i q) (o q) = true then ptyK a i o (q + 1) k else 1
/-- The error of a transaction. -/
def traE (ph : Int) (ev : Bool) (n : Nat) (a i o : Nat → Int) : Int := if 1 ≤ n ∧ n ≤ 8 then (if (0 ≤ ph ∧ ph ≤ 4) ∧ ev = decide (ph = 4) then ptyK a i o 0 n else 1) else 6
/-- May a party do its step k? -/
def stpP (ev : Bool) (a i o : Int) (k : Nat) : Prop := (k = 0 ∧ i ≠ 0 ∧ a < 5) ∨ (k = 1 ∧ i ≠ 0) ∨ ((k = 2 ∨ k = 3) ∧ (o = 1 ∨ o = 3)) ∨ (k = 4 ∧ a ≤ 2) ∨ (k = 5 ∧ 5 ≤ a) ∨ (k = 6 ∧ ((a = 1 ∧ o = 0) ∨ ((a = 2 ∨ a = 4) ∧ o = 2))) ∨ (k = 7 ∧ ev.toNat = 1 ∧ a = 2) ∨ (k = 8 ∧ i = 1 ∧ a = 0)
instance {ev : Bool} {a i o : Int} {k : Nat} : Decidable (stpP ev a i o k) := by unfold stpP; infer_instance
def posP (ph : Int) (ev : Bool) (n : Nat) (a i o : Nat → Int) (q : Nat) : Prop := (q = 80 ∧ ph = 0) ∨ (q = 81 ∧ ph = 3) ∨ (82 ≤ q ∧ q - 82 < n ∧ i (q - 82) = 0 ∧ ((ph = 0 ∧ o (q - 82) ≤ 1) ∨ (ph = 1 ∧ o (q - 82) ≠ 4) ∨ ph = 2)) ∨ (q < 80 ∧ q / 10 < n ∧ stpP ev (a (q / 10)) (i (q / 10)) (o (q / 10)) (q % 10))
instance {ph : Int} {ev : Bool} {n : Nat} {a i o : Nat → Int} {q : Nat} : Decidable (posP ph ev n a i o q) := by unfold posP; infer_instance
def posB (ph : Int) (ev : Bool) (n : Nat) (a i o : Nat → Int) (q : Nat) : Bool := decide (posP ph ev n a i o q)
def stpB (ev : Bool) (a i o : Int) (k : Nat) : Bool := decide (stpP ev a i o k)
def cho (l : Nat → Bool) : Nat → List Int
  | 0 => []
  | i + 1 => if l i = true then snoc (cho l i) (i : Int) else cho l i
def stpS (ph : Int) (ev : Bool) (n : Nat) (a i o : Nat → Int) : List Int := if traE ph ev n a i o = 0 then cho (posB ph ev n a i o) 90 else []
def badB (ph : Int) (ev : Bool) (n : Nat) (a i o : Nat → Int) : Bool := decide (traE ph ev n a i o = 0) && (any (fun q => decide (a q = 4)) n && any (fun q => decide (a q = 3)) n)
end S
theorem ptyK_ok {a i o : Nat → Int} : ∀ {k q : Nat}, S.ptyK a i o q k = 0 → ∀ j, q ≤ j → j < q + k → S.ptyB (a j) (i j) (o j) = true
  | 0, q, _, j, h1, h2 => by omega
  | k + 1, q, h, j, h1, h2 => by
    simp only [S.ptyK] at h
    split at h
    · by_cases hj : j = q
      · subst hj; assumption
      · exact ptyK_ok h j (by omega) (by omega)
    · cases h
theorem tra_ok {ph : Int} {ev : Bool} {n : Nat} {a i o : Nat → Int} (h : S.traE ph ev n a i o = 0) : (1 ≤ n ∧ n ≤ 8) ∧ (0 ≤ ph ∧ ph ≤ 4) ∧ ev = decide (ph = 4) ∧ ∀ q, q < n → (0 ≤ a q ∧ a q ≤ 7) ∧ (0 ≤ i q ∧ i q ≤ 3) ∧ 0 ≤ o q ∧ o q ≤ 4 := by
  unfold S.traE at h
  split at h
  · split at h
    · rename_i h1 h2
      exact ⟨h1, h2.1, h2.2, fun q hq => of_decide_eq_true (ptyK_ok h q (Nat.zero_le _) (by omega))⟩
    · cases h
  · cases h
theorem stp_k {ev : Bool} {a i o : Int} : S.stpB ev a i o 0 = decide (i ≠ 0 ∧ a < 5) ∧ S.stpB ev a i o 1 = decide (i ≠ 0) ∧ S.stpB ev a i o 2 = decide (o = 1 ∨ o = 3) ∧ S.stpB ev a i o 3 = decide (o = 1 ∨ o = 3) ∧ S.stpB ev a i o 4 = decide (a ≤ 2) ∧ S.stpB ev a i o 5 = decide (5 ≤ a) ∧ S.stpB ev a i o 6 = decide ((a = 1 ∧ o = 0) ∨ ((a = 2 ∨ a = 4) ∧ o = 2)) ∧ S.stpB ev a i o 7 = (ev && decide (a = 2)) ∧ S.stpB ev a i o 8 = decide (i = 1 ∧ a = 0) ∧ S.stpB ev a i o 9 = false := by
  cases ev <;> simp [S.stpB, S.stpP]
theorem pos_80 {ph : Int} {ev : Bool} {n : Nat} {a i o : Nat → Int} : S.posB ph ev n a i o 80 = decide (ph = 0) := by simp [S.posB, S.posP]
theorem pos_81 {ph : Int} {ev : Bool} {n : Nat} {a i o : Nat → Int} : S.posB ph ev n a i o 81 = decide (ph = 3) := by simp [S.posB, S.posP]
theorem pos_ge {ph : Int} {ev : Bool} {n : Nat} {a i o : Nat → Int} {q : Nat} (h : 82 ≤ q) : S.posB ph ev n a i o q = decide (q - 82 < n ∧ i (q - 82) = 0 ∧ ((ph = 0 ∧ o (q - 82) ≤ 1) ∨ (ph = 1 ∧ o (q - 82) ≠ 4) ∨ ph = 2)) := by
  unfold S.posB S.posP
  apply decide_eq_decide.mpr
  constructor
  · rintro (h1 | h1 | h1 | h1)
    · omega
    · omega
    · exact h1.2
    · omega
  · exact fun h1 => .inr (.inr (.inl ⟨h, h1⟩))
theorem pos_lt {ph : Int} {ev : Bool} {n : Nat} {a i o : Nat → Int} {q : Nat} (h : q < 80) : S.posB ph ev n a i o q = (decide (q / 10 < n) && S.stpB ev (a (q / 10)) (i (q / 10)) (o (q / 10)) (q % 10)) := by
  unfold S.posB S.posP S.stpB
  rw [← Bool.decide_and]
  apply decide_eq_decide.mpr
  constructor
  · rintro (h1 | h1 | h1 | h1)
    · omega
    · omega
    · omega
    · exact h1.2
  · exact fun h1 => .inr (.inr (.inr ⟨h, h1⟩))
theorem cho_len {l : Nat → Bool} : ∀ {n : Nat}, (S.cho l n).length ≤ n
  | 0 => Nat.le_refl _
  | n + 1 => by
    have ih := cho_len (l := l) (n := n)
    simp only [S.cho]
    split
    · rw [snoc_len]; omega
    · omega
theorem cho_yes {l : Nat → Bool} {i : Nat} (h : l i = true) : S.cho l (i + 1) = S.snoc (S.cho l i) (i : Int) := if_pos h
theorem cho_no {l : Nat → Bool} {i : Nat} (h : l i = false) : S.cho l (i + 1) = S.cho l i := if_neg (by rw [h]; exact Bool.false_ne_true)
theorem cho_nos {l : Nat → Bool} {i : Nat} : ∀ {k : Nat}, (∀ j, i ≤ j → j < i + k → l j = false) → S.cho l (i + k) = S.cho l i
  | 0, _ => rfl
  | k + 1, h => by
    rw [show i + (k + 1) = i + k + 1 by omega, cho_no (h _ (by omega) (by omega)), cho_nos fun j a c => h j a (by omega)]

end Go.Ev
