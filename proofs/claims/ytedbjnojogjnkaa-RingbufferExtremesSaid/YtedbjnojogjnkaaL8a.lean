/-
  Steps one behind the other.
-/
import Derived.Test.YtedbjnojogjnkaaL7
namespace Go.Ev
open Go.Proofs
set_option linter.unusedVariables false
set_option linter.unusedSimpArgs false

namespace S
def stepB (b : Bu) (kd st sv : Int) (sg : Bool) : Bu :=
  stepS b.1 b.2.1 b.2.2.2.2.2.2.length (fun j => (at' b.2.2.2.2.2.2 j).1) (fun j => (at' b.2.2.2.2.2.2 j).2.1) (fun j => (at' b.2.2.2.2.2.2 j).2.2) b.2.2.1 b.2.2.2.1 b.2.2.2.2.1 kd st sv sg
/-- The buffer behind steps, from the i-th on, and how many were left out. -/
def runS (kd st sv : Nat → Int) (sg : Nat → Bool) : Nat → Nat → Bu → Int → Bu × Int
  | _, 0, b, r => (b, r)
  | i, k + 1, b, r => if (stepB b (kd i) (st i) (sv i) (sg i)).2.2.2.2.2.1 = 0 then runS kd st sv sg (i + 1) k (stepB b (kd i) (st i) (sv i) (sg i)) r else runS kd st sv sg (i + 1) k b (r + 1)
def resR (x : Bu × Int) : Int × Int × Int × Int × Bool × Int × Int × List (Int × Int × Bool) := (x.1.1, x.1.2.1, x.1.2.2.1, x.1.2.2.2.1, x.1.2.2.2.2.1, x.2, 0, x.1.2.2.2.2.2.2)
def runR (ca af : Int) (n : Nat) (kd st sv : Nat → Int) (sg : Nat → Bool) : Int × Int × Int × Int × Bool × Int × Int × List (Int × Int × Bool) :=
  if (newS ca af).2.2.2 = 0 then resR (runS kd st sv sg 0 n (ca, af, 0, -1, false, 0, []) 0) else (0, 0, 0, 0, false, 0, 6, [])
end S
theorem stepS_len {ca af ov re kd st sv : Int} {fz sg : Bool} {n : Nat} {t v : Nat → Int} {g : Nat → Bool} : (S.stepS ca af n t v g ov re fz kd st sv sg).2.2.2.2.2.2.length ≤ n + 1 := by
  unfold S.stepS
  split
  · exact putS_len
  · split
    · exact Nat.le_trans frzS_len (Nat.le_succ _)
    · split <;> exact Nat.zero_le _
theorem newS_ok {ca af : Int} (h : (S.newS ca af).2.2.2 = 0) : S.newS ca af = (ca, af, -1, 0) := by
  unfold S.newS at h ⊢
  split at h
  · rw [if_pos (by assumption)]
  · cases h
theorem newS_no {ca af : Int} (h : ¬ (S.newS ca af).2.2.2 = 0) : S.newS ca af = (0, 0, 0, 6) := by
  unfold S.newS at h ⊢
  split at h
  · exact absurd rfl h
  · rw [if_neg (by assumption)]

end Go.Ev
