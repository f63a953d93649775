/-
  What is asked of timetables.
-/
import Derived.Test.YtamccaclkkgkbaaB3
namespace Go.Ev
open Go.Proofs
set_option linter.unusedVariables false
set_option linter.unusedSimpArgs false
set_option maxRecDepth 100000

namespace S
/-- The error of the cycles from the i-th on. -/
def cycE (t v : Nat → ByteArray) (g : Nat → Int) : Nat → Nat → Int
  | _, 0 => 0
  | i, k + 1 => if isNam (t i) = true ∧ isNam (v i) = true then (if any (fun j => eqS (t j) (t i)) i = true then 5 else if 1 ≤ g i ∧ g i ≤ 200 then cycE t v g (i + 1) k else 6) else 2
def cycS (n : Nat) (t v : Nat → ByteArray) (g : Nat → Int) : Int := if n = 0 then 7 else if 6 < n then 3 else cycE t v g 0 n
def cntE (t : Nat → Int) : Nat → Nat → Int → Int
  | _, 0, s => if 1 ≤ s ∧ s ≤ 8 then 0 else 6
  | i, k + 1, s => if 0 ≤ t i ∧ t i ≤ 4 then cntE t (i + 1) k (s + t i) else 6
def forE (n : Int) (t v : Nat → Int) : Nat → Nat → Int
  | _, 0 => 0
  | i, k + 1 => if 0 ≤ t i ∧ t i ≤ n - 1 ∧ 0 ≤ v i ∧ v i ≤ n - 1 then (if any (fun j => decide (t j = t i) && decide (v j = v i)) i = true then 5 else forE n t v (i + 1) k) else 6
/-- The first error. -/
def nz (e R : Int) : Int := if e = 0 then R else e
/-- The error of a timetable. -/
def ttE (nc : Nat) (t v : Nat → ByteArray) (g : Nat → Int) (nn : Nat) (tn : Nat → Int) (ng : Nat) (tg vg : Nat → Int) (rc : Int) : Int := nz (cycS nc t v g) (if nn = nc then nz (cntE tn 0 nn 0) (if 36 < ng then 3 else nz (forE nc tg vg 0 ng) (if 0 ≤ rc ∧ rc ≤ 1000 then 0 else 6)) else 6)
end S
theorem any_sc {p : Nat → Bool} {n : Nat} : S.any p (n + 1) = (S.any p n || p n) := by simp [S.any, List.range_succ]

end Go.Ev
