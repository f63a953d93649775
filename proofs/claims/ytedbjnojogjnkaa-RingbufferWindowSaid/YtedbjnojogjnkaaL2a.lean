/-
  The error of a buffer.
-/
import Derived.Test.YtedbjnojogjnkaaL1
namespace Go.Ev
open Go.Proofs
set_option linter.unusedVariables false
set_option linter.unusedSimpArgs false
set_option maxRecDepth 100000
noncomputable def xA (test : Bool → Prop → Prop → Prop) : Ext := consX test [k45, k46, k32, k35]
theorem xA_ok : ExtOk Try.prog (xA cond) := consX_ok ⟨k45_ok, k46_ok, k32_ok, k35_ok, trivial⟩

namespace S
/-- The error of a buffer. -/
def vB (ca af : Int) (n : Nat) (t v : Nat → Int) (ov re : Int) (fz : Bool) : Int :=
  if 1 ≤ ca ∧ ca ≤ 200 ∧ 0 ≤ af ∧ af ≤ 200 ∧ 0 ≤ ov ∧ ov ≤ 1099511627776 ∧ -1 ≤ re ∧ re ≤ af then
    (if errS t v 0 n = 0 then (if (n : Int) ≤ ca then (if (fz = true → re = 0) ∧ (re = 0 → fz = true) ∧ ¬ (0 < ov ∧ (n : Int) < ca) then 0 else 1) else 3) else errS t v 0 n)
  else 6
end S

end Go.Ev
