/-
  A step.
-/
import Derived.Test.YtedbjnojogjnkaaL6a
namespace Go.Ev
open Go.Proofs
set_option linter.unusedVariables false
set_option linter.unusedSimpArgs false

namespace S
/-- The buffer behind a step. -/
def stepS (ca af : Int) (n : Nat) (t v : Nat → Int) (g : Nat → Bool) (ov re : Int) (fz : Bool) (kd st sv : Int) (sg : Bool) : Bu :=
  if kd = 1 then putS ca af n t v g ov re fz st sv sg else if kd = 2 then frzS ca af n t v g ov re fz 0 else if kd = 3 then
    ((reaS ca af n t v ov re fz).1, (reaS ca af n t v ov re fz).2.1, 0, (reaS ca af n t v ov re fz).2.2.1, false, (reaS ca af n t v ov re fz).2.2.2, []) else noB 1
end S

end Go.Ev
