/-
  What is known so far.
-/
import Derived.Test.YtedbjnojogjnkaaL2
namespace Go.Ev
open Go.Proofs
set_option linter.unusedVariables false
set_option linter.unusedSimpArgs false
set_option maxRecDepth 100000
noncomputable def xB (test : Bool → Prop → Prop → Prop) : Ext := consX test [k19, k20, k45, k46, k32, k35]
theorem xB_ok : ExtOk Try.prog (xB cond) := consX_ok ⟨k19_ok, k20_ok, k45_ok, k46_ok, k32_ok, k35_ok, trivial⟩

end Go.Ev
