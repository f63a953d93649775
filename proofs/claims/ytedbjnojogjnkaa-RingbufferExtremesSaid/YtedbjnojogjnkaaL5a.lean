/-
  What is known so far.
-/
import Derived.Test.YtedbjnojogjnkaaL3
import Derived.Test.YtedbjnojogjnkaaL4
namespace Go.Ev
open Go.Proofs
set_option linter.unusedVariables false
set_option linter.unusedSimpArgs false
noncomputable def xC (test : Bool → Prop → Prop → Prop) : Ext := consX test [k19, k20, k45, k46, k32, k35, k12, k14, k23, k24, k25, k26, k15, k16, k17, k18, k13, k47, k22]
theorem xC_ok : ExtOk Try.prog (xC cond) := consX_ok ⟨k19_ok, k20_ok, k45_ok, k46_ok, k32_ok, k35_ok, k12_ok, k14_ok, k23_ok, k24_ok, k25_ok, k26_ok, k15_ok, k16_ok, k17_ok, k18_ok, k13_ok, k47_ok, k22_ok, trivial⟩

end Go.Ev
