/-
  What the laws know.
-/
import Derived.Test.YtofnanmggmeleaaF1
import Derived.Test.YtofnanmggmeleaaE1
import Derived.Test.YtofnanmggmeleaaAW
import Derived.Test.YtofnanmggmeleaaV1
import Derived.Test.YtofnanmggmeleaaV2
namespace Go.Ev
open Go.Proofs
set_option linter.unusedVariables false
set_option linter.unusedSimpArgs false
set_option maxRecDepth 100000
noncomputable def xL3 (test : Bool → Prop → Prop → Prop) : Ext := consX test [k12, k13, k15, k14, k16, k17, k18, k19]
theorem xL3_ok : ExtOk Try.prog (xL3 cond) := consX_ok ⟨k12_ok, k13_ok, k15_ok, k14_ok, k16_ok, k17_ok, k18_ok, k19_ok, trivial⟩
noncomputable def xL4 (test : Bool → Prop → Prop → Prop) : Ext := consX test [k12, k13, k15, k20, k21, k19, k22, k16]
theorem xL4_ok : ExtOk Try.prog (xL4 cond) := consX_ok ⟨k12_ok, k13_ok, k15_ok, k20_ok, k21_ok, k19_ok, k22_ok, k16_ok, trivial⟩

end Go.Ev
