/-
  What is known.
-/
import Derived.Test.YtffldkecndnbiaaA7
import Derived.Test.YtffldkecndnbiaaAL
namespace Go.Ev
open Go.Proofs
set_option linter.unusedVariables false
set_option linter.unusedSimpArgs false
set_option maxRecDepth 100000
noncomputable def xF (test : Bool → Prop → Prop → Prop) : Ext := consX test [k12, k19, k20, k14, k16, k17, k18, k21, k22, k41]
theorem xF_ok : ExtOk Try.prog (xF cond) := consX_ok ⟨k12_ok, k19_ok, k20_ok, k14_ok, k16_ok, k17_ok, k18_ok, k21_ok, k22_ok, k41_ok, trivial⟩

end Go.Ev
