/-
  What is known.
-/
import Derived.Test.YtffldkecndnbiaaF2
import Derived.Test.YtffldkecndnbiaaAL
namespace Go.Ev
open Go.Proofs
set_option linter.unusedVariables false
set_option linter.unusedSimpArgs false
set_option maxRecDepth 100000
noncomputable def xP (test : Bool → Prop → Prop → Prop) : Ext := consX test [k12, k26, k27, k21, k41]
theorem xP_ok : ExtOk Try.prog (xP cond) := consX_ok ⟨k12_ok, k26_ok, k27_ok, k21_ok, k41_ok, trivial⟩

end Go.Ev
