/-
  What is known.
-/
import Derived.Test.YtffldkecndnbiaaE2
import Derived.Test.YtffldkecndnbiaaAL
namespace Go.Ev
open Go.Proofs
set_option linter.unusedVariables false
set_option linter.unusedSimpArgs false
set_option maxRecDepth 100000
noncomputable def xN (test : Bool → Prop → Prop → Prop) : Ext := consX test [k12, k28, k29, k21, k24, k41]
theorem xN_ok : ExtOk Try.prog (xN cond) := consX_ok ⟨k12_ok, k28_ok, k29_ok, k21_ok, k24_ok, k41_ok, trivial⟩

end Go.Ev
