/-
  What is known.
-/
import Derived.Test.YtffldkecndnbiaaD2
import Derived.Test.YtffldkecndnbiaaAL
namespace Go.Ev
open Go.Proofs
set_option linter.unusedVariables false
set_option linter.unusedSimpArgs false
set_option maxRecDepth 100000
noncomputable def xL (test : Bool → Prop → Prop → Prop) : Ext := consX test [k12, k23, k25, k22, k24, k41]
theorem xL_ok : ExtOk Try.prog (xL cond) := consX_ok ⟨k12_ok, k23_ok, k25_ok, k22_ok, k24_ok, k41_ok, trivial⟩

end Go.Ev
