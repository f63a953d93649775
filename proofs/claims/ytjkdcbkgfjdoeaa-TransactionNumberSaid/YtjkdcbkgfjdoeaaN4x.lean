/-
  What is known.
-/
import Derived.Test.YtjkdcbkgfjdoeaaN2
import Derived.Test.YtjkdcbkgfjdoeaaN3
import Derived.Test.YtjkdcbkgfjdoeaaAW
import Derived.Test.YtjkdcbkgfjdoeaaAL
namespace Go.Ev
open Go.Proofs
set_option linter.unusedVariables false
set_option linter.unusedSimpArgs false
set_option maxRecDepth 100000
noncomputable def xN (test : Bool → Prop → Prop → Prop) : Ext := consX test [k12, k24, k25, k26, k27, k23, k45]
theorem xN_ok : ExtOk Try.prog (xN cond) := consX_ok ⟨k12_ok, k24_ok, k25_ok, k26_ok, k27_ok, k23_ok, k45_ok, trivial⟩

end Go.Ev
