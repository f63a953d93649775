/-
  What the law knows.
-/
import Derived.Test.YtamccaclkkgkbaaX3
import Derived.Test.YtamccaclkkgkbaaAW
namespace Go.Ev
open Go.Proofs
set_option linter.unusedVariables false
set_option linter.unusedSimpArgs false
set_option maxRecDepth 100000
noncomputable def xL3 (test : Bool → Prop → Prop → Prop) : Ext := consX test [k9, k10, k11, k12, k13, k14, k15]
theorem xL3_ok : ExtOk Try.prog (xL3 cond) := consX_ok ⟨k9_ok, k10_ok, k11_ok, k12_ok, k13_ok, k14_ok, k15_ok, trivial⟩

end Go.Ev
