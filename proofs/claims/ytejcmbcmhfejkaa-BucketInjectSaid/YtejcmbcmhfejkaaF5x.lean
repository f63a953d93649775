/-
  What is known.
-/
import Derived.Test.YtejcmbcmhfejkaaF4
import Derived.Test.YtejcmbcmhfejkaaA5
namespace Go.Ev
open Go.Proofs
set_option linter.unusedVariables false
set_option linter.unusedSimpArgs false
set_option maxRecDepth 100000
noncomputable def xV6 (test : Bool → Prop → Prop → Prop) : Ext := consX test [k11, k24, k43, k27, k28, k29, k30]
theorem xV6_ok : ExtOk Try.prog (xV6 cond) := consX_ok ⟨k11_ok, k24_ok, k43_ok, k27_ok, k28_ok, k29_ok, k30_ok, trivial⟩

end Go.Ev
