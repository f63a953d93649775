/-
  What is known.
-/
import Derived.Test.YtejcmbcmhfejkaaD2
import Derived.Test.YtejcmbcmhfejkaaA5
namespace Go.Ev
open Go.Proofs
set_option linter.unusedVariables false
set_option linter.unusedSimpArgs false
set_option maxRecDepth 100000
noncomputable def xY (test : Bool → Prop → Prop → Prop) : Ext := consX test [k11, k43, k33, k34]
theorem xY_ok : ExtOk Try.prog (xY cond) := consX_ok ⟨k11_ok, k43_ok, k33_ok, k34_ok, trivial⟩

end Go.Ev
