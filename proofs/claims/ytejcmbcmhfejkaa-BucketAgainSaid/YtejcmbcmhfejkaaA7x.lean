/-
  What is known.
-/
import Derived.Test.YtejcmbcmhfejkaaA4
import Derived.Test.YtejcmbcmhfejkaaA5
namespace Go.Ev
open Go.Proofs
set_option linter.unusedVariables false
set_option linter.unusedSimpArgs false
set_option maxRecDepth 100000
noncomputable def x10 (test : Bool → Prop → Prop → Prop) : Ext := consX test [k11, k12, k14, k16]
theorem x10_ok : ExtOk Try.prog (x10 cond) := consX_ok ⟨k11_ok, k12_ok, k14_ok, k16_ok, trivial⟩

end Go.Ev
