/-
  What is known.
-/
import Derived.Test.YtejcmbcmhfejkaaC2
namespace Go.Ev
open Go.Proofs
set_option linter.unusedVariables false
set_option linter.unusedSimpArgs false
set_option maxRecDepth 100000
noncomputable def xW (test : Bool → Prop → Prop → Prop) : Ext := consX test [k24, k25, k43, k45, k46]
theorem xW_ok : ExtOk Try.prog (xW cond) := consX_ok ⟨k24_ok, k25_ok, k43_ok, k45_ok, k46_ok, trivial⟩

end Go.Ev
