/-
  What is known.
-/
import Derived.Test.YtejcmbcmhfejkaaB2
namespace Go.Ev
open Go.Proofs
set_option linter.unusedVariables false
set_option linter.unusedSimpArgs false
set_option maxRecDepth 100000
noncomputable def xV (test : Bool → Prop → Prop → Prop) : Ext := consX test [k24, k25, k43]
theorem xV_ok : ExtOk Try.prog (xV cond) := consX_ok ⟨k24_ok, k25_ok, k43_ok, trivial⟩

end Go.Ev
