/-
  What is known.
-/
import Derived.Test.YtjkdcbkgfjdoeaaA1
namespace Go.Ev
open Go.Proofs
set_option linter.unusedVariables false
set_option linter.unusedSimpArgs false
set_option maxRecDepth 100000
noncomputable def xA (test : Bool → Prop → Prop → Prop) : Ext := consX test [k13, k15]
theorem xA_ok : ExtOk Try.prog (xA cond) := consX_ok ⟨k13_ok, k15_ok, trivial⟩

end Go.Ev
