/-
  Common nodes.
-/
import Derived.Test.YtffldkecndnbiaaTC1
namespace Go.Ev
open Go.Proofs
set_option linter.unusedVariables false
set_option linter.unusedSimpArgs false
set_option maxRecDepth 100000
noncomputable def xH (test : Bool → Prop → Prop → Prop) : Ext := consX test [k19, k53]
theorem xH_ok : ExtOk Try.prog (xH cond) := consX_ok ⟨k19_ok, k53_ok, trivial⟩

end Go.Ev
