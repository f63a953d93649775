/-
  What is known.
-/
import Derived.Test.YtffldkecndnbiaaC4b
import Derived.Test.YtffldkecndnbiaaC3
namespace Go.Ev
open Go.Proofs
set_option linter.unusedVariables false
set_option linter.unusedSimpArgs false
set_option maxRecDepth 100000
noncomputable def xI (test : Bool → Prop → Prop → Prop) : Ext := consX test [k19, k20, k50, k51, k39, k52]
theorem xI_ok : ExtOk Try.prog (xI cond) := consX_ok ⟨k19_ok, k20_ok, k50_ok, k51_ok, k39_ok, k52_ok, trivial⟩

end Go.Ev
