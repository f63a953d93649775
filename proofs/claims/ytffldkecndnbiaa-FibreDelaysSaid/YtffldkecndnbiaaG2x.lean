/-
  What is known.
-/
import Derived.Test.YtffldkecndnbiaaG1
import Derived.Test.YtffldkecndnbiaaC4
import Derived.Test.YtffldkecndnbiaaAL
namespace Go.Ev
open Go.Proofs
set_option linter.unusedVariables false
set_option linter.unusedSimpArgs false
set_option maxRecDepth 100000
noncomputable def xR (test : Bool → Prop → Prop → Prop) : Ext := consX test [k12, k34, k32, k30, k39]
theorem xR_ok : ExtOk Try.prog (xR cond) := consX_ok ⟨k12_ok, k34_ok, k32_ok, k30_ok, k39_ok, trivial⟩

end Go.Ev
