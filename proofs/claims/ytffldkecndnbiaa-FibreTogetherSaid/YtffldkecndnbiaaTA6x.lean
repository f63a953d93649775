/-
  What is known.
-/
import Derived.Test.YtffldkecndnbiaaTA5
namespace Go.Ev
open Go.Proofs
set_option linter.unusedVariables false
set_option linter.unusedSimpArgs false
set_option maxRecDepth 100000
noncomputable def xD (test : Bool → Prop → Prop → Prop) : Ext := consX test [k19, k50, k43, k56]
theorem xD_ok : ExtOk Try.prog (xD cond) := consX_ok ⟨k19_ok, k50_ok, k43_ok, k56_ok, trivial⟩

end Go.Ev
