/-
  What is known.
-/
import Derived.Test.YtejcmbcmhfejkaaB5
namespace Go.Ev
open Go.Proofs
set_option linter.unusedVariables false
set_option linter.unusedSimpArgs false
set_option maxRecDepth 100000
noncomputable def xT (test : Bool → Prop → Prop → Prop) : Ext := consX test [k24, k25, k43, k45, k46, k47, k48, k29]
theorem xT_ok : ExtOk Try.prog (xT cond) := consX_ok ⟨k24_ok, k25_ok, k43_ok, k45_ok, k46_ok, k47_ok, k48_ok, k29_ok, trivial⟩

end Go.Ev
