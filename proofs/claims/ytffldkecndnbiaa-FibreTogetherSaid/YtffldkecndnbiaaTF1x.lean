/-
  What is known.
-/
import Derived.Test.YtffldkecndnbiaaTC3
import Derived.Test.YtffldkecndnbiaaTF0
import Derived.Test.YtffldkecndnbiaaTA6
namespace Go.Ev
open Go.Proofs
set_option linter.unusedVariables false
set_option linter.unusedSimpArgs false
set_option maxRecDepth 100000
noncomputable def xO0 (test : Bool → Prop → Prop → Prop) : Ext := consX test [k19, k43, k53]
theorem xO0_ok : ExtOk Try.prog (xO0 cond) := consX_ok ⟨k19_ok, k43_ok, k53_ok, trivial⟩

namespace S
def aptI (p j : Nat → Int) (a c : Nat) : Int := dl p j a + dl p j c - 2 * dl p j (com p a c)
end S

end Go.Ev
