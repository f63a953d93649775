/-
  What is known so far.
-/
import Derived.Test.YtedbjnojogjnkaaS2
import Derived.Test.YtedbjnojogjnkaaS1
namespace Go.Ev
open Go.Proofs
set_option linter.unusedVariables false
set_option linter.unusedSimpArgs false
noncomputable def xI (test : Bool → Prop → Prop → Prop) : Ext := consX test [k11, k37, k34, k17, k25, k19, k21, k22]
theorem xI_ok : ExtOk Try.prog (xI cond) := consX_ok ⟨k11_ok, k37_ok, k34_ok, k17_ok, k25_ok, k19_ok, k21_ok, k22_ok, trivial⟩

end Go.Ev
