/-
  What is known so far.
-/
import Derived.Test.YtedbjnojogjnkaaL8
namespace Go.Ev
open Go.Proofs
set_option linter.unusedVariables false
set_option linter.unusedSimpArgs false
noncomputable def xF (test : Bool → Prop → Prop → Prop) : Ext := consX test [k11, k34, k36, k35, k32, k21, k22, k17, k18, k25, k19]
theorem xF_ok : ExtOk Try.prog (xF cond) := consX_ok ⟨k11_ok, k34_ok, k36_ok, k35_ok, k32_ok, k21_ok, k22_ok, k17_ok, k18_ok, k25_ok, k19_ok, trivial⟩

end Go.Ev
