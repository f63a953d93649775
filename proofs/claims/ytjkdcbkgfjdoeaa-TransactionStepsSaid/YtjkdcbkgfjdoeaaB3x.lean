/-
  What is known.
-/
import Derived.Test.YtjkdcbkgfjdoeaaB2
import Derived.Test.YtjkdcbkgfjdoeaaA3
import Derived.Test.YtjkdcbkgfjdoeaaAW
import Derived.Test.YtjkdcbkgfjdoeaaAL
namespace Go.Ev
open Go.Proofs
set_option linter.unusedVariables false
set_option linter.unusedSimpArgs false
set_option maxRecDepth 100000
noncomputable def xD (test : Bool → Prop → Prop → Prop) : Ext := consX test [k12, k13, k15, k16, k17, k18, k19, k20, k45]
theorem xD_ok : ExtOk Try.prog (xD cond) := consX_ok ⟨k12_ok, k13_ok, k15_ok, k16_ok, k17_ok, k18_ok, k19_ok, k20_ok, k45_ok, trivial⟩

theorem stp_len {ph : Int} {ev : Bool} {n : Nat} {a i o : Nat → Int} : (S.stpS ph ev n a i o).length ≤ 90 := by
  unfold S.stpS; split
  · exact cho_len
  · exact Nat.zero_le _

end Go.Ev
