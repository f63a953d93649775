/-
  The example.
-/
import Derived.Test.YtejcmbcmhfejkaaEvY
import Derived.Test.YtejcmbcmhfejkaaEnv
namespace Go.Ev
open Go.Proofs
set_option linter.unusedVariables false
set_option linter.unusedSimpArgs false
set_option maxRecDepth 100000
noncomputable def k11 : Con := ⟨11, [], fun _ => true, fun _ => .bool true, fun _ => [], fun _ _ => .dead⟩
set_option maxRecDepth 100000 in
theorem te11 (Kst : KS) (Kret : KR) : run cond Try.env true noX false 20000 ⟨11, [.cd (mkFn Try.f11).body], [], [[], []], 0⟩ (proj 0 [] Kst Kret) = Kret (.tf true) [[]] 34 := by kernel_rfl
theorem k11_ok : k11.ok Try.prog := awake_ok (fn := mkFn Try.f11) (hi := 35) (n := 20000) Try.envOk Try.mixed noX_ok rfl (by decide) (by decide : Nat.ble 34 35 = true) te11

end Go.Ev
