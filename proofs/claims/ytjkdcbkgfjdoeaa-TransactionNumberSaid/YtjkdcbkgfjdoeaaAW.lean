/-
  The example.
-/
import Derived.Test.YtjkdcbkgfjdoeaaL0
namespace Go.Ev
open Go.Proofs
set_option linter.unusedVariables false
set_option linter.unusedSimpArgs false
set_option maxRecDepth 100000
noncomputable def k12 : Con := ⟨12, [], fun _ => true, fun _ => .bool true, fun _ => [], fun _ _ => .dead⟩
set_option maxRecDepth 100000 in
theorem te12 (Kst : KS) (Kret : KR) : run cond Try.env true noX false 4000 ⟨12, [.cd (mkFn Try.f12).body], [], [[], []], 0⟩ (proj 0 [] Kst Kret) = Kret (.tf true) [[]] 195 := by kernel_rfl
theorem k12_ok : k12.ok Try.prog := awake_ok (fn := mkFn Try.f12) (hi := 196) (n := 4000) Try.envOk Try.mixed noX_ok rfl (by decide) (by decide : Nat.ble 195 196 = true) te12

end Go.Ev
