/-
  The chapter's example.
-/
import Derived.Test.YtofnanmggmeleaaEvY
import Derived.Test.YtofnanmggmeleaaEnv
namespace Go.Ev
open Go.Proofs
set_option linter.unusedVariables false
set_option linter.unusedSimpArgs false
set_option maxRecDepth 100000
noncomputable def k12 : Con := ⟨12, [], fun _ => true, fun _ => .bool true, fun _ => [], fun _ _ => .dead⟩
set_option maxRecDepth 100000 in
theorem te12 (Kst : KS) (Kret : KR) : run cond Try.env false noX false 20000 ⟨12, [.cd (mkFn Try.f12).body], [], [[], []], 0⟩ (proj 0 [] Kst Kret) = Kret (.tf true) [[]] 218 := by kernel_rfl
theorem k12_ok : k12.ok Try.prog := awake_ok (fn := mkFn Try.f12) (hi := 219) (n := 20000) Try.envOk Try.mixed noX_ok rfl (by decide) (by decide : Nat.ble 218 219 = true) te12

end Go.Ev
