/-
  The chapter's example.
-/
import Derived.Test.YtamccaclkkgkbaaEvY
import Derived.Test.YtamccaclkkgkbaaEnv
namespace Go.Ev
open Go.Proofs
set_option linter.unusedVariables false
set_option linter.unusedSimpArgs false
set_option maxRecDepth 100000
noncomputable def k9 : Con := ⟨9, [], fun _ => true, fun _ => .bool true, fun _ => [], fun _ _ => .dead⟩
set_option maxRecDepth 100000 in
theorem te9 (Kst : KS) (Kret : KR) : run cond Try.env true noX false 4000 ⟨9, [.cd (mkFn Try.f9).body], [], [[], []], 0⟩ (proj 0 [] Kst Kret) = Kret (.tf true) [[]] 295 := by kernel_rfl
theorem k9_ok : k9.ok Try.prog := awake_ok (fn := mkFn Try.f9) (hi := 296) (n := 4000) Try.envOk Try.mixed noX_ok rfl (by decide) (by decide : Nat.ble 295 296 = true) te9

end Go.Ev
