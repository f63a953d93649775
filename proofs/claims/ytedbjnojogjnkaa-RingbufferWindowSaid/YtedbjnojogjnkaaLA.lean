/-
  The chapter's example.
-/
import Derived.Test.YtedbjnojogjnkaaEnv
import Derived.Test.YtedbjnojogjnkaaEvY
namespace Go.Ev
open Go.Proofs
set_option linter.unusedVariables false
set_option linter.unusedSimpArgs false
set_option maxRecDepth 100000
noncomputable def k11 : Con := ⟨11, [], fun _ => true, fun _ => .bool true, fun _ => [], fun _ _ => .dead⟩
set_option maxRecDepth 100000 in
theorem te11 (Kst : KS) (Kret : KR) : run cond Try.env true noX false 4000 ⟨11, [.cd (mkFn Try.f11).body], [], [[], []], 0⟩ (proj 0 [] Kst Kret) = Kret (.tf true) [[]] 113 := by kernel_rfl
theorem k11_ok : k11.ok Try.prog := awake_ok (fn := mkFn Try.f11) (hi := 114) (n := 4000) Try.envOk Try.mixed noX_ok rfl (by decide) (by decide : Nat.ble 113 114 = true) te11

end Go.Ev
