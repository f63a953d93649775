/-
  The chapter's examples.
-/
import Derived.Test.YtanhkddgnhmelaaCS
namespace Go.Ev
open Go.Proofs
set_option linter.unusedVariables false
set_option linter.unusedSimpArgs false
set_option maxRecDepth 100000
noncomputable def k4 : Con := ⟨4, [], fun _ => true, fun _ => .bool true, fun _ => [], fun _ _ => .dead⟩
set_option maxRecDepth 100000 in
theorem te4 (Kst : KS) (Kret : KR) : run cond Try.env false (xC cond) false 20000 ⟨4, [.cd (mkFn Try.f4).body], [], [[], []], 0⟩ (proj 0 [] Kst Kret) = Kret (.tf true) [[]] 496 := by kernel_rfl
theorem k4_ok : k4.ok Try.prog := awake_ok (fn := mkFn Try.f4) (hi := 497) (n := 20000) Try.envOk Try.mixed xC_ok rfl (by decide) (by decide : Nat.ble 496 497 = true) te4

end Go.Ev
