/-
  The statement TaskOrder holds: Order answers the tasks by their deadlines, or the error, for any tasks.
-/
import Derived.Test.YtofnanmggmeleaaV82
import Derived.Test.YtofnanmggmeleaaKit
namespace Go.Proofs.Ytofnanmggmeleaa
open Go.ChangeShapes Go.WideShapes Go.ChangeAt Go.RowKit Go.ChangeMaps

theorem own : ownKnob Try.prog.godebug = none := by kernel_rfl
theorem laidOut : laidOutB Try.prog = true := by kernel_rfl
theorem shs8 : Go.Ev.shsOf Try.prog 8 Try.f8.params.toList = some Go.Ev.k8.ss := by kernel_rfl
set_option maxRecDepth 100000 in
theorem taskOrder_lifted (os : Os) (started : os.Started) (H : Type) (enc : TypeId × Value → H) :
    ReturnsInHanded {} Try.checked os 8 .any (Rows.taskOrderSpec.pre6 enc Try.prog Try.f8 Rows.taskOrderRow.domain false) (Rows.taskOrderSpec.post enc Try.prog Try.f8 false true false false) := by
  refine returnsInHanded_of_change (C := Try.checked) own started (by kernel_rfl) Try.func8
    (ChangeSpec.witness6 (enc := enc) (C := Try.checked) false ⟨#[], #[.slice none 0 0], []⟩ 8 (by kernel_rfl) (by kernel_rfl) (by kernel_rfl) (by kernel_rfl)) ?_
  intro W base args ds gs before hval0 hW hcnd _
  have hval : ∀ (j : Nat) t v, Try.f8.params[j]? = some t → args[j]? = some v → Value.okWide Try.prog W .any base t v := hval0
  have hW' := hW
  obtain ⟨p, q, hA0, hV, rfl, hfz, hnd⟩ := hW
  have hA : DataW.TrodAll enc Try.prog W 0 (fun _ => true) true Try.f8.params.toList args.toList ds p := hA0
  obtain ⟨rfl, rfl⟩ := trodVars_none hV
  have hc := Go.Ev.law_link Go.Ev.k8_ok (fun _ => rfl) shs8 (fun x _ => decide_eq_true (Nat.le_of_eq (Nat.zero_add _))) hA (fun j t v h1 h2 => hval j t v (by simpa using h1) h2)
  rw [Try.params8] at hA hval
  obtain ⟨v0, d0, rfl, rfl, h0⟩ := trodAll_one hA
  refine Go.Calls.mono hc fun e W' ⟨he, hb⟩ => ?_
  subst he
  exact ⟨_, rfl, law_done laidOut (by rw [Try.params8]; exact of_decide_eq_true (by kernel_rfl)) (by kernel_rfl) Try.underlying4 rfl hW' rfl hb⟩

/-- The statement. -/
theorem taskOrder_holds : Rows.TaskOrderSaid :=
  OpenClaim.holds_of_wide 8 Try.f8 rfl rfl rfl rfl rfl rfl rfl ⟨rfl, rfl, rfl, rfl, rfl⟩ rfl rfl rfl rfl rfl (by kernel_rfl) Try.func8 (by kernel_rfl)
    (of_decide_eq_true (by kernel_rfl)) (by unfold Func.isWrapper; first | (rw [if_pos (by decide +kernel)]; kernel_rfl) | (rw [if_neg (by decide +kernel)]; exact ⟨rfl, rfl⟩))
    (fun os started H enc _ => taskOrder_lifted os started H enc)
#print axioms taskOrder_holds
end Go.Proofs.Ytofnanmggmeleaa
