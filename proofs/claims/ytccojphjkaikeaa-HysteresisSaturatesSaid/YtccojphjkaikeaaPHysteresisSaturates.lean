/-
  The statement HysteresisSaturates holds: Behind the least Down all relays are 0, behind the greatest Up all are 1.
-/
import Derived.Test.YtccojphjkaikeaaME2
import Derived.Test.YtccojphjkaikeaaKit
namespace Go.Proofs.Ytccojphjkaikeaa
open Go.ChangeShapes Go.WideShapes Go.ChangeAt Go.RowKit Go.ChangeMaps

theorem own : ownKnob Try.prog.godebug = none := by kernel_rfl
theorem laidOut : laidOutB Try.prog = true := by kernel_rfl
theorem shs11 : Go.Ev.shsOf Try.prog 8 Try.f11.params.toList = some Go.Ev.k11.ss := by kernel_rfl
set_option maxRecDepth 100000 in
theorem hysteresisSaturates_lifted (os : Os) (started : os.Started) (H : Type) (enc : TypeId × Value → H) :
    ReturnsInHanded {} Try.checked os 11 .any (Rows.hysteresisSaturatesSpec.pre6 enc Try.prog Try.f11 Rows.hysteresisSaturatesRow.domain false) (Rows.hysteresisSaturatesSpec.post enc Try.prog Try.f11 false true false false) := by
  refine returnsInHanded_of_change (C := Try.checked) own started (by kernel_rfl) Try.func11
    (ChangeSpec.witness6 (enc := enc) (C := Try.checked) false ⟨#[], #[.agg #[.slice none 0 0, .int .u32 0]], []⟩ 8 (by kernel_rfl) (by kernel_rfl) (by kernel_rfl) (by kernel_rfl)) ?_
  intro W base args ds gs before hval0 hW hcnd _
  have hval : ∀ (j : Nat) t v, Try.f11.params[j]? = some t → args[j]? = some v → Value.okWide Try.prog W .any base t v := hval0
  have hW' := hW
  obtain ⟨p, q, hA0, hV, rfl, hfz, hnd⟩ := hW
  have hA : DataW.TrodAll enc Try.prog W 0 (fun _ => true) true Try.f11.params.toList args.toList ds p := hA0
  obtain ⟨rfl, rfl⟩ := trodVars_none hV
  have hc := Go.Ev.law_link Go.Ev.k11_ok (fun _ => rfl) shs11 (fun x hx => by obtain ⟨⟨⟨np, tp, vp, u1⟩, o, u2⟩, u4⟩ := x; obtain ⟨⟨⟨_, q1, q2, _⟩, q3, _⟩, _⟩ := hx; exact decide_eq_true ⟨Nat.le_of_eq (Nat.zero_add _), Go.Ev.bytes_mk q1, Go.Ev.bytes_mk q2⟩) hA (fun j t v h1 h2 => hval j t v (by simpa using h1) h2)
  rw [Try.params11] at hA hval
  obtain ⟨v0, d0, rfl, rfl, h0⟩ := trodAll_one hA
  refine Go.Calls.mono hc fun e W' ⟨he, hb⟩ => ?_
  subst he
  exact ⟨_, rfl, law_done laidOut (by rw [Try.params11]; exact of_decide_eq_true (by kernel_rfl)) (by kernel_rfl) Try.underlying4 rfl hW' rfl hb⟩

/-- The statement. -/
theorem hysteresisSaturates_holds : Rows.HysteresisSaturatesSaid :=
  OpenClaim.holds_of_wide 11 Try.f11 rfl rfl rfl rfl rfl rfl rfl ⟨rfl, rfl, rfl, rfl, rfl⟩ rfl rfl rfl rfl rfl (by kernel_rfl) Try.func11 (by kernel_rfl)
    (of_decide_eq_true (by kernel_rfl)) (by unfold Func.isWrapper; first | (rw [if_pos (by decide +kernel)]; kernel_rfl) | (rw [if_neg (by decide +kernel)]; exact ⟨rfl, rfl⟩))
    (fun os started H enc _ => hysteresisSaturates_lifted os started H enc)
#print axioms hysteresisSaturates_holds
end Go.Proofs.Ytccojphjkaikeaa
