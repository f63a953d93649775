/-
  What steps lead to.
-/
import Derived.Test.YtedbjnojogjnkaaS3a
namespace Go.Ev
open Go.Proofs
set_option linter.unusedVariables false
set_option linter.unusedSimpArgs false
namespace S
def byte (x : Int) : Bool := decide (0 ≤ x ∧ x ≤ 255)
end S
theorem byte_mk {x : Int} (h : 0 ≤ x ∧ x ≤ 255) : S.byte x = true := decide_eq_true h
theorem bytes_mk {n : Nat} {t : Nat → Int} (h : ∀ j, j < n → 0 ≤ t j ∧ t j ≤ 255) : S.bytes n t = true := decide_eq_true h

theorem runR_facts {ca af : Int} {n : Nat} {kd st sv : Nat → Int} {sg : Nat → Bool} (h : 1 ≤ ca ∧ ca ≤ 200 ∧ 0 ≤ af ∧ af ≤ 200) : (S.runR ca af n kd st sv sg).1 = ca ∧ (S.runR ca af n kd st sv sg).2.1 = af ∧ (S.runR ca af n kd st sv sg).2.2.2.2.2.2.1 = 0 ∧
    S.vBu ca af (S.runR ca af n kd st sv sg).2.2.2.2.2.2.2 (S.runR ca af n kd st sv sg).2.2.1 (S.runR ca af n kd st sv sg).2.2.2.1 (S.runR ca af n kd st sv sg).2.2.2.2.1 = 0 := by
  have hn : (S.newS ca af).2.2.2 = 0 := by unfold S.newS; rw [if_pos h]
  obtain ⟨a1, a2, a3⟩ := run_ok' (kd := kd) (st := st) (sv := sv) (sg := sg) n 0 (ca, af, 0, -1, false, 0, []) 0 (okB_new h)
  unfold S.runR
  rw [if_pos hn]
  simp only at a1 a2
  unfold S.okB at a3
  rw [a1, a2] at a3
  exact ⟨a1, a2, rfl, a3⟩

end Go.Ev
