/-
  The parts that the statement needs, 2 of 2.
-/
import Derived.Test.YtndklmcnndilgaaV1031
namespace Go.Ev
open Go.Proofs
open Go.IntWalk
set_option linter.unusedVariables false
set_option linter.unusedSimpArgs false
set_option maxRecDepth 100000
theorem s103 (cn : ByteArray) (aq nq mq : Nat) (tq : Nat → Int) (rp : Int) (fl : Int) (hp : aq + nq ≤ mq) : Goes ((q103 cn aq nq mq tq rp fl)) ((p103 cn aq nq mq tq rp fl)) (true) := by
  skip
  unfold p103
  cases hf : S.fewC cn nq 0
  · exact goes_inr.mpr rfl
  have hq := few_n hf
  have hsl := stps_len (cn := cn) (n := nq) (t := (fun j => tq (j + aq))) (rp := rp) (fl := fl)
  simp only [mkl_len, cy_mkl, stp_mkl, stps_mkl, BEq.rfl]
  show Goes _ _ _
  skip
  all_goals
   repeat' first
    | with_reducible exact goes_inr.mpr rfl
    | with_reducible refine goes_if (fun h => ?_) (fun h => ?_) <;> (try simp only [lim64, imp_false, decide_eq_true_eq, decide_eq_false_iff_not, Int.toNat_natCast, toNat_pred, toNat_succ, Option.getD_some, Option.getD_none, Bool.not_eq_true', Bool.not_eq_false', Bool.and_eq_true, Bool.or_eq_true, Bool.and_eq_false_iff, Bool.or_eq_false_iff, bne_iff_ne, beq_iff_eq, bne_eq_false_iff_eq, beq_eq_false_iff_ne, ne_eq, not_and, Int.not_le, Int.not_lt, ge_iff_le, gt_iff_lt, Nat.not_lt, Nat.not_le, Bool.not_eq_true, Bool.not_eq_false, Bool.true_eq_false, Bool.false_eq_true, not_false_eq_true, not_true_eq_false] at h)
    | exact goes_none.mpr (by omega)
   all_goals first | (exfalso; omega) | exact goes_inr.mpr rfl | (exfalso; simp_all; done) | (exfalso; simp at h; done)
theorem k103_ok : k103.ok Try.prog := by
  intro x hx
  obtain ⟨⟨cn, ⟨aq, nq, mq, tq, _⟩, rp, fl, _⟩, _⟩ := x
  obtain ⟨h1, h2⟩ := a103 cn aq nq mq tq rp fl (s103 cn aq nq mq tq rp fl (of_dec hx rfl))
  exact ⟨⟨400, (by decide : 1 + 1 + 0 ≤ 400), h1⟩, h2⟩
end Go.Ev
