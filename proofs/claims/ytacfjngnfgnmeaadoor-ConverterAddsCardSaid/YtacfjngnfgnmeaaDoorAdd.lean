/-
  Ticks add up, in plain integers.
-/
import Derived.Test.YtacfjngnfgnmeaaDoorLawArr
namespace Go.Proofs.YtacfjngnfgnmeaaDoor
open Go.RowKit

theorem rem_after {cu tg st n : Int} (h : Bd cu tg st) (h0 : 0 ≤ n) (h1 : n < remI cu tg st) : dist (tickC cu tg st n) tg = dist cu tg - n * st ∧ remI (tickC cu tg st n) tg st = remI cu tg st - n := by
  obtain ⟨p0, p1, p2⟩ := part h h0 h1
  have hd : dist (tickC cu tg st n) tg = dist cu tg - n * st := by
    unfold tickC
    rw [if_neg (by omega)]
    unfold dist at p1 ⊢
    split at p1 <;> (repeat' split) <;> omega
  refine ⟨hd, ?_⟩
  unfold remI
  rw [hd]
  have e : dist cu tg - n * st + st - 1 = (dist cu tg + st - 1) + (-n) * st := by rw [Int.neg_mul]; omega
  rw [e, Int.add_mul_ediv_right _ _ (by have := h.s0; omega)]
  omega
theorem tick_add {s cu tg mn mx st n k : Int} (hv : valE s cu tg mn mx st = 0) (hn : 0 ≤ n) (hk : 0 ≤ k) :
    tickC (tickC cu tg st n) tg st k = tickC cu tg st (n + k) ∧ tickS (tickS s cu tg st n) (tickC cu tg st n) tg st k = tickS s cu tg st (n + k) := by
  have h := bd_of hv
  by_cases e : remI cu tg st ≤ n
  · have e1 : tickC cu tg st n = tg := by unfold tickC; rw [if_pos e]
    have e2 : remI tg tg st ≤ k := by
      have : remI tg tg st = 0 := by
        unfold remI dist
        simp
        exact Int.ediv_eq_zero_of_lt (by have := h.s0; omega) (by omega)
      omega
    rw [e1]
    unfold tickC tickS
    rw [if_pos e2, if_pos (show remI cu tg st ≤ n + k by omega), if_pos e2, if_pos (show remI cu tg st ≤ n + k by omega), if_pos e]
    refine ⟨rfl, ?_⟩
    by_cases e4 : s = 4 <;> simp [e4]
  · obtain ⟨hd, hr⟩ := rem_after h hn (by omega)
    have es : tickS s cu tg st n = s := by unfold tickS; rw [if_neg e]
    obtain ⟨p0, p1, p2⟩ := part h hn (by omega)
    by_cases e2 : remI cu tg st ≤ n + k
    · have e3 : remI (tickC cu tg st n) tg st ≤ k := by omega
      constructor
      · rw [show tickC (tickC cu tg st n) tg st k = tg by rw [tickC, if_pos e3], show tickC cu tg st (n + k) = tg by rw [tickC, if_pos e2]]
      · rw [es]; unfold tickS; rw [if_pos e3, if_pos e2]
    · have e3 : ¬ remI (tickC cu tg st n) tg st ≤ k := by omega
      constructor
      · have hnk : (n + k) * st = n * st + k * st := Int.add_mul _ _ _
        rw [show tickC (tickC cu tg st n) tg st k = if tickC cu tg st n < tg then tickC cu tg st n + k * st else tickC cu tg st n - k * st by rw [tickC, if_neg e3]]
        rw [show tickC cu tg st (n + k) = if cu < tg then cu + (n + k) * st else cu - (n + k) * st by rw [tickC, if_neg e2]]
        rw [show tickC cu tg st n = if cu < tg then cu + n * st else cu - n * st by rw [tickC, if_neg e]]
        rw [hnk]
        unfold dist at p1
        by_cases e4 : cu < tg
        · rw [if_pos e4, if_pos e4]
          rw [if_neg (by omega)] at p1
          rw [if_pos (by omega)]; omega
        · rw [if_neg e4, if_neg e4]
          by_cases e5 : tg < cu
          · rw [if_pos e5] at p1
            rw [if_neg (by omega)]; omega
          · rw [if_neg e5] at p1
            omega
      · rw [es]; unfold tickS; rw [if_neg e3, if_neg e2]
theorem tick_none {s cu tg mn mx st : Int} (hv : valE s cu tg mn mx st = 0) : tickC cu tg st 0 = cu ∧ tickS s cu tg st 0 = s := by
  have h := bd_of hv
  have h0 := rem_nonneg h
  by_cases e : remI cu tg st ≤ 0
  · have ec := rem_zero h (by omega)
    refine ⟨by unfold tickC; rw [if_pos e]; exact ec.symm, ?_⟩
    unfold tickS
    rw [if_pos e, if_neg]
    intro e4
    have hf := (vd_of hv).fit
    subst e4 ec
    simp [fitB] at hf
  · refine ⟨?_, by unfold tickS; rw [if_neg e]⟩
    unfold tickC
    rw [if_neg e]
    split <;> simp
theorem tick_step {s cu tg mn mx st : Int} (hv : valE s cu tg mn mx st = 0) : tickC cu tg st 1 - cu ≤ st ∧ cu - tickC cu tg st 1 ≤ st := by
  have h := bd_of hv
  have h1 := h.s0
  by_cases e : remI cu tg st ≤ 1
  · have hd : dist cu tg ≤ st := by
      unfold remI at e
      have := Int.lt_mul_of_ediv_lt (a := dist cu tg + st - 1) (b := 2) (c := st) (by omega) (by omega)
      omega
    unfold tickC
    rw [if_pos e]
    unfold dist at hd
    split at hd <;> omega
  · unfold tickC
    rw [if_neg e, Int.one_mul]
    split <;> omega
end Go.Proofs.YtacfjngnfgnmeaaDoor
