/-
  Command, Tick and one step of a script, in the words of plain integers.
-/
import Derived.Test.YtacfjngnfgnmeaaDoorMath
namespace Go.Proofs.YtacfjngnfgnmeaaDoor
open Go.RowKit

theorem cmd_ok (s cu tg mn mx st k v : Int) (w : World) (hN : Nm w) (h : cmdE s cu tg mn mx st k v = 0) :
    Calls Tryd.prog 18 #[.agg #[.int .i64 s, .int .i64 cu, .int .i64 tg, .int .i64 mn, .int .i64 mx, .int .i64 st], .int .i64 k, .int .i64 v] w fun e w' => e = .returned (.tuple #[.agg #[.int .i64 (cmdS s cu k v), .int .i64 cu, .int .i64 (cmdT tg k v), .int .i64 mn, .int .i64 mx, .int .i64 st], .int .i64 0]) ∧ New w w' := by
  obtain ⟨hv, k1, k6, ha, h3⟩ := cmdE_ok h
  skip
  have : k = 1 ∨ k = 2 ∨ k = 3 ∨ k = 4 ∨ k = 5 ∨ k = 6 := by omega
  rcases this with rfl | rfl | rfl | rfl | rfl | rfl
  · exact cmd_1 _ _ _ _ _ _ _ w hN hv ha
  · exact cmd_2 _ _ _ _ _ _ _ w hN hv ha
  · have h3 := h3 rfl
    skip
    by_cases e : v = cu
    · subst e
      rw [show cmdS s v 3 v = 3 by simp [cmdS], show cmdT tg 3 v = v by simp [cmdT]]
      exact cmd_3e _ _ _ _ _ _ w hN hv ha h3
    · rw [show cmdS s cu 3 v = 4 by simp [cmdS, e], show cmdT tg 3 v = v by simp [cmdT]]
      exact cmd_3n _ _ _ _ _ _ _ w hN hv ha h3 (by simpa using e)
  · by_cases e : s = 2
    · subst e
      rw [show cmdS 2 cu 4 v = 1 by simp [cmdS], show cmdT tg 4 v = 0 by simp [cmdT]]
      exact cmd_4s _ _ _ _ _ _ w hN hv ha
    · rw [show cmdS s cu 4 v = 2 by simp [cmdS, e], show cmdT tg 4 v = 0 by simp [cmdT]]
      exact cmd_4n _ _ _ _ _ _ _ w hN hv ha (by simpa using e)
  · exact cmd_5 _ _ _ _ _ _ _ w hN hv ha
  · exact cmd_6 _ _ _ _ _ _ _ w hN hv ha
theorem cmd_err (s cu tg mn mx st k v : Int) (w : World) (hN : Nm w) (h : cmdE s cu tg mn mx st k v ≠ 0) :
    Calls Tryd.prog 18 #[.agg #[.int .i64 s, .int .i64 cu, .int .i64 tg, .int .i64 mn, .int .i64 mx, .int .i64 st], .int .i64 k, .int .i64 v] w fun e w' => e = .returned (.tuple #[.agg #[.int .i64 0, .int .i64 0, .int .i64 0, .int .i64 0, .int .i64 0, .int .i64 0], .int .i64 (cmdE s cu tg mn mx st k v)]) ∧ New w w' := by
  by_cases h1 : valE s cu tg mn mx st ≠ 0
  · rw [show cmdE s cu tg mn mx st k v = valE s cu tg mn mx st by unfold cmdE; rw [if_pos h1]]
    exact cmd_e1 _ _ _ _ _ _ _ _ w hN (by simpa using h1)
  have hv : valE s cu tg mn mx st = 0 := by simpa using h1
  by_cases h2 : k < 1 ∨ 6 < k
  · rw [show cmdE s cu tg mn mx st k v = 1 by unfold cmdE; rw [if_neg h1, if_pos h2]]
    by_cases h3 : k < 1
    · exact cmd_e2a _ _ _ _ _ _ _ _ w hN hv h3
    · exact cmd_e2b _ _ _ _ _ _ _ _ w hN hv (by omega) h3
  by_cases h3 : isaB s cu k = false
  · rw [show cmdE s cu tg mn mx st k v = 8 by unfold cmdE; rw [if_neg h1, if_neg h2, if_pos h3]]
    exact cmd_e3 _ _ _ _ _ _ _ _ w hN hv (by omega) (by omega) h3
  by_cases h4 : k = 3 ∧ alwB mn mx v = false
  · rw [show cmdE s cu tg mn mx st k v = 6 by unfold cmdE; rw [if_neg h1, if_neg h2, if_neg h3, if_pos h4]]
    obtain ⟨rfl, h4⟩ := h4
    exact cmd_e4 _ _ _ _ _ _ _ w hN hv (by simpa using h3) h4
  exact absurd (by unfold cmdE; rw [if_neg h1, if_neg h2, if_neg h3, if_neg h4]) h
theorem rcmd_ok (s cu tg mn mx st k v : Int) (w : World) (h : cmdE s cu tg mn mx st k v = 0) :
    Calls Tryd.prog 19 #[.agg #[.int .i64 s, .int .i64 cu, .int .i64 tg, .int .i64 mn, .int .i64 mx, .int .i64 st], .int .i64 k, .int .i64 v] w fun e w' => e = .returned (.tuple #[.agg #[.int .i64 (cmdS s cu k v), .int .i64 cu, .int .i64 (cmdT tg k v), .int .i64 mn, .int .i64 mx, .int .i64 st], .int .i64 0]) ∧ New w w' := by
  obtain ⟨hv, k1, k6, ha, h3⟩ := cmdE_ok h
  rw [← isa_ref k1 k6] at ha
  have : k = 1 ∨ k = 2 ∨ k = 3 ∨ k = 4 ∨ k = 5 ∨ k = 6 := by omega
  rcases this with rfl | rfl | rfl | rfl | rfl | rfl
  · exact rcmd_1 _ _ _ _ _ _ _ w hv ha
  · exact rcmd_2 _ _ _ _ _ _ _ w hv ha
  · have h3 := h3 rfl
    simp only [alwB, decide_eq_true_eq] at h3
    by_cases e : v = cu
    · subst e
      rw [show cmdS s v 3 v = 3 by simp [cmdS], show cmdT tg 3 v = v by simp [cmdT]]
      exact rcmd_3e _ _ _ _ _ _ w hv ha h3.1 h3.2
    · rw [show cmdS s cu 3 v = 4 by simp [cmdS, e], show cmdT tg 3 v = v by simp [cmdT]]
      exact rcmd_3n _ _ _ _ _ _ _ w hv ha h3.1 h3.2 (by simpa using e)
  · by_cases e : s = 2
    · subst e
      rw [show cmdS 2 cu 4 v = 1 by simp [cmdS], show cmdT tg 4 v = 0 by simp [cmdT]]
      exact rcmd_4s _ _ _ _ _ _ w hv ha
    · rw [show cmdS s cu 4 v = 2 by simp [cmdS, e], show cmdT tg 4 v = 0 by simp [cmdT]]
      exact rcmd_4n _ _ _ _ _ _ _ w hv ha (by simpa using e)
  · exact rcmd_5 _ _ _ _ _ _ _ w hv ha
  · exact rcmd_6 _ _ _ _ _ _ _ w hv ha
theorem rcmd_err (s cu tg mn mx st k v : Int) (w : World) (h : cmdE s cu tg mn mx st k v ≠ 0) :
    Calls Tryd.prog 19 #[.agg #[.int .i64 s, .int .i64 cu, .int .i64 tg, .int .i64 mn, .int .i64 mx, .int .i64 st], .int .i64 k, .int .i64 v] w fun e w' => e = .returned (.tuple #[.agg #[.int .i64 0, .int .i64 0, .int .i64 0, .int .i64 0, .int .i64 0, .int .i64 0], .int .i64 (cmdE s cu tg mn mx st k v)]) ∧ New w w' := by
  by_cases h1 : valE s cu tg mn mx st ≠ 0
  · rw [show cmdE s cu tg mn mx st k v = valE s cu tg mn mx st by unfold cmdE; rw [if_pos h1]]
    exact rcmd_e1 _ _ _ _ _ _ _ _ w (by simpa using h1)
  have hv : valE s cu tg mn mx st = 0 := by simpa using h1
  by_cases h2 : k < 1 ∨ 6 < k
  · rw [show cmdE s cu tg mn mx st k v = 1 by unfold cmdE; rw [if_neg h1, if_pos h2]]
    by_cases h3 : k < 1
    · exact rcmd_e2a _ _ _ _ _ _ _ _ w hv h3
    · exact rcmd_e2b _ _ _ _ _ _ _ _ w hv (by omega) h3
  by_cases h3 : isaB s cu k = false
  · rw [show cmdE s cu tg mn mx st k v = 8 by unfold cmdE; rw [if_neg h1, if_neg h2, if_pos h3]]
    exact rcmd_e3 _ _ _ _ _ _ _ _ w hv (by omega) (by omega) (by rw [isa_ref (by omega) (by omega)]; exact h3)
  by_cases h4 : k = 3 ∧ alwB mn mx v = false
  · rw [show cmdE s cu tg mn mx st k v = 6 by unfold cmdE; rw [if_neg h1, if_neg h2, if_neg h3, if_pos h4]]
    obtain ⟨rfl, h4⟩ := h4
    rw [← isa_ref (by omega) (by omega)] at h3
    simp only [alwB, decide_eq_false_iff_not] at h4
    by_cases h5 : v < mn
    · exact rcmd_e4a _ _ _ _ _ _ _ w hv (by simpa using h3) h5
    · exact rcmd_e4b _ _ _ _ _ _ _ w hv (by simpa using h3) (by omega) (by omega)
  exact absurd (by unfold cmdE; rw [if_neg h1, if_neg h2, if_neg h3, if_neg h4]) h
theorem tick_ok (s cu tg mn mx st n : Int) (w : World) (hN : Nm w) (h : tickE s cu tg mn mx st n = 0) :
    Calls Tryd.prog 20 #[.agg #[.int .i64 s, .int .i64 cu, .int .i64 tg, .int .i64 mn, .int .i64 mx, .int .i64 st], .int .i64 n] w fun e w' => e = .returned (.tuple #[.agg #[.int .i64 (tickS s cu tg st n), .int .i64 (tickC cu tg st n), .int .i64 tg, .int .i64 mn, .int .i64 mx, .int .i64 st], .int .i64 0]) ∧ New w w' := by
  obtain ⟨hv, n0, n1⟩ := tickE_ok h
  by_cases e : remI cu tg st ≤ n
  · rw [show tickC cu tg st n = tg by unfold tickC; rw [if_pos e]]
    by_cases e4 : s = 4
    · subst e4
      rw [show tickS 4 cu tg st n = 3 by unfold tickS; rw [if_pos e, if_pos rfl]]
      exact tick_a _ _ _ _ _ _ w hN hv n0 n1 e
    · rw [show tickS s cu tg st n = s by unfold tickS; rw [if_pos e, if_neg e4]]
      exact tick_b _ _ _ _ _ _ _ w hN hv n0 n1 e (by simpa using e4)
  · obtain ⟨p0, p1, p2⟩ := part (bd_of hv) n0 (by omega)
    rw [show tickS s cu tg st n = s by unfold tickS; rw [if_neg e]]
    by_cases hl : cu < tg
    · rw [show tickC cu tg st n = cu + n * st by unfold tickC; rw [if_neg e, if_pos hl]]
      exact tick_c _ _ _ _ _ _ _ w hN hv n0 n1 (by omega) hl p0 p2
    · rw [show tickC cu tg st n = cu - n * st by unfold tickC; rw [if_neg e, if_neg hl]]
      exact tick_d _ _ _ _ _ _ _ w hN hv n0 n1 (by omega) (by omega) p0 p2
theorem tick_err (s cu tg mn mx st n : Int) (w : World) (hN : Nm w) (h : tickE s cu tg mn mx st n ≠ 0) :
    Calls Tryd.prog 20 #[.agg #[.int .i64 s, .int .i64 cu, .int .i64 tg, .int .i64 mn, .int .i64 mx, .int .i64 st], .int .i64 n] w fun e w' => e = .returned (.tuple #[.agg #[.int .i64 0, .int .i64 0, .int .i64 0, .int .i64 0, .int .i64 0, .int .i64 0], .int .i64 (tickE s cu tg mn mx st n)]) ∧ New w w' := by
  by_cases h1 : valE s cu tg mn mx st ≠ 0
  · rw [show tickE s cu tg mn mx st n = valE s cu tg mn mx st by unfold tickE; rw [if_pos h1]]
    exact tick_e1 _ _ _ _ _ _ _ w hN (by simpa using h1)
  have hv : valE s cu tg mn mx st = 0 := by simpa using h1
  by_cases h2 : n < 0 ∨ 1099511627776 < n
  · rw [show tickE s cu tg mn mx st n = 6 by unfold tickE; rw [if_neg h1, if_pos h2]]
    by_cases h3 : n < 0
    · exact tick_e2 _ _ _ _ _ _ _ w hN hv h3
    · exact tick_e3 _ _ _ _ _ _ _ w hN hv (by omega) (by omega)
  exact absurd (by unfold tickE; rw [if_neg h1, if_neg h2]) h
theorem rtick_ok (s cu tg mn mx st n : Int) (w : World) (h : tickE s cu tg mn mx st n = 0) :
    Calls Tryd.prog 21 #[.agg #[.int .i64 s, .int .i64 cu, .int .i64 tg, .int .i64 mn, .int .i64 mx, .int .i64 st], .int .i64 n] w fun e w' => e = .returned (.tuple #[.agg #[.int .i64 (tickS s cu tg st n), .int .i64 (tickC cu tg st n), .int .i64 tg, .int .i64 mn, .int .i64 mx, .int .i64 st], .int .i64 0]) ∧ New w w' := by
  obtain ⟨hv, n0, n1⟩ := tickE_ok h
  by_cases e : remI cu tg st ≤ n
  · rw [show tickC cu tg st n = tg by unfold tickC; rw [if_pos e]]
    by_cases e4 : s = 4
    · subst e4
      rw [show tickS 4 cu tg st n = 3 by unfold tickS; rw [if_pos e, if_pos rfl]]
      exact rtick_a _ _ _ _ _ _ w hv n0 n1 e
    · rw [show tickS s cu tg st n = s by unfold tickS; rw [if_pos e, if_neg e4]]
      exact rtick_b _ _ _ _ _ _ _ w hv n0 n1 e (by simpa using e4)
  · obtain ⟨p0, p1, p2⟩ := part (bd_of hv) n0 (by omega)
    rw [show tickS s cu tg st n = s by unfold tickS; rw [if_neg e]]
    by_cases hl : cu < tg
    · rw [show tickC cu tg st n = cu + n * st by unfold tickC; rw [if_neg e, if_pos hl]]
      exact rtick_c _ _ _ _ _ _ _ w hv n0 n1 (by omega) hl p0 p2
    · rw [show tickC cu tg st n = cu - n * st by unfold tickC; rw [if_neg e, if_neg hl]]
      exact rtick_d _ _ _ _ _ _ _ w hv n0 n1 (by omega) (by omega) p0 p2
theorem rtick_err (s cu tg mn mx st n : Int) (w : World) (h : tickE s cu tg mn mx st n ≠ 0) :
    Calls Tryd.prog 21 #[.agg #[.int .i64 s, .int .i64 cu, .int .i64 tg, .int .i64 mn, .int .i64 mx, .int .i64 st], .int .i64 n] w fun e w' => e = .returned (.tuple #[.agg #[.int .i64 0, .int .i64 0, .int .i64 0, .int .i64 0, .int .i64 0, .int .i64 0], .int .i64 (tickE s cu tg mn mx st n)]) ∧ New w w' := by
  by_cases h1 : valE s cu tg mn mx st ≠ 0
  · rw [show tickE s cu tg mn mx st n = valE s cu tg mn mx st by unfold tickE; rw [if_pos h1]]
    exact rtick_e1 _ _ _ _ _ _ _ w (by simpa using h1)
  have hv : valE s cu tg mn mx st = 0 := by simpa using h1
  by_cases h2 : n < 0 ∨ 1099511627776 < n
  · rw [show tickE s cu tg mn mx st n = 6 by unfold tickE; rw [if_neg h1, if_pos h2]]
    by_cases h3 : n < 0
    · exact rtick_e2 _ _ _ _ _ _ _ w hv h3
    · exact rtick_e3 _ _ _ _ _ _ _ w hv (by omega) (by omega)
  exact absurd (by unfold tickE; rw [if_neg h1, if_neg h2]) h
end Go.Proofs.YtacfjngnfgnmeaaDoor
