/-
  What Remaining and Tick of a converter answer.
-/
import Derived.Test.YtacfjngnfgnmeaaDoorRcmd
import Derived.IntWalk
namespace Go.Proofs.YtacfjngnfgnmeaaDoor
open Go.RowKit

def dist (cu tg : Int) : Int := if tg < cu then cu - tg else tg - cu
def remI (cu tg st : Int) : Int := (dist cu tg + st - 1) / st
structure Bd (cu tg st : Int) : Prop where
  c0 : -1099511627776 ≤ cu
  c1 : cu ≤ 1099511627776
  t0 : -1099511627776 ≤ tg
  t1 : tg ≤ 1099511627776
  s0 : 1 ≤ st
  s1 : st ≤ 1099511627776
theorem bd_of {s cu tg mn mx st : Int} (h : valE s cu tg mn mx st = 0) : Bd cu tg st := by
  unfold valE at h
  by_cases h1 : limB mn mx st = false
  · rw [if_pos h1] at h; omega
  rw [if_neg h1] at h
  by_cases h2 : s < 1 ∨ 5 < s
  · rw [if_pos h2] at h; omega
  rw [if_neg h2] at h
  by_cases h3 : alwB mn mx cu = false ∨ alwB mn mx tg = false
  · rw [if_pos h3] at h; omega
  simp [limB, alwB] at h1 h3
  constructor <;> omega

theorem cells1 {w w' : World} {a0 a1 a2 a3 a4 a5 : Value} (hb : New (w.alloc (.cells #[a0, a1, a2, a3, a4, a5] 23)) w') :
    w'.cell? ⟨w.heap.size, 0, none⟩ = some a0 ∧ w'.cell? ⟨w.heap.size, 1, none⟩ = some a1 ∧ w'.cell? ⟨w.heap.size, 2, none⟩ = some a2 ∧ w'.cell? ⟨w.heap.size, 3, none⟩ = some a3 ∧ w'.cell? ⟨w.heap.size, 4, none⟩ = some a4 ∧ w'.cell? ⟨w.heap.size, 5, none⟩ = some a5 := by
  obtain ⟨hc, _⟩ := ncell hb
  refine ⟨?_, ?_, ?_, ?_, ?_, ?_⟩ <;> (rw [hc _ _ (by simp)]; simp [go_sem])
set_option maxHeartbeats 400000 in
theorem rem_any (s cu tg mn mx st : Int) (w : World) (h : Bd cu tg st) :
    Calls Tryd.prog 38 #[.agg #[.int .i64 s, .int .i64 cu, .int .i64 tg, .int .i64 mn, .int .i64 mx, .int .i64 st]] w fun e w' => e = .returned (.int .i64 (remI cu tg st)) ∧ ∃ cs, w' = w.alloc (.cells cs 23) := by
  obtain ⟨c0, c1, t0, t1, s0, s1⟩ := h
  by_cases hlt : tg < cu
  · go_enter Tryd.func38, Tryd.ntmps38
    go_wp2
    go_ret
    exact ⟨ret_int (by unfold remI dist; first | rw [if_pos (by omega)] | rw [if_neg (by omega)]), _, rfl⟩
  · go_enter Tryd.func38, Tryd.ntmps38
    go_wp2
    go_ret
    exact ⟨ret_int (by unfold remI dist; first | rw [if_pos (by omega)] | rw [if_neg (by omega)]), _, rfl⟩
set_option maxHeartbeats 400000 in
theorem size_any (n : Int) (w : World) (h0 : -9223372036854775807 ≤ n) (h1 : n ≤ 9223372036854775807) :
    Calls Tryd.prog 39 #[.int .i64 n] w fun e w' => e = .returned (.int .i64 (dist 0 n)) ∧ w' = w := by
  go_enter Tryd.func39, Tryd.ntmps39
  go_wp2
  all_goals (go_ret; exact ⟨ret_int (by unfold dist; split <;> omega), rfl⟩)
theorem dist_sub (cu tg : Int) : dist 0 (tg - cu) = dist cu tg := by
  unfold dist; split <;> split <;> omega
theorem dist_bd {cu tg st : Int} (h : Bd cu tg st) : 0 ≤ dist cu tg ∧ dist cu tg ≤ 2199023255552 := by
  obtain ⟨c0, c1, t0, t1, s0, s1⟩ := h
  unfold dist; split <;> omega
theorem New.drewN {W w' : World} (h : New W w') (n : Nat) : New W (w'.drewN n) := by
  unfold New at *
  exact ⟨h.os, h.tape, h.output, h.size, h.block⟩
set_option maxHeartbeats 400000 in
theorem remq_ok (s cu tg mn mx st : Int) (w : World) (hN : Nm w) (hv : valE s cu tg mn mx st = 0) :
    Calls Tryd.prog 22 #[.agg #[.int .i64 s, .int .i64 cu, .int .i64 tg, .int .i64 mn, .int .i64 mx, .int .i64 st]] w fun e w' => e = .returned (.tuple #[.int .i64 (remI cu tg st), .int .i64 0]) ∧ New w w' := by
  have HB := Lib.hid (bd_of hv)
  go_enter Tryd.func22, Tryd.ntmps22
  go_wp2_with (first | (go_at_call 14; refine (valid_any _ _ _ _ _ _ _ (hN.alloc _)).mono ?_; rintro e w' ⟨rfl, hw1⟩; obtain ⟨k0, k1, k2, k3, k4, k5⟩ := cells1 hw1) | (go_at_call 38; refine (rem_any _ _ _ _ _ _ _ HB.out).mono ?_; rintro e w' ⟨rfl, cs, rfl⟩))
  go_ret2
  exact ⟨rfl, (by repeat (first | with_reducible exact new0 _ | with_reducible apply New.alloc | (with_reducible refine New.setCell ?_ (by simp <;> omega) _) | (with_reducible refine New.trans ?_ hw1)))⟩
set_option maxHeartbeats 400000 in
theorem remq_err (s cu tg mn mx st : Int) (w : World) (hN : Nm w) (hv : (valE s cu tg mn mx st != 0) = true) :
    Calls Tryd.prog 22 #[.agg #[.int .i64 s, .int .i64 cu, .int .i64 tg, .int .i64 mn, .int .i64 mx, .int .i64 st]] w fun e w' => e = .returned (.tuple #[.int .i64 0, .int .i64 (valE s cu tg mn mx st)]) ∧ New w w' := by
  go_enter Tryd.func22, Tryd.ntmps22
  go_wp2_with (first | (go_at_call 14; refine (valid_any _ _ _ _ _ _ _ (hN.alloc _)).mono ?_; rintro e w' ⟨rfl, hw1⟩; obtain ⟨k0, k1, k2, k3, k4, k5⟩ := cells1 hw1))
  go_ret2
  exact ⟨rfl, (by repeat (first | with_reducible exact new0 _ | with_reducible apply New.alloc | (with_reducible refine New.setCell ?_ (by simp <;> omega) _) | (with_reducible refine New.trans ?_ hw1)))⟩
set_option maxHeartbeats 400000 in
theorem rremq_err (s cu tg mn mx st : Int) (w : World) (hv : (valE s cu tg mn mx st != 0) = true) :
    Calls Tryd.prog 23 #[.agg #[.int .i64 s, .int .i64 cu, .int .i64 tg, .int .i64 mn, .int .i64 mx, .int .i64 st]] w fun e w' => e = .returned (.tuple #[.int .i64 0, .int .i64 (valE s cu tg mn mx st)]) ∧ New w w' := by
  go_enter Tryd.func23, Tryd.ntmps23
  go_wp2_with (first | (go_at_call 15; refine (rvalid_any _ _ _ _ _ _ _).mono ?_; rintro e w' ⟨rfl, hw1⟩; obtain ⟨k0, k1, k2, k3, k4, k5⟩ := cells1 hw1))
  go_ret2
  exact ⟨rfl, (by repeat (first | with_reducible exact new0 _ | with_reducible apply New.alloc | (with_reducible refine New.setCell ?_ (by simp <;> omega) _) | (with_reducible refine New.trans ?_ hw1)))⟩
set_option maxHeartbeats 400000 in
theorem rremq_ok (s cu tg mn mx st : Int) (w : World) (hv : valE s cu tg mn mx st = 0) :
    Calls Tryd.prog 23 #[.agg #[.int .i64 s, .int .i64 cu, .int .i64 tg, .int .i64 mn, .int .i64 mx, .int .i64 st]] w fun e w' => e = .returned (.tuple #[.int .i64 (remI cu tg st), .int .i64 0]) ∧ New w w' := by
  obtain ⟨c0, c1, t0, t1, s0, s1⟩ := bd_of hv
  obtain ⟨d0, d1⟩ := dist_bd (bd_of hv)
  have ed := dist_sub cu tg
  have e1 : IntKind.i64.wrap (tg - cu) = tg - cu := IntWalk.i64_in _ (by omega)
  have e2 : IntKind.i64.wrap (dist cu tg + st) = dist cu tg + st := IntWalk.i64_in _ (by omega)
  have e3 : IntKind.i64.wrap (dist cu tg + st - 1) = dist cu tg + st - 1 := IntWalk.i64_in _ (by omega)
  have HS := Lib.hid (size_any (tg - cu))
  go_enter Tryd.func23, Tryd.ntmps23
  go_wp2_with (first | (go_at_call 15; refine (rvalid_any _ _ _ _ _ _ _).mono ?_; rintro e w' ⟨rfl, hw1⟩; obtain ⟨k0, k1, k2, k3, k4, k5⟩ := cells1 hw1))
  go_quiet ((go_at_call 39; exact Calls.quiet_of_same (HS.out _ (by omega) (by omega))))
  go_wp2
  go_ret2
  exact ⟨rfl, New.drewN (by repeat (first | with_reducible exact new0 _ | with_reducible apply New.alloc | (with_reducible refine New.setCell ?_ (by simp <;> omega) _) | (with_reducible refine New.trans ?_ hw1))) _⟩
set_option maxHeartbeats 400000 in
theorem tick_a (cu tg mn mx st n : Int) (w : World) (hN : Nm w) (hv : valE 4 cu tg mn mx st = 0) (n0 : 0 ≤ n) (n1 : n ≤ 1099511627776) (h : remI cu tg st ≤ n) :
    Calls Tryd.prog 20 #[.agg #[.int .i64 4, .int .i64 cu, .int .i64 tg, .int .i64 mn, .int .i64 mx, .int .i64 st], .int .i64 n] w fun e w' => e = .returned (.tuple #[.agg #[.int .i64 3, .int .i64 tg, .int .i64 tg, .int .i64 mn, .int .i64 mx, .int .i64 st], .int .i64 0]) ∧ New w w' := by
  have HB := Lib.hid (bd_of hv)
  obtain ⟨c0, c1, t0, t1, s0, s1⟩ := bd_of hv
  go_enter Tryd.func20, Tryd.ntmps20
  go_wp2_with (first | (go_at_call 14; refine (valid_any _ _ _ _ _ _ _ ((hN.alloc _).alloc _)).mono ?_; rintro e w' ⟨rfl, hw1⟩; obtain ⟨k0, k1, k2, k3, k4, k5⟩ := cells6 hw1; obtain ⟨l0, l1, l2, l3, l4, l5⟩ := cells6b hw1; obtain ⟨hf1, hf2⟩ := frozen2 hw1; have hz1 : w.heap.size + 1 < w'.heap.size := (by have := New.size hw1; simp at this; omega); have hz0 : w.heap.size < w'.heap.size := (by omega)) | (go_at_call 38; refine (rem_any _ _ _ _ _ _ _ HB.out).mono ?_; rintro e w' ⟨rfl, cs, rfl⟩))
  exact bodyPost_ret (v := .tuple #[.agg #[.int .i64 3, .int .i64 tg, .int .i64 tg, .int .i64 mn, .int .i64 mx, .int .i64 st], .int .i64 0]) (by go_light; simp [results, Tryd.results20, go_sem, *]) rfl ⟨rfl, (by repeat (first | with_reducible exact new0 _ | with_reducible apply New.alloc | (with_reducible refine New.setCell ?_ (by simp <;> omega) _) | (with_reducible refine New.trans ?_ hw1)))⟩
set_option maxHeartbeats 400000 in
theorem tick_b (s cu tg mn mx st n : Int) (w : World) (hN : Nm w) (hv : valE s cu tg mn mx st = 0) (n0 : 0 ≤ n) (n1 : n ≤ 1099511627776) (h : remI cu tg st ≤ n) (h4 : (s == 4) = false) :
    Calls Tryd.prog 20 #[.agg #[.int .i64 s, .int .i64 cu, .int .i64 tg, .int .i64 mn, .int .i64 mx, .int .i64 st], .int .i64 n] w fun e w' => e = .returned (.tuple #[.agg #[.int .i64 s, .int .i64 tg, .int .i64 tg, .int .i64 mn, .int .i64 mx, .int .i64 st], .int .i64 0]) ∧ New w w' := by
  have HB := Lib.hid (bd_of hv)
  obtain ⟨c0, c1, t0, t1, s0, s1⟩ := bd_of hv
  go_enter Tryd.func20, Tryd.ntmps20
  go_wp2_with (first | (go_at_call 14; refine (valid_any _ _ _ _ _ _ _ ((hN.alloc _).alloc _)).mono ?_; rintro e w' ⟨rfl, hw1⟩; obtain ⟨k0, k1, k2, k3, k4, k5⟩ := cells6 hw1; obtain ⟨l0, l1, l2, l3, l4, l5⟩ := cells6b hw1; obtain ⟨hf1, hf2⟩ := frozen2 hw1; have hz1 : w.heap.size + 1 < w'.heap.size := (by have := New.size hw1; simp at this; omega); have hz0 : w.heap.size < w'.heap.size := (by omega)) | (go_at_call 38; refine (rem_any _ _ _ _ _ _ _ HB.out).mono ?_; rintro e w' ⟨rfl, cs, rfl⟩))
  exact bodyPost_ret (v := .tuple #[.agg #[.int .i64 s, .int .i64 tg, .int .i64 tg, .int .i64 mn, .int .i64 mx, .int .i64 st], .int .i64 0]) (by go_light; simp [results, Tryd.results20, go_sem, *]) rfl ⟨rfl, (by repeat (first | with_reducible exact new0 _ | with_reducible apply New.alloc | (with_reducible refine New.setCell ?_ (by simp <;> omega) _) | (with_reducible refine New.trans ?_ hw1)))⟩
set_option maxHeartbeats 400000 in
theorem tick_c (s cu tg mn mx st n : Int) (w : World) (hN : Nm w) (hv : valE s cu tg mn mx st = 0) (n0 : 0 ≤ n) (n1 : n ≤ 1099511627776) (h : n < remI cu tg st) (hl : cu < tg) (p0 : 0 ≤ n * st) (p1 : n * st ≤ 2199023255552) :
    Calls Tryd.prog 20 #[.agg #[.int .i64 s, .int .i64 cu, .int .i64 tg, .int .i64 mn, .int .i64 mx, .int .i64 st], .int .i64 n] w fun e w' => e = .returned (.tuple #[.agg #[.int .i64 s, .int .i64 (cu + n * st), .int .i64 tg, .int .i64 mn, .int .i64 mx, .int .i64 st], .int .i64 0]) ∧ New w w' := by
  have HB := Lib.hid (bd_of hv)
  obtain ⟨c0, c1, t0, t1, s0, s1⟩ := bd_of hv
  go_enter Tryd.func20, Tryd.ntmps20
  go_wp2_with (first | (go_at_call 14; refine (valid_any _ _ _ _ _ _ _ ((hN.alloc _).alloc _)).mono ?_; rintro e w' ⟨rfl, hw1⟩; obtain ⟨k0, k1, k2, k3, k4, k5⟩ := cells6 hw1; obtain ⟨l0, l1, l2, l3, l4, l5⟩ := cells6b hw1; obtain ⟨hf1, hf2⟩ := frozen2 hw1; have hz1 : w.heap.size + 1 < w'.heap.size := (by have := New.size hw1; simp at this; omega); have hz0 : w.heap.size < w'.heap.size := (by omega)) | (go_at_call 38; refine (rem_any _ _ _ _ _ _ _ HB.out).mono ?_; rintro e w' ⟨rfl, cs, rfl⟩))
  exact bodyPost_ret (v := .tuple #[.agg #[.int .i64 s, .int .i64 (cu + n * st), .int .i64 tg, .int .i64 mn, .int .i64 mx, .int .i64 st], .int .i64 0]) (by go_light; simp [results, Tryd.results20, go_sem, *]) rfl ⟨rfl, (by repeat (first | with_reducible exact new0 _ | with_reducible apply New.alloc | (with_reducible refine New.setCell ?_ (by simp <;> omega) _) | (with_reducible refine New.trans ?_ hw1)))⟩
set_option maxHeartbeats 400000 in
theorem tick_d (s cu tg mn mx st n : Int) (w : World) (hN : Nm w) (hv : valE s cu tg mn mx st = 0) (n0 : 0 ≤ n) (n1 : n ≤ 1099511627776) (h : n < remI cu tg st) (hl : tg ≤ cu) (p0 : 0 ≤ n * st) (p1 : n * st ≤ 2199023255552) :
    Calls Tryd.prog 20 #[.agg #[.int .i64 s, .int .i64 cu, .int .i64 tg, .int .i64 mn, .int .i64 mx, .int .i64 st], .int .i64 n] w fun e w' => e = .returned (.tuple #[.agg #[.int .i64 s, .int .i64 (cu - n * st), .int .i64 tg, .int .i64 mn, .int .i64 mx, .int .i64 st], .int .i64 0]) ∧ New w w' := by
  have HB := Lib.hid (bd_of hv)
  obtain ⟨c0, c1, t0, t1, s0, s1⟩ := bd_of hv
  go_enter Tryd.func20, Tryd.ntmps20
  go_wp2_with (first | (go_at_call 14; refine (valid_any _ _ _ _ _ _ _ ((hN.alloc _).alloc _)).mono ?_; rintro e w' ⟨rfl, hw1⟩; obtain ⟨k0, k1, k2, k3, k4, k5⟩ := cells6 hw1; obtain ⟨l0, l1, l2, l3, l4, l5⟩ := cells6b hw1; obtain ⟨hf1, hf2⟩ := frozen2 hw1; have hz1 : w.heap.size + 1 < w'.heap.size := (by have := New.size hw1; simp at this; omega); have hz0 : w.heap.size < w'.heap.size := (by omega)) | (go_at_call 38; refine (rem_any _ _ _ _ _ _ _ HB.out).mono ?_; rintro e w' ⟨rfl, cs, rfl⟩))
  exact bodyPost_ret (v := .tuple #[.agg #[.int .i64 s, .int .i64 (cu - n * st), .int .i64 tg, .int .i64 mn, .int .i64 mx, .int .i64 st], .int .i64 0]) (by go_light; simp [results, Tryd.results20, go_sem, *]) rfl ⟨rfl, (by repeat (first | with_reducible exact new0 _ | with_reducible apply New.alloc | (with_reducible refine New.setCell ?_ (by simp <;> omega) _) | (with_reducible refine New.trans ?_ hw1)))⟩
set_option maxHeartbeats 400000 in
theorem tick_e1 (s cu tg mn mx st n : Int) (w : World) (hN : Nm w) (hv : (valE s cu tg mn mx st != 0) = true) :
    Calls Tryd.prog 20 #[.agg #[.int .i64 s, .int .i64 cu, .int .i64 tg, .int .i64 mn, .int .i64 mx, .int .i64 st], .int .i64 n] w fun e w' => e = .returned (.tuple #[.agg #[.int .i64 0, .int .i64 0, .int .i64 0, .int .i64 0, .int .i64 0, .int .i64 0], .int .i64 (valE s cu tg mn mx st)]) ∧ New w w' := by
  go_enter Tryd.func20, Tryd.ntmps20
  go_wp2_with (first | (go_at_call 14; refine (valid_any _ _ _ _ _ _ _ ((hN.alloc _).alloc _)).mono ?_; rintro e w' ⟨rfl, hw1⟩; obtain ⟨k0, k1, k2, k3, k4, k5⟩ := cells6 hw1; obtain ⟨l0, l1, l2, l3, l4, l5⟩ := cells6b hw1; obtain ⟨hf1, hf2⟩ := frozen2 hw1; have hz1 : w.heap.size + 1 < w'.heap.size := (by have := New.size hw1; simp at this; omega); have hz0 : w.heap.size < w'.heap.size := (by omega)))
  exact bodyPost_ret (v := .tuple #[.agg #[.int .i64 0, .int .i64 0, .int .i64 0, .int .i64 0, .int .i64 0, .int .i64 0], .int .i64 (valE s cu tg mn mx st)]) (by go_light; simp [results, Tryd.results20, go_sem, *]) rfl ⟨rfl, (by repeat (first | with_reducible exact new0 _ | with_reducible apply New.alloc | (with_reducible refine New.setCell ?_ (by simp <;> omega) _) | (with_reducible refine New.trans ?_ hw1)))⟩
set_option maxHeartbeats 400000 in
theorem tick_e2 (s cu tg mn mx st n : Int) (w : World) (hN : Nm w) (hv : valE s cu tg mn mx st = 0) (h : n < 0) :
    Calls Tryd.prog 20 #[.agg #[.int .i64 s, .int .i64 cu, .int .i64 tg, .int .i64 mn, .int .i64 mx, .int .i64 st], .int .i64 n] w fun e w' => e = .returned (.tuple #[.agg #[.int .i64 0, .int .i64 0, .int .i64 0, .int .i64 0, .int .i64 0, .int .i64 0], .int .i64 6]) ∧ New w w' := by
  go_enter Tryd.func20, Tryd.ntmps20
  go_wp2_with (first | (go_at_call 14; refine (valid_any _ _ _ _ _ _ _ ((hN.alloc _).alloc _)).mono ?_; rintro e w' ⟨rfl, hw1⟩; obtain ⟨k0, k1, k2, k3, k4, k5⟩ := cells6 hw1; obtain ⟨l0, l1, l2, l3, l4, l5⟩ := cells6b hw1; obtain ⟨hf1, hf2⟩ := frozen2 hw1; have hz1 : w.heap.size + 1 < w'.heap.size := (by have := New.size hw1; simp at this; omega); have hz0 : w.heap.size < w'.heap.size := (by omega)))
  exact bodyPost_ret (v := .tuple #[.agg #[.int .i64 0, .int .i64 0, .int .i64 0, .int .i64 0, .int .i64 0, .int .i64 0], .int .i64 6]) (by go_light; simp [results, Tryd.results20, go_sem, *]) rfl ⟨rfl, (by repeat (first | with_reducible exact new0 _ | with_reducible apply New.alloc | (with_reducible refine New.setCell ?_ (by simp <;> omega) _) | (with_reducible refine New.trans ?_ hw1)))⟩
set_option maxHeartbeats 400000 in
theorem tick_e3 (s cu tg mn mx st n : Int) (w : World) (hN : Nm w) (hv : valE s cu tg mn mx st = 0) (h : 1099511627776 < n) (h' : 0 ≤ n) :
    Calls Tryd.prog 20 #[.agg #[.int .i64 s, .int .i64 cu, .int .i64 tg, .int .i64 mn, .int .i64 mx, .int .i64 st], .int .i64 n] w fun e w' => e = .returned (.tuple #[.agg #[.int .i64 0, .int .i64 0, .int .i64 0, .int .i64 0, .int .i64 0, .int .i64 0], .int .i64 6]) ∧ New w w' := by
  go_enter Tryd.func20, Tryd.ntmps20
  go_wp2_with (first | (go_at_call 14; refine (valid_any _ _ _ _ _ _ _ ((hN.alloc _).alloc _)).mono ?_; rintro e w' ⟨rfl, hw1⟩; obtain ⟨k0, k1, k2, k3, k4, k5⟩ := cells6 hw1; obtain ⟨l0, l1, l2, l3, l4, l5⟩ := cells6b hw1; obtain ⟨hf1, hf2⟩ := frozen2 hw1; have hz1 : w.heap.size + 1 < w'.heap.size := (by have := New.size hw1; simp at this; omega); have hz0 : w.heap.size < w'.heap.size := (by omega)))
  exact bodyPost_ret (v := .tuple #[.agg #[.int .i64 0, .int .i64 0, .int .i64 0, .int .i64 0, .int .i64 0, .int .i64 0], .int .i64 6]) (by go_light; simp [results, Tryd.results20, go_sem, *]) rfl ⟨rfl, (by repeat (first | with_reducible exact new0 _ | with_reducible apply New.alloc | (with_reducible refine New.setCell ?_ (by simp <;> omega) _) | (with_reducible refine New.trans ?_ hw1)))⟩
set_option maxHeartbeats 400000 in
theorem rtick_a (cu tg mn mx st n : Int) (w : World) (hv : valE 4 cu tg mn mx st = 0) (n0 : 0 ≤ n) (n1 : n ≤ 1099511627776) (h : remI cu tg st ≤ n) :
    Calls Tryd.prog 21 #[.agg #[.int .i64 4, .int .i64 cu, .int .i64 tg, .int .i64 mn, .int .i64 mx, .int .i64 st], .int .i64 n] w fun e w' => e = .returned (.tuple #[.agg #[.int .i64 3, .int .i64 tg, .int .i64 tg, .int .i64 mn, .int .i64 mx, .int .i64 st], .int .i64 0]) ∧ New w w' := by
  have HB := Lib.hid (bd_of hv)
  obtain ⟨c0, c1, t0, t1, s0, s1⟩ := bd_of hv
  have HV := Lib.hid hv
  go_enter Tryd.func21, Tryd.ntmps21
  go_wp2_with (first | (go_at_call 23; refine (rremq_ok _ _ _ _ _ _ _ HV.out).mono ?_; rintro e w' ⟨rfl, hw1⟩; obtain ⟨k0, k1, k2, k3, k4, k5⟩ := cells6 hw1; obtain ⟨l0, l1, l2, l3, l4, l5⟩ := cells6b hw1; obtain ⟨hf1, hf2⟩ := frozen2 hw1; have hz1 : w.heap.size + 1 < w'.heap.size := (by have := New.size hw1; simp at this; omega); have hz0 : w.heap.size < w'.heap.size := (by omega)))
  exact bodyPost_ret (v := .tuple #[.agg #[.int .i64 3, .int .i64 tg, .int .i64 tg, .int .i64 mn, .int .i64 mx, .int .i64 st], .int .i64 0]) (by go_light; simp [results, Tryd.results21, go_sem, *]) rfl ⟨rfl, (by repeat (first | with_reducible exact new0 _ | with_reducible apply New.alloc | (with_reducible refine New.setCell ?_ (by simp <;> omega) _) | (with_reducible refine New.trans ?_ hw1)))⟩
set_option maxHeartbeats 400000 in
theorem rtick_b (s cu tg mn mx st n : Int) (w : World) (hv : valE s cu tg mn mx st = 0) (n0 : 0 ≤ n) (n1 : n ≤ 1099511627776) (h : remI cu tg st ≤ n) (h4 : (s == 4) = false) :
    Calls Tryd.prog 21 #[.agg #[.int .i64 s, .int .i64 cu, .int .i64 tg, .int .i64 mn, .int .i64 mx, .int .i64 st], .int .i64 n] w fun e w' => e = .returned (.tuple #[.agg #[.int .i64 s, .int .i64 tg, .int .i64 tg, .int .i64 mn, .int .i64 mx, .int .i64 st], .int .i64 0]) ∧ New w w' := by
  have HB := Lib.hid (bd_of hv)
  obtain ⟨c0, c1, t0, t1, s0, s1⟩ := bd_of hv
  have HV := Lib.hid hv
  go_enter Tryd.func21, Tryd.ntmps21
  go_wp2_with (first | (go_at_call 23; refine (rremq_ok _ _ _ _ _ _ _ HV.out).mono ?_; rintro e w' ⟨rfl, hw1⟩; obtain ⟨k0, k1, k2, k3, k4, k5⟩ := cells6 hw1; obtain ⟨l0, l1, l2, l3, l4, l5⟩ := cells6b hw1; obtain ⟨hf1, hf2⟩ := frozen2 hw1; have hz1 : w.heap.size + 1 < w'.heap.size := (by have := New.size hw1; simp at this; omega); have hz0 : w.heap.size < w'.heap.size := (by omega)))
  exact bodyPost_ret (v := .tuple #[.agg #[.int .i64 s, .int .i64 tg, .int .i64 tg, .int .i64 mn, .int .i64 mx, .int .i64 st], .int .i64 0]) (by go_light; simp [results, Tryd.results21, go_sem, *]) rfl ⟨rfl, (by repeat (first | with_reducible exact new0 _ | with_reducible apply New.alloc | (with_reducible refine New.setCell ?_ (by simp <;> omega) _) | (with_reducible refine New.trans ?_ hw1)))⟩
set_option maxHeartbeats 400000 in
theorem rtick_c (s cu tg mn mx st n : Int) (w : World) (hv : valE s cu tg mn mx st = 0) (n0 : 0 ≤ n) (n1 : n ≤ 1099511627776) (h : n < remI cu tg st) (hl : cu < tg) (p0 : 0 ≤ n * st) (p1 : n * st ≤ 2199023255552) :
    Calls Tryd.prog 21 #[.agg #[.int .i64 s, .int .i64 cu, .int .i64 tg, .int .i64 mn, .int .i64 mx, .int .i64 st], .int .i64 n] w fun e w' => e = .returned (.tuple #[.agg #[.int .i64 s, .int .i64 (cu + n * st), .int .i64 tg, .int .i64 mn, .int .i64 mx, .int .i64 st], .int .i64 0]) ∧ New w w' := by
  have HB := Lib.hid (bd_of hv)
  obtain ⟨c0, c1, t0, t1, s0, s1⟩ := bd_of hv
  have HV := Lib.hid hv
  go_enter Tryd.func21, Tryd.ntmps21
  go_wp2_with (first | (go_at_call 23; refine (rremq_ok _ _ _ _ _ _ _ HV.out).mono ?_; rintro e w' ⟨rfl, hw1⟩; obtain ⟨k0, k1, k2, k3, k4, k5⟩ := cells6 hw1; obtain ⟨l0, l1, l2, l3, l4, l5⟩ := cells6b hw1; obtain ⟨hf1, hf2⟩ := frozen2 hw1; have hz1 : w.heap.size + 1 < w'.heap.size := (by have := New.size hw1; simp at this; omega); have hz0 : w.heap.size < w'.heap.size := (by omega)))
  exact bodyPost_ret (v := .tuple #[.agg #[.int .i64 s, .int .i64 (cu + n * st), .int .i64 tg, .int .i64 mn, .int .i64 mx, .int .i64 st], .int .i64 0]) (by go_light; simp [results, Tryd.results21, go_sem, *]) rfl ⟨rfl, (by repeat (first | with_reducible exact new0 _ | with_reducible apply New.alloc | (with_reducible refine New.setCell ?_ (by simp <;> omega) _) | (with_reducible refine New.trans ?_ hw1)))⟩
set_option maxHeartbeats 400000 in
theorem rtick_d (s cu tg mn mx st n : Int) (w : World) (hv : valE s cu tg mn mx st = 0) (n0 : 0 ≤ n) (n1 : n ≤ 1099511627776) (h : n < remI cu tg st) (hl : tg ≤ cu) (p0 : 0 ≤ n * st) (p1 : n * st ≤ 2199023255552) :
    Calls Tryd.prog 21 #[.agg #[.int .i64 s, .int .i64 cu, .int .i64 tg, .int .i64 mn, .int .i64 mx, .int .i64 st], .int .i64 n] w fun e w' => e = .returned (.tuple #[.agg #[.int .i64 s, .int .i64 (cu - n * st), .int .i64 tg, .int .i64 mn, .int .i64 mx, .int .i64 st], .int .i64 0]) ∧ New w w' := by
  have HB := Lib.hid (bd_of hv)
  obtain ⟨c0, c1, t0, t1, s0, s1⟩ := bd_of hv
  have HV := Lib.hid hv
  go_enter Tryd.func21, Tryd.ntmps21
  go_wp2_with (first | (go_at_call 23; refine (rremq_ok _ _ _ _ _ _ _ HV.out).mono ?_; rintro e w' ⟨rfl, hw1⟩; obtain ⟨k0, k1, k2, k3, k4, k5⟩ := cells6 hw1; obtain ⟨l0, l1, l2, l3, l4, l5⟩ := cells6b hw1; obtain ⟨hf1, hf2⟩ := frozen2 hw1; have hz1 : w.heap.size + 1 < w'.heap.size := (by have := New.size hw1; simp at this; omega); have hz0 : w.heap.size < w'.heap.size := (by omega)))
  exact bodyPost_ret (v := .tuple #[.agg #[.int .i64 s, .int .i64 (cu - n * st), .int .i64 tg, .int .i64 mn, .int .i64 mx, .int .i64 st], .int .i64 0]) (by go_light; simp [results, Tryd.results21, go_sem, *]) rfl ⟨rfl, (by repeat (first | with_reducible exact new0 _ | with_reducible apply New.alloc | (with_reducible refine New.setCell ?_ (by simp <;> omega) _) | (with_reducible refine New.trans ?_ hw1)))⟩
set_option maxHeartbeats 400000 in
theorem rtick_e1 (s cu tg mn mx st n : Int) (w : World) (hv : (valE s cu tg mn mx st != 0) = true) :
    Calls Tryd.prog 21 #[.agg #[.int .i64 s, .int .i64 cu, .int .i64 tg, .int .i64 mn, .int .i64 mx, .int .i64 st], .int .i64 n] w fun e w' => e = .returned (.tuple #[.agg #[.int .i64 0, .int .i64 0, .int .i64 0, .int .i64 0, .int .i64 0, .int .i64 0], .int .i64 (valE s cu tg mn mx st)]) ∧ New w w' := by
  have HV := Lib.hid hv
  go_enter Tryd.func21, Tryd.ntmps21
  go_wp2_with (first | (go_at_call 23; refine (rremq_err _ _ _ _ _ _ _ HV.out).mono ?_; rintro e w' ⟨rfl, hw1⟩; obtain ⟨k0, k1, k2, k3, k4, k5⟩ := cells6 hw1; obtain ⟨l0, l1, l2, l3, l4, l5⟩ := cells6b hw1; obtain ⟨hf1, hf2⟩ := frozen2 hw1; have hz1 : w.heap.size + 1 < w'.heap.size := (by have := New.size hw1; simp at this; omega); have hz0 : w.heap.size < w'.heap.size := (by omega)))
  exact bodyPost_ret (v := .tuple #[.agg #[.int .i64 0, .int .i64 0, .int .i64 0, .int .i64 0, .int .i64 0, .int .i64 0], .int .i64 (valE s cu tg mn mx st)]) (by go_light; simp [results, Tryd.results21, go_sem, *]) rfl ⟨rfl, (by repeat (first | with_reducible exact new0 _ | with_reducible apply New.alloc | (with_reducible refine New.setCell ?_ (by simp <;> omega) _) | (with_reducible refine New.trans ?_ hw1)))⟩
set_option maxHeartbeats 400000 in
theorem rtick_e2 (s cu tg mn mx st n : Int) (w : World) (hv : valE s cu tg mn mx st = 0) (h : n < 0) :
    Calls Tryd.prog 21 #[.agg #[.int .i64 s, .int .i64 cu, .int .i64 tg, .int .i64 mn, .int .i64 mx, .int .i64 st], .int .i64 n] w fun e w' => e = .returned (.tuple #[.agg #[.int .i64 0, .int .i64 0, .int .i64 0, .int .i64 0, .int .i64 0, .int .i64 0], .int .i64 6]) ∧ New w w' := by
  have HV := Lib.hid hv
  go_enter Tryd.func21, Tryd.ntmps21
  go_wp2_with (first | (go_at_call 23; refine (rremq_ok _ _ _ _ _ _ _ HV.out).mono ?_; rintro e w' ⟨rfl, hw1⟩; obtain ⟨k0, k1, k2, k3, k4, k5⟩ := cells6 hw1; obtain ⟨l0, l1, l2, l3, l4, l5⟩ := cells6b hw1; obtain ⟨hf1, hf2⟩ := frozen2 hw1; have hz1 : w.heap.size + 1 < w'.heap.size := (by have := New.size hw1; simp at this; omega); have hz0 : w.heap.size < w'.heap.size := (by omega)))
  exact bodyPost_ret (v := .tuple #[.agg #[.int .i64 0, .int .i64 0, .int .i64 0, .int .i64 0, .int .i64 0, .int .i64 0], .int .i64 6]) (by go_light; simp [results, Tryd.results21, go_sem, *]) rfl ⟨rfl, (by repeat (first | with_reducible exact new0 _ | with_reducible apply New.alloc | (with_reducible refine New.setCell ?_ (by simp <;> omega) _) | (with_reducible refine New.trans ?_ hw1)))⟩
set_option maxHeartbeats 400000 in
theorem rtick_e3 (s cu tg mn mx st n : Int) (w : World) (hv : valE s cu tg mn mx st = 0) (h : 1099511627776 < n) (h' : 0 ≤ n) :
    Calls Tryd.prog 21 #[.agg #[.int .i64 s, .int .i64 cu, .int .i64 tg, .int .i64 mn, .int .i64 mx, .int .i64 st], .int .i64 n] w fun e w' => e = .returned (.tuple #[.agg #[.int .i64 0, .int .i64 0, .int .i64 0, .int .i64 0, .int .i64 0, .int .i64 0], .int .i64 6]) ∧ New w w' := by
  have HV := Lib.hid hv
  go_enter Tryd.func21, Tryd.ntmps21
  go_wp2_with (first | (go_at_call 23; refine (rremq_ok _ _ _ _ _ _ _ HV.out).mono ?_; rintro e w' ⟨rfl, hw1⟩; obtain ⟨k0, k1, k2, k3, k4, k5⟩ := cells6 hw1; obtain ⟨l0, l1, l2, l3, l4, l5⟩ := cells6b hw1; obtain ⟨hf1, hf2⟩ := frozen2 hw1; have hz1 : w.heap.size + 1 < w'.heap.size := (by have := New.size hw1; simp at this; omega); have hz0 : w.heap.size < w'.heap.size := (by omega)))
  exact bodyPost_ret (v := .tuple #[.agg #[.int .i64 0, .int .i64 0, .int .i64 0, .int .i64 0, .int .i64 0, .int .i64 0], .int .i64 6]) (by go_light; simp [results, Tryd.results21, go_sem, *]) rfl ⟨rfl, (by repeat (first | with_reducible exact new0 _ | with_reducible apply New.alloc | (with_reducible refine New.setCell ?_ (by simp <;> omega) _) | (with_reducible refine New.trans ?_ hw1)))⟩
end Go.Proofs.YtacfjngnfgnmeaaDoor
