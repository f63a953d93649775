/-
  Run and the reference's Run at scripts that cannot run, and at empty ones.
-/
import Derived.Test.YtacfjngnfgnmeaaDoorLaws
namespace Go.Proofs.YtacfjngnfgnmeaaDoor
open Go.RowKit

set_option maxHeartbeats 800000 in
theorem run_err (s cu tg mn mx st : Int) (A : Option Addr) (n cap : Nat) (w : World) (hN : Nm w) (hv : (valE s cu tg mn mx st != 0) = true) :
    Calls Tryd.prog 24 #[.agg #[.int .i64 s, .int .i64 cu, .int .i64 tg, .int .i64 mn, .int .i64 mx, .int .i64 st], .slice A n cap] w fun e w' => e = .returned (.tuple #[.agg #[.int .i64 0, .int .i64 0, .int .i64 0, .int .i64 0, .int .i64 0, .int .i64 0], .int .i64 0, .int .i64 (valE s cu tg mn mx st)]) ∧ New w w' := by
  have HN := Lib.hid hN
  clear hN
  go_enter Tryd.func24, Tryd.ntmps24
  go_wp2_with (first | (go_at_call 14; refine (valid_any _ _ _ _ _ _ _ ((HN.out.alloc _).alloc _)).mono ?_; rintro e w' ⟨rfl, hw1⟩; obtain ⟨k0, k1, k2, k3, k4, k5⟩ := cells6 hw1; obtain ⟨l0, l1, l2, l3, l4, l5⟩ := cells6b hw1; obtain ⟨hf1, hf2⟩ := frozen2 hw1; have hz1 : w.heap.size + 1 < w'.heap.size := (by have := New.size hw1; simp at this; omega)))
  exact bodyPost_ret (v := .tuple #[.agg #[.int .i64 0, .int .i64 0, .int .i64 0, .int .i64 0, .int .i64 0, .int .i64 0], .int .i64 0, .int .i64 (valE s cu tg mn mx st)]) (by go_light; simp [results, Tryd.results24, go_sem, *]) rfl ⟨rfl, (by repeat (first | with_reducible exact new0 _ | with_reducible apply New.alloc | (with_reducible refine New.setCell ?_ (by simp <;> omega) _) | (with_reducible refine New.trans ?_ hw1)))⟩
set_option maxHeartbeats 800000 in
theorem run_long (s cu tg mn mx st : Int) (A : Option Addr) (n cap : Nat) (w : World) (hN : Nm w) (hv : valE s cu tg mn mx st = 0) (hn : 200 < n) :
    Calls Tryd.prog 24 #[.agg #[.int .i64 s, .int .i64 cu, .int .i64 tg, .int .i64 mn, .int .i64 mx, .int .i64 st], .slice A n cap] w fun e w' => e = .returned (.tuple #[.agg #[.int .i64 0, .int .i64 0, .int .i64 0, .int .i64 0, .int .i64 0, .int .i64 0], .int .i64 0, .int .i64 3]) ∧ New w w' := by
  have HN := Lib.hid hN
  clear hN
  have hn' : (200 : Int) < n := by omega
  go_enter Tryd.func24, Tryd.ntmps24
  go_wp2_with (first | (go_at_call 14; refine (valid_any _ _ _ _ _ _ _ ((HN.out.alloc _).alloc _)).mono ?_; rintro e w' ⟨rfl, hw1⟩; obtain ⟨k0, k1, k2, k3, k4, k5⟩ := cells6 hw1; obtain ⟨l0, l1, l2, l3, l4, l5⟩ := cells6b hw1; obtain ⟨hf1, hf2⟩ := frozen2 hw1; have hz1 : w.heap.size + 1 < w'.heap.size := (by have := New.size hw1; simp at this; omega)))
  exact bodyPost_ret (v := .tuple #[.agg #[.int .i64 0, .int .i64 0, .int .i64 0, .int .i64 0, .int .i64 0, .int .i64 0], .int .i64 0, .int .i64 3]) (by go_light; simp [results, Tryd.results24, go_sem, *]) rfl ⟨rfl, (by repeat (first | with_reducible exact new0 _ | with_reducible apply New.alloc | (with_reducible refine New.setCell ?_ (by simp <;> omega) _) | (with_reducible refine New.trans ?_ hw1)))⟩
set_option maxHeartbeats 800000 in
theorem run_nil (s cu tg mn mx st : Int) (A : Option Addr) (cap : Nat) (w : World) (hN : Nm w) (hv : valE s cu tg mn mx st = 0) :
    Calls Tryd.prog 24 #[.agg #[.int .i64 s, .int .i64 cu, .int .i64 tg, .int .i64 mn, .int .i64 mx, .int .i64 st], .slice A 0 cap] w fun e w' => e = .returned (.tuple #[.agg #[.int .i64 s, .int .i64 cu, .int .i64 tg, .int .i64 mn, .int .i64 mx, .int .i64 st], .int .i64 (-1), .int .i64 0]) ∧ New w w' := by
  have HN := Lib.hid hN
  clear hN
  go_enter Tryd.func24, Tryd.ntmps24
  go_wp2_with (first | (go_at_call 14; refine (valid_any _ _ _ _ _ _ _ ((HN.out.alloc _).alloc _)).mono ?_; rintro e w' ⟨rfl, hw1⟩; obtain ⟨k0, k1, k2, k3, k4, k5⟩ := cells6 hw1; obtain ⟨l0, l1, l2, l3, l4, l5⟩ := cells6b hw1; obtain ⟨hf1, hf2⟩ := frozen2 hw1; have hz1 : w.heap.size + 1 < w'.heap.size := (by have := New.size hw1; simp at this; omega)))
  have HW1 := Lib.hid hw1
  clear hw1
  go_loopw [24] (fun i wr => i = .int .i64 0 ∧ wr = w') (fun _ _ => 0)
  case atStart => exact ⟨rfl, rfl⟩
  case round =>
    obtain ⟨rfl, rfl⟩ := hrel
    go_wp2
    have hw1 := HW1.out
    exact bodyPost_ret (v := .tuple #[.agg #[.int .i64 s, .int .i64 cu, .int .i64 tg, .int .i64 mn, .int .i64 mx, .int .i64 st], .int .i64 (-1), .int .i64 0]) (by clear hw1; go_light; simp [results, Tryd.results24, go_sem, *]) rfl ⟨rfl, (by repeat (first | with_reducible exact new0 _ | with_reducible apply New.alloc | (with_reducible refine New.setCell ?_ (by simp <;> omega) _) | (with_reducible refine New.trans ?_ hw1)))⟩
set_option maxHeartbeats 800000 in
theorem rrun_err (s cu tg mn mx st : Int) (A : Option Addr) (n cap : Nat) (w : World) (hv : (valE s cu tg mn mx st != 0) = true) :
    Calls Tryd.prog 26 #[.agg #[.int .i64 s, .int .i64 cu, .int .i64 tg, .int .i64 mn, .int .i64 mx, .int .i64 st], .slice A n cap] w fun e w' => e = .returned (.tuple #[.agg #[.int .i64 0, .int .i64 0, .int .i64 0, .int .i64 0, .int .i64 0, .int .i64 0], .int .i64 0, .int .i64 (valE s cu tg mn mx st)]) ∧ New w w' := by
  go_enter Tryd.func26, Tryd.ntmps26
  go_wp2_with (first | (go_at_call 15; refine (rvalid_any _ _ _ _ _ _ _).mono ?_; rintro e w' ⟨rfl, hw1⟩; obtain ⟨k0, k1, k2, k3, k4, k5⟩ := cells6 hw1; obtain ⟨l0, l1, l2, l3, l4, l5⟩ := cells6b hw1; obtain ⟨hf1, hf2⟩ := frozen2 hw1; have hz1 : w.heap.size + 1 < w'.heap.size := (by have := New.size hw1; simp at this; omega)))
  exact bodyPost_ret (v := .tuple #[.agg #[.int .i64 0, .int .i64 0, .int .i64 0, .int .i64 0, .int .i64 0, .int .i64 0], .int .i64 0, .int .i64 (valE s cu tg mn mx st)]) (by go_light; simp [results, Tryd.results26, go_sem, *]) rfl ⟨rfl, (by repeat (first | with_reducible exact new0 _ | with_reducible apply New.alloc | (with_reducible refine New.setCell ?_ (by simp <;> omega) _) | (with_reducible refine New.trans ?_ hw1)))⟩
set_option maxHeartbeats 800000 in
theorem rrun_long (s cu tg mn mx st : Int) (A : Option Addr) (n cap : Nat) (w : World) (hv : valE s cu tg mn mx st = 0) (hn : 200 < n) :
    Calls Tryd.prog 26 #[.agg #[.int .i64 s, .int .i64 cu, .int .i64 tg, .int .i64 mn, .int .i64 mx, .int .i64 st], .slice A n cap] w fun e w' => e = .returned (.tuple #[.agg #[.int .i64 0, .int .i64 0, .int .i64 0, .int .i64 0, .int .i64 0, .int .i64 0], .int .i64 0, .int .i64 3]) ∧ New w w' := by
  have hn' : (200 : Int) < n := by omega
  go_enter Tryd.func26, Tryd.ntmps26
  go_wp2_with (first | (go_at_call 15; refine (rvalid_any _ _ _ _ _ _ _).mono ?_; rintro e w' ⟨rfl, hw1⟩; obtain ⟨k0, k1, k2, k3, k4, k5⟩ := cells6 hw1; obtain ⟨l0, l1, l2, l3, l4, l5⟩ := cells6b hw1; obtain ⟨hf1, hf2⟩ := frozen2 hw1; have hz1 : w.heap.size + 1 < w'.heap.size := (by have := New.size hw1; simp at this; omega)))
  exact bodyPost_ret (v := .tuple #[.agg #[.int .i64 0, .int .i64 0, .int .i64 0, .int .i64 0, .int .i64 0, .int .i64 0], .int .i64 0, .int .i64 3]) (by go_light; simp [results, Tryd.results26, go_sem, *]) rfl ⟨rfl, (by repeat (first | with_reducible exact new0 _ | with_reducible apply New.alloc | (with_reducible refine New.setCell ?_ (by simp <;> omega) _) | (with_reducible refine New.trans ?_ hw1)))⟩
set_option maxHeartbeats 800000 in
theorem rrun_nil (s cu tg mn mx st : Int) (A : Option Addr) (cap : Nat) (w : World) (hv : valE s cu tg mn mx st = 0) :
    Calls Tryd.prog 26 #[.agg #[.int .i64 s, .int .i64 cu, .int .i64 tg, .int .i64 mn, .int .i64 mx, .int .i64 st], .slice A 0 cap] w fun e w' => e = .returned (.tuple #[.agg #[.int .i64 s, .int .i64 cu, .int .i64 tg, .int .i64 mn, .int .i64 mx, .int .i64 st], .int .i64 (-1), .int .i64 0]) ∧ New w w' := by
  go_enter Tryd.func26, Tryd.ntmps26
  go_wp2_with (first | (go_at_call 15; refine (rvalid_any _ _ _ _ _ _ _).mono ?_; rintro e w' ⟨rfl, hw1⟩; obtain ⟨k0, k1, k2, k3, k4, k5⟩ := cells6 hw1; obtain ⟨l0, l1, l2, l3, l4, l5⟩ := cells6b hw1; obtain ⟨hf1, hf2⟩ := frozen2 hw1; have hz1 : w.heap.size + 1 < w'.heap.size := (by have := New.size hw1; simp at this; omega)))
  have HW1 := Lib.hid hw1
  clear hw1
  go_loopw [8] (fun i wr => i = .int .i64 0 ∧ wr = w') (fun _ _ => 0)
  case atStart => exact ⟨rfl, rfl⟩
  case round =>
    obtain ⟨rfl, rfl⟩ := hrel
    go_wp2
    have hw1 := HW1.out
    exact bodyPost_ret (v := .tuple #[.agg #[.int .i64 s, .int .i64 cu, .int .i64 tg, .int .i64 mn, .int .i64 mx, .int .i64 st], .int .i64 (-1), .int .i64 0]) (by clear hw1; go_light; simp [results, Tryd.results26, go_sem, *]) rfl ⟨rfl, (by repeat (first | with_reducible exact new0 _ | with_reducible apply New.alloc | (with_reducible refine New.setCell ?_ (by simp <;> omega) _) | (with_reducible refine New.trans ?_ hw1)))⟩
end Go.Proofs.YtacfjngnfgnmeaaDoor
