/-
  What the reference's New and Command of a converter answer.
-/
import Derived.Test.YtacfjngnfgnmeaaDoorCmd
import Derived.Test.YtacfjngnfgnmeaaDoorRvalid
namespace Go.Proofs.YtacfjngnfgnmeaaDoor
open Go.RowKit

set_option maxHeartbeats 400000 in
theorem new_no (mn mx st : Int) (w : World) (h : limB mn mx st = false) :
    Calls Tryd.prog 12 #[.int .i64 mn, .int .i64 mx, .int .i64 st] w fun e w' => e = .returned (.tuple #[.agg #[.int .i64 0, .int .i64 0, .int .i64 0, .int .i64 0, .int .i64 0, .int .i64 0], .int .i64 6]) ∧ New w w' := by
  go_enter Tryd.func12, Tryd.ntmps12
  go_wp2_with (go_at_call 32; refine (limits_any _ _ _ _).mono ?_; rintro e w' ⟨rfl, rfl⟩)
  exact bodyPost_ret (v := .tuple #[.agg #[.int .i64 0, .int .i64 0, .int .i64 0, .int .i64 0, .int .i64 0, .int .i64 0], .int .i64 6]) (by go_light; simp [results, Tryd.results12, go_sem]) rfl ⟨rfl, (by repeat (first | with_reducible exact new0 _ | with_reducible apply New.alloc | (with_reducible refine New.setCell ?_ (by simp <;> omega) _) | (with_reducible refine New.trans ?_ hw1)))⟩
set_option maxHeartbeats 400000 in
theorem rnew_no (mn mx st : Int) (w : World) (h : limB mn mx st = false) :
    Calls Tryd.prog 13 #[.int .i64 mn, .int .i64 mx, .int .i64 st] w fun e w' => e = .returned (.tuple #[.agg #[.int .i64 0, .int .i64 0, .int .i64 0, .int .i64 0, .int .i64 0, .int .i64 0], .int .i64 6]) ∧ New w w' := by
  go_enter Tryd.func13, Tryd.ntmps13
  go_wp2_with (go_at_call 33; refine (rlimits_any _ _ _ _).mono ?_; rintro e w' ⟨rfl, rfl⟩)
  exact bodyPost_ret (v := .tuple #[.agg #[.int .i64 0, .int .i64 0, .int .i64 0, .int .i64 0, .int .i64 0, .int .i64 0], .int .i64 6]) (by go_light; simp [results, Tryd.results13, go_sem]) rfl ⟨rfl, (by repeat (first | with_reducible exact new0 _ | with_reducible apply New.alloc | (with_reducible refine New.setCell ?_ (by simp <;> omega) _) | (with_reducible refine New.trans ?_ hw1)))⟩
set_option maxHeartbeats 400000 in
theorem rnew_yes (mn mx st : Int) (w : World) (h : limB mn mx st = true) :
    Calls Tryd.prog 13 #[.int .i64 mn, .int .i64 mx, .int .i64 st] w fun e w' => e = .returned (.tuple #[.agg #[.int .i64 1, .int .i64 0, .int .i64 0, .int .i64 mn, .int .i64 mx, .int .i64 st], .int .i64 0]) ∧ New w w' := by
  go_enter Tryd.func13, Tryd.ntmps13
  go_wp2_with (go_at_call 33; refine (rlimits_any _ _ _ _).mono ?_; rintro e w' ⟨rfl, rfl⟩)
  exact bodyPost_ret (v := .tuple #[.agg #[.int .i64 1, .int .i64 0, .int .i64 0, .int .i64 mn, .int .i64 mx, .int .i64 st], .int .i64 0]) (by go_light; simp [results, Tryd.results13, go_sem]) rfl ⟨rfl, (by repeat (first | with_reducible exact new0 _ | with_reducible apply New.alloc | (with_reducible refine New.setCell ?_ (by simp <;> omega) _) | (with_reducible refine New.trans ?_ hw1)))⟩
set_option maxHeartbeats 400000 in
theorem rcmd_1 (s cu tg mn mx st v : Int) (w : World) (hv : valE s cu tg mn mx st = 0) (h : refB s cu 1 = true) :
    Calls Tryd.prog 19 #[.agg #[.int .i64 s, .int .i64 cu, .int .i64 tg, .int .i64 mn, .int .i64 mx, .int .i64 st], .int .i64 1, .int .i64 v] w fun e w' => e = .returned (.tuple #[.agg #[.int .i64 2, .int .i64 cu, .int .i64 tg, .int .i64 mn, .int .i64 mx, .int .i64 st], .int .i64 0]) ∧ New w w' := by
  go_enter Tryd.func19, Tryd.ntmps19
  go_wp2_with (first | (go_at_call 15; refine (rvalid_any _ _ _ _ _ _ _).mono ?_; rintro e w' ⟨rfl, hw1⟩; obtain ⟨k0, k1, k2, k3, k4, k5⟩ := cells6 hw1; obtain ⟨l0, l1, l2, l3, l4, l5⟩ := cells6b hw1; obtain ⟨hf1, hf2⟩ := frozen2 hw1; have hz1 : w.heap.size + 1 < w'.heap.size := (by have := New.size hw1; simp at this; omega); have hz0 : w.heap.size < w'.heap.size := (by omega)) | (go_at_call 37; refine (ref_any _ _ _ _ _ _ _ _).mono ?_; rintro e w' ⟨rfl, cs, rfl⟩))
  exact bodyPost_ret (v := .tuple #[.agg #[.int .i64 2, .int .i64 cu, .int .i64 tg, .int .i64 mn, .int .i64 mx, .int .i64 st], .int .i64 0]) (by go_light; simp [results, Tryd.results19, go_sem, *]) rfl ⟨rfl, (by repeat (first | with_reducible exact new0 _ | with_reducible apply New.alloc | (with_reducible refine New.setCell ?_ (by simp <;> omega) _) | (with_reducible refine New.trans ?_ hw1)))⟩
set_option maxHeartbeats 400000 in
theorem rcmd_2 (s cu tg mn mx st v : Int) (w : World) (hv : valE s cu tg mn mx st = 0) (h : refB s cu 2 = true) :
    Calls Tryd.prog 19 #[.agg #[.int .i64 s, .int .i64 cu, .int .i64 tg, .int .i64 mn, .int .i64 mx, .int .i64 st], .int .i64 2, .int .i64 v] w fun e w' => e = .returned (.tuple #[.agg #[.int .i64 3, .int .i64 cu, .int .i64 tg, .int .i64 mn, .int .i64 mx, .int .i64 st], .int .i64 0]) ∧ New w w' := by
  go_enter Tryd.func19, Tryd.ntmps19
  go_wp2_with (first | (go_at_call 15; refine (rvalid_any _ _ _ _ _ _ _).mono ?_; rintro e w' ⟨rfl, hw1⟩; obtain ⟨k0, k1, k2, k3, k4, k5⟩ := cells6 hw1; obtain ⟨l0, l1, l2, l3, l4, l5⟩ := cells6b hw1; obtain ⟨hf1, hf2⟩ := frozen2 hw1; have hz1 : w.heap.size + 1 < w'.heap.size := (by have := New.size hw1; simp at this; omega); have hz0 : w.heap.size < w'.heap.size := (by omega)) | (go_at_call 37; refine (ref_any _ _ _ _ _ _ _ _).mono ?_; rintro e w' ⟨rfl, cs, rfl⟩))
  exact bodyPost_ret (v := .tuple #[.agg #[.int .i64 3, .int .i64 cu, .int .i64 tg, .int .i64 mn, .int .i64 mx, .int .i64 st], .int .i64 0]) (by go_light; simp [results, Tryd.results19, go_sem, *]) rfl ⟨rfl, (by repeat (first | with_reducible exact new0 _ | with_reducible apply New.alloc | (with_reducible refine New.setCell ?_ (by simp <;> omega) _) | (with_reducible refine New.trans ?_ hw1)))⟩
set_option maxHeartbeats 400000 in
theorem rcmd_3e (s cu tg mn mx st : Int) (w : World) (hv : valE s cu tg mn mx st = 0) (h : refB s cu 3 = true) (h3 : mn ≤ cu) (h4 : cu ≤ mx) :
    Calls Tryd.prog 19 #[.agg #[.int .i64 s, .int .i64 cu, .int .i64 tg, .int .i64 mn, .int .i64 mx, .int .i64 st], .int .i64 3, .int .i64 cu] w fun e w' => e = .returned (.tuple #[.agg #[.int .i64 3, .int .i64 cu, .int .i64 cu, .int .i64 mn, .int .i64 mx, .int .i64 st], .int .i64 0]) ∧ New w w' := by
  have hss : ∀ (W : World) (X Y : Value), (W.setCell ⟨w.heap.size, 0, none⟩ X).setCell ⟨w.heap.size, 0, none⟩ Y = W.setCell ⟨w.heap.size, 0, none⟩ Y := fun W X Y => setCell_twice W _ _ X Y
  go_enter Tryd.func19, Tryd.ntmps19
  go_wp2_with (first | (go_at_call 15; refine (rvalid_any _ _ _ _ _ _ _).mono ?_; rintro e w' ⟨rfl, hw1⟩; obtain ⟨k0, k1, k2, k3, k4, k5⟩ := cells6 hw1; obtain ⟨l0, l1, l2, l3, l4, l5⟩ := cells6b hw1; obtain ⟨hf1, hf2⟩ := frozen2 hw1; have hz1 : w.heap.size + 1 < w'.heap.size := (by have := New.size hw1; simp at this; omega); have hz0 : w.heap.size < w'.heap.size := (by omega)) | (go_at_call 37; refine (ref_any _ _ _ _ _ _ _ _).mono ?_; rintro e w' ⟨rfl, cs, rfl⟩))
  exact bodyPost_ret (v := .tuple #[.agg #[.int .i64 3, .int .i64 cu, .int .i64 cu, .int .i64 mn, .int .i64 mx, .int .i64 st], .int .i64 0]) (by go_light; simp [results, Tryd.results19, go_sem, *]) rfl ⟨rfl, (by repeat (first | with_reducible exact new0 _ | with_reducible apply New.alloc | (with_reducible refine New.setCell ?_ (by simp <;> omega) _) | (with_reducible refine New.trans ?_ hw1)))⟩
set_option maxHeartbeats 400000 in
theorem rcmd_3n (s cu tg mn mx st v : Int) (w : World) (hv : valE s cu tg mn mx st = 0) (h : refB s cu 3 = true) (h3 : mn ≤ v) (h4 : v ≤ mx) (hn : (v == cu) = false) :
    Calls Tryd.prog 19 #[.agg #[.int .i64 s, .int .i64 cu, .int .i64 tg, .int .i64 mn, .int .i64 mx, .int .i64 st], .int .i64 3, .int .i64 v] w fun e w' => e = .returned (.tuple #[.agg #[.int .i64 4, .int .i64 cu, .int .i64 v, .int .i64 mn, .int .i64 mx, .int .i64 st], .int .i64 0]) ∧ New w w' := by
  go_enter Tryd.func19, Tryd.ntmps19
  go_wp2_with (first | (go_at_call 15; refine (rvalid_any _ _ _ _ _ _ _).mono ?_; rintro e w' ⟨rfl, hw1⟩; obtain ⟨k0, k1, k2, k3, k4, k5⟩ := cells6 hw1; obtain ⟨l0, l1, l2, l3, l4, l5⟩ := cells6b hw1; obtain ⟨hf1, hf2⟩ := frozen2 hw1; have hz1 : w.heap.size + 1 < w'.heap.size := (by have := New.size hw1; simp at this; omega); have hz0 : w.heap.size < w'.heap.size := (by omega)) | (go_at_call 37; refine (ref_any _ _ _ _ _ _ _ _).mono ?_; rintro e w' ⟨rfl, cs, rfl⟩))
  exact bodyPost_ret (v := .tuple #[.agg #[.int .i64 4, .int .i64 cu, .int .i64 v, .int .i64 mn, .int .i64 mx, .int .i64 st], .int .i64 0]) (by go_light; simp [results, Tryd.results19, go_sem, *]) rfl ⟨rfl, (by repeat (first | with_reducible exact new0 _ | with_reducible apply New.alloc | (with_reducible refine New.setCell ?_ (by simp <;> omega) _) | (with_reducible refine New.trans ?_ hw1)))⟩
set_option maxHeartbeats 400000 in
theorem rcmd_4s (cu tg mn mx st v : Int) (w : World) (hv : valE 2 cu tg mn mx st = 0) (h : refB 2 cu 4 = true) :
    Calls Tryd.prog 19 #[.agg #[.int .i64 2, .int .i64 cu, .int .i64 tg, .int .i64 mn, .int .i64 mx, .int .i64 st], .int .i64 4, .int .i64 v] w fun e w' => e = .returned (.tuple #[.agg #[.int .i64 1, .int .i64 cu, .int .i64 0, .int .i64 mn, .int .i64 mx, .int .i64 st], .int .i64 0]) ∧ New w w' := by
  go_enter Tryd.func19, Tryd.ntmps19
  go_wp2_with (first | (go_at_call 15; refine (rvalid_any _ _ _ _ _ _ _).mono ?_; rintro e w' ⟨rfl, hw1⟩; obtain ⟨k0, k1, k2, k3, k4, k5⟩ := cells6 hw1; obtain ⟨l0, l1, l2, l3, l4, l5⟩ := cells6b hw1; obtain ⟨hf1, hf2⟩ := frozen2 hw1; have hz1 : w.heap.size + 1 < w'.heap.size := (by have := New.size hw1; simp at this; omega); have hz0 : w.heap.size < w'.heap.size := (by omega)) | (go_at_call 37; refine (ref_any _ _ _ _ _ _ _ _).mono ?_; rintro e w' ⟨rfl, cs, rfl⟩))
  exact bodyPost_ret (v := .tuple #[.agg #[.int .i64 1, .int .i64 cu, .int .i64 0, .int .i64 mn, .int .i64 mx, .int .i64 st], .int .i64 0]) (by go_light; simp [results, Tryd.results19, go_sem, *]) rfl ⟨rfl, (by repeat (first | with_reducible exact new0 _ | with_reducible apply New.alloc | (with_reducible refine New.setCell ?_ (by simp <;> omega) _) | (with_reducible refine New.trans ?_ hw1)))⟩
set_option maxHeartbeats 400000 in
theorem rcmd_4n (s cu tg mn mx st v : Int) (w : World) (hv : valE s cu tg mn mx st = 0) (h : refB s cu 4 = true) (hn : (s == 2) = false) :
    Calls Tryd.prog 19 #[.agg #[.int .i64 s, .int .i64 cu, .int .i64 tg, .int .i64 mn, .int .i64 mx, .int .i64 st], .int .i64 4, .int .i64 v] w fun e w' => e = .returned (.tuple #[.agg #[.int .i64 2, .int .i64 cu, .int .i64 0, .int .i64 mn, .int .i64 mx, .int .i64 st], .int .i64 0]) ∧ New w w' := by
  go_enter Tryd.func19, Tryd.ntmps19
  go_wp2_with (first | (go_at_call 15; refine (rvalid_any _ _ _ _ _ _ _).mono ?_; rintro e w' ⟨rfl, hw1⟩; obtain ⟨k0, k1, k2, k3, k4, k5⟩ := cells6 hw1; obtain ⟨l0, l1, l2, l3, l4, l5⟩ := cells6b hw1; obtain ⟨hf1, hf2⟩ := frozen2 hw1; have hz1 : w.heap.size + 1 < w'.heap.size := (by have := New.size hw1; simp at this; omega); have hz0 : w.heap.size < w'.heap.size := (by omega)) | (go_at_call 37; refine (ref_any _ _ _ _ _ _ _ _).mono ?_; rintro e w' ⟨rfl, cs, rfl⟩))
  exact bodyPost_ret (v := .tuple #[.agg #[.int .i64 2, .int .i64 cu, .int .i64 0, .int .i64 mn, .int .i64 mx, .int .i64 st], .int .i64 0]) (by go_light; simp [results, Tryd.results19, go_sem, *]) rfl ⟨rfl, (by repeat (first | with_reducible exact new0 _ | with_reducible apply New.alloc | (with_reducible refine New.setCell ?_ (by simp <;> omega) _) | (with_reducible refine New.trans ?_ hw1)))⟩
set_option maxHeartbeats 400000 in
theorem rcmd_5 (s cu tg mn mx st v : Int) (w : World) (hv : valE s cu tg mn mx st = 0) (h : refB s cu 5 = true) :
    Calls Tryd.prog 19 #[.agg #[.int .i64 s, .int .i64 cu, .int .i64 tg, .int .i64 mn, .int .i64 mx, .int .i64 st], .int .i64 5, .int .i64 v] w fun e w' => e = .returned (.tuple #[.agg #[.int .i64 5, .int .i64 cu, .int .i64 0, .int .i64 mn, .int .i64 mx, .int .i64 st], .int .i64 0]) ∧ New w w' := by
  go_enter Tryd.func19, Tryd.ntmps19
  go_wp2_with (first | (go_at_call 15; refine (rvalid_any _ _ _ _ _ _ _).mono ?_; rintro e w' ⟨rfl, hw1⟩; obtain ⟨k0, k1, k2, k3, k4, k5⟩ := cells6 hw1; obtain ⟨l0, l1, l2, l3, l4, l5⟩ := cells6b hw1; obtain ⟨hf1, hf2⟩ := frozen2 hw1; have hz1 : w.heap.size + 1 < w'.heap.size := (by have := New.size hw1; simp at this; omega); have hz0 : w.heap.size < w'.heap.size := (by omega)) | (go_at_call 37; refine (ref_any _ _ _ _ _ _ _ _).mono ?_; rintro e w' ⟨rfl, cs, rfl⟩))
  exact bodyPost_ret (v := .tuple #[.agg #[.int .i64 5, .int .i64 cu, .int .i64 0, .int .i64 mn, .int .i64 mx, .int .i64 st], .int .i64 0]) (by go_light; simp [results, Tryd.results19, go_sem, *]) rfl ⟨rfl, (by repeat (first | with_reducible exact new0 _ | with_reducible apply New.alloc | (with_reducible refine New.setCell ?_ (by simp <;> omega) _) | (with_reducible refine New.trans ?_ hw1)))⟩
set_option maxHeartbeats 400000 in
theorem rcmd_6 (s cu tg mn mx st v : Int) (w : World) (hv : valE s cu tg mn mx st = 0) (h : refB s cu 6 = true) :
    Calls Tryd.prog 19 #[.agg #[.int .i64 s, .int .i64 cu, .int .i64 tg, .int .i64 mn, .int .i64 mx, .int .i64 st], .int .i64 6, .int .i64 v] w fun e w' => e = .returned (.tuple #[.agg #[.int .i64 1, .int .i64 cu, .int .i64 tg, .int .i64 mn, .int .i64 mx, .int .i64 st], .int .i64 0]) ∧ New w w' := by
  go_enter Tryd.func19, Tryd.ntmps19
  go_wp2_with (first | (go_at_call 15; refine (rvalid_any _ _ _ _ _ _ _).mono ?_; rintro e w' ⟨rfl, hw1⟩; obtain ⟨k0, k1, k2, k3, k4, k5⟩ := cells6 hw1; obtain ⟨l0, l1, l2, l3, l4, l5⟩ := cells6b hw1; obtain ⟨hf1, hf2⟩ := frozen2 hw1; have hz1 : w.heap.size + 1 < w'.heap.size := (by have := New.size hw1; simp at this; omega); have hz0 : w.heap.size < w'.heap.size := (by omega)) | (go_at_call 37; refine (ref_any _ _ _ _ _ _ _ _).mono ?_; rintro e w' ⟨rfl, cs, rfl⟩))
  exact bodyPost_ret (v := .tuple #[.agg #[.int .i64 1, .int .i64 cu, .int .i64 tg, .int .i64 mn, .int .i64 mx, .int .i64 st], .int .i64 0]) (by go_light; simp [results, Tryd.results19, go_sem, *]) rfl ⟨rfl, (by repeat (first | with_reducible exact new0 _ | with_reducible apply New.alloc | (with_reducible refine New.setCell ?_ (by simp <;> omega) _) | (with_reducible refine New.trans ?_ hw1)))⟩
set_option maxHeartbeats 400000 in
theorem rcmd_e1 (s cu tg mn mx st k v : Int) (w : World) (hv : (valE s cu tg mn mx st != 0) = true) :
    Calls Tryd.prog 19 #[.agg #[.int .i64 s, .int .i64 cu, .int .i64 tg, .int .i64 mn, .int .i64 mx, .int .i64 st], .int .i64 k, .int .i64 v] w fun e w' => e = .returned (.tuple #[.agg #[.int .i64 0, .int .i64 0, .int .i64 0, .int .i64 0, .int .i64 0, .int .i64 0], .int .i64 (valE s cu tg mn mx st)]) ∧ New w w' := by
  go_enter Tryd.func19, Tryd.ntmps19
  go_wp2_with (first | (go_at_call 15; refine (rvalid_any _ _ _ _ _ _ _).mono ?_; rintro e w' ⟨rfl, hw1⟩; obtain ⟨k0, k1, k2, k3, k4, k5⟩ := cells6 hw1; obtain ⟨l0, l1, l2, l3, l4, l5⟩ := cells6b hw1; obtain ⟨hf1, hf2⟩ := frozen2 hw1; have hz1 : w.heap.size + 1 < w'.heap.size := (by have := New.size hw1; simp at this; omega); have hz0 : w.heap.size < w'.heap.size := (by omega)) | (go_at_call 37; refine (ref_any _ _ _ _ _ _ _ _).mono ?_; rintro e w' ⟨rfl, cs, rfl⟩))
  exact bodyPost_ret (v := .tuple #[.agg #[.int .i64 0, .int .i64 0, .int .i64 0, .int .i64 0, .int .i64 0, .int .i64 0], .int .i64 (valE s cu tg mn mx st)]) (by go_light; simp [results, Tryd.results19, go_sem, *]) rfl ⟨rfl, (by repeat (first | with_reducible exact new0 _ | with_reducible apply New.alloc | (with_reducible refine New.setCell ?_ (by simp <;> omega) _) | (with_reducible refine New.trans ?_ hw1)))⟩
set_option maxHeartbeats 400000 in
theorem rcmd_e2a (s cu tg mn mx st k v : Int) (w : World) (hv : valE s cu tg mn mx st = 0) (h : k < 1) :
    Calls Tryd.prog 19 #[.agg #[.int .i64 s, .int .i64 cu, .int .i64 tg, .int .i64 mn, .int .i64 mx, .int .i64 st], .int .i64 k, .int .i64 v] w fun e w' => e = .returned (.tuple #[.agg #[.int .i64 0, .int .i64 0, .int .i64 0, .int .i64 0, .int .i64 0, .int .i64 0], .int .i64 1]) ∧ New w w' := by
  go_enter Tryd.func19, Tryd.ntmps19
  go_wp2_with (first | (go_at_call 15; refine (rvalid_any _ _ _ _ _ _ _).mono ?_; rintro e w' ⟨rfl, hw1⟩; obtain ⟨k0, k1, k2, k3, k4, k5⟩ := cells6 hw1; obtain ⟨l0, l1, l2, l3, l4, l5⟩ := cells6b hw1; obtain ⟨hf1, hf2⟩ := frozen2 hw1; have hz1 : w.heap.size + 1 < w'.heap.size := (by have := New.size hw1; simp at this; omega); have hz0 : w.heap.size < w'.heap.size := (by omega)) | (go_at_call 37; refine (ref_any _ _ _ _ _ _ _ _).mono ?_; rintro e w' ⟨rfl, cs, rfl⟩))
  exact bodyPost_ret (v := .tuple #[.agg #[.int .i64 0, .int .i64 0, .int .i64 0, .int .i64 0, .int .i64 0, .int .i64 0], .int .i64 1]) (by go_light; simp [results, Tryd.results19, go_sem, *]) rfl ⟨rfl, (by repeat (first | with_reducible exact new0 _ | with_reducible apply New.alloc | (with_reducible refine New.setCell ?_ (by simp <;> omega) _) | (with_reducible refine New.trans ?_ hw1)))⟩
set_option maxHeartbeats 400000 in
theorem rcmd_e2b (s cu tg mn mx st k v : Int) (w : World) (hv : valE s cu tg mn mx st = 0) (h : 6 < k) (h' : ¬ k < 1) :
    Calls Tryd.prog 19 #[.agg #[.int .i64 s, .int .i64 cu, .int .i64 tg, .int .i64 mn, .int .i64 mx, .int .i64 st], .int .i64 k, .int .i64 v] w fun e w' => e = .returned (.tuple #[.agg #[.int .i64 0, .int .i64 0, .int .i64 0, .int .i64 0, .int .i64 0, .int .i64 0], .int .i64 1]) ∧ New w w' := by
  go_enter Tryd.func19, Tryd.ntmps19
  go_wp2_with (first | (go_at_call 15; refine (rvalid_any _ _ _ _ _ _ _).mono ?_; rintro e w' ⟨rfl, hw1⟩; obtain ⟨k0, k1, k2, k3, k4, k5⟩ := cells6 hw1; obtain ⟨l0, l1, l2, l3, l4, l5⟩ := cells6b hw1; obtain ⟨hf1, hf2⟩ := frozen2 hw1; have hz1 : w.heap.size + 1 < w'.heap.size := (by have := New.size hw1; simp at this; omega); have hz0 : w.heap.size < w'.heap.size := (by omega)) | (go_at_call 37; refine (ref_any _ _ _ _ _ _ _ _).mono ?_; rintro e w' ⟨rfl, cs, rfl⟩))
  exact bodyPost_ret (v := .tuple #[.agg #[.int .i64 0, .int .i64 0, .int .i64 0, .int .i64 0, .int .i64 0, .int .i64 0], .int .i64 1]) (by go_light; simp [results, Tryd.results19, go_sem, *]) rfl ⟨rfl, (by repeat (first | with_reducible exact new0 _ | with_reducible apply New.alloc | (with_reducible refine New.setCell ?_ (by simp <;> omega) _) | (with_reducible refine New.trans ?_ hw1)))⟩
set_option maxHeartbeats 400000 in
theorem rcmd_e3 (s cu tg mn mx st k v : Int) (w : World) (hv : valE s cu tg mn mx st = 0) (ha : 1 ≤ k) (hb : k ≤ 6) (h : refB s cu k = false) :
    Calls Tryd.prog 19 #[.agg #[.int .i64 s, .int .i64 cu, .int .i64 tg, .int .i64 mn, .int .i64 mx, .int .i64 st], .int .i64 k, .int .i64 v] w fun e w' => e = .returned (.tuple #[.agg #[.int .i64 0, .int .i64 0, .int .i64 0, .int .i64 0, .int .i64 0, .int .i64 0], .int .i64 8]) ∧ New w w' := by
  go_enter Tryd.func19, Tryd.ntmps19
  go_wp2_with (first | (go_at_call 15; refine (rvalid_any _ _ _ _ _ _ _).mono ?_; rintro e w' ⟨rfl, hw1⟩; obtain ⟨k0, k1, k2, k3, k4, k5⟩ := cells6 hw1; obtain ⟨l0, l1, l2, l3, l4, l5⟩ := cells6b hw1; obtain ⟨hf1, hf2⟩ := frozen2 hw1; have hz1 : w.heap.size + 1 < w'.heap.size := (by have := New.size hw1; simp at this; omega); have hz0 : w.heap.size < w'.heap.size := (by omega)) | (go_at_call 37; refine (ref_any _ _ _ _ _ _ _ _).mono ?_; rintro e w' ⟨rfl, cs, rfl⟩))
  exact bodyPost_ret (v := .tuple #[.agg #[.int .i64 0, .int .i64 0, .int .i64 0, .int .i64 0, .int .i64 0, .int .i64 0], .int .i64 8]) (by go_light; simp [results, Tryd.results19, go_sem, *]) rfl ⟨rfl, (by repeat (first | with_reducible exact new0 _ | with_reducible apply New.alloc | (with_reducible refine New.setCell ?_ (by simp <;> omega) _) | (with_reducible refine New.trans ?_ hw1)))⟩
set_option maxHeartbeats 400000 in
theorem rcmd_e4a (s cu tg mn mx st v : Int) (w : World) (hv : valE s cu tg mn mx st = 0) (h : refB s cu 3 = true) (h3 : v < mn) :
    Calls Tryd.prog 19 #[.agg #[.int .i64 s, .int .i64 cu, .int .i64 tg, .int .i64 mn, .int .i64 mx, .int .i64 st], .int .i64 3, .int .i64 v] w fun e w' => e = .returned (.tuple #[.agg #[.int .i64 0, .int .i64 0, .int .i64 0, .int .i64 0, .int .i64 0, .int .i64 0], .int .i64 6]) ∧ New w w' := by
  go_enter Tryd.func19, Tryd.ntmps19
  go_wp2_with (first | (go_at_call 15; refine (rvalid_any _ _ _ _ _ _ _).mono ?_; rintro e w' ⟨rfl, hw1⟩; obtain ⟨k0, k1, k2, k3, k4, k5⟩ := cells6 hw1; obtain ⟨l0, l1, l2, l3, l4, l5⟩ := cells6b hw1; obtain ⟨hf1, hf2⟩ := frozen2 hw1; have hz1 : w.heap.size + 1 < w'.heap.size := (by have := New.size hw1; simp at this; omega); have hz0 : w.heap.size < w'.heap.size := (by omega)) | (go_at_call 37; refine (ref_any _ _ _ _ _ _ _ _).mono ?_; rintro e w' ⟨rfl, cs, rfl⟩))
  exact bodyPost_ret (v := .tuple #[.agg #[.int .i64 0, .int .i64 0, .int .i64 0, .int .i64 0, .int .i64 0, .int .i64 0], .int .i64 6]) (by go_light; simp [results, Tryd.results19, go_sem, *]) rfl ⟨rfl, (by repeat (first | with_reducible exact new0 _ | with_reducible apply New.alloc | (with_reducible refine New.setCell ?_ (by simp <;> omega) _) | (with_reducible refine New.trans ?_ hw1)))⟩
set_option maxHeartbeats 400000 in
theorem rcmd_e4b (s cu tg mn mx st v : Int) (w : World) (hv : valE s cu tg mn mx st = 0) (h : refB s cu 3 = true) (h3 : mn ≤ v) (h4 : mx < v) :
    Calls Tryd.prog 19 #[.agg #[.int .i64 s, .int .i64 cu, .int .i64 tg, .int .i64 mn, .int .i64 mx, .int .i64 st], .int .i64 3, .int .i64 v] w fun e w' => e = .returned (.tuple #[.agg #[.int .i64 0, .int .i64 0, .int .i64 0, .int .i64 0, .int .i64 0, .int .i64 0], .int .i64 6]) ∧ New w w' := by
  go_enter Tryd.func19, Tryd.ntmps19
  go_wp2_with (first | (go_at_call 15; refine (rvalid_any _ _ _ _ _ _ _).mono ?_; rintro e w' ⟨rfl, hw1⟩; obtain ⟨k0, k1, k2, k3, k4, k5⟩ := cells6 hw1; obtain ⟨l0, l1, l2, l3, l4, l5⟩ := cells6b hw1; obtain ⟨hf1, hf2⟩ := frozen2 hw1; have hz1 : w.heap.size + 1 < w'.heap.size := (by have := New.size hw1; simp at this; omega); have hz0 : w.heap.size < w'.heap.size := (by omega)) | (go_at_call 37; refine (ref_any _ _ _ _ _ _ _ _).mono ?_; rintro e w' ⟨rfl, cs, rfl⟩))
  exact bodyPost_ret (v := .tuple #[.agg #[.int .i64 0, .int .i64 0, .int .i64 0, .int .i64 0, .int .i64 0, .int .i64 0], .int .i64 6]) (by go_light; simp [results, Tryd.results19, go_sem, *]) rfl ⟨rfl, (by repeat (first | with_reducible exact new0 _ | with_reducible apply New.alloc | (with_reducible refine New.setCell ?_ (by simp <;> omega) _) | (with_reducible refine New.trans ?_ hw1)))⟩
end Go.Proofs.YtacfjngnfgnmeaaDoor
