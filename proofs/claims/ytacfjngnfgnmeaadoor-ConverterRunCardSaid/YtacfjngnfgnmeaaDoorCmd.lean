/-
  What New and Command of a converter answer.
-/
import Derived.Test.YtacfjngnfgnmeaaDoorValid
namespace Go.Proofs.YtacfjngnfgnmeaaDoor
open Go.RowKit

theorem ncell {W w1 : World} (hb : New W w1) : (∀ b o, b < W.heap.size → w1.cell? ⟨b, o, none⟩ = W.cell? ⟨b, o, none⟩) ∧ (∀ b o, b < W.heap.size → w1.frozen? ⟨b, o, none⟩ = W.frozen? ⟨b, o, none⟩) :=
  ⟨fun b o h => Below.cell (p := ⟨b, o, none⟩) hb h, fun b o h => Below.frozen (p := ⟨b, o, none⟩) hb h⟩
theorem New.setCell {W w' : World} (h : New W w') {p : Addr} (hp : W.heap.size ≤ p.block) (u : Value) : New W (w'.setCell p u) := Below.setCell h hp u
theorem New.size {W w1 : World} (hb : New W w1) : W.heap.size ≤ w1.heap.size := Below.size hb

theorem setCell_twice (w : World) (blk off : Nat) (v v' : Value) : (w.setCell ⟨blk, off, none⟩ v).setCell ⟨blk, off, none⟩ v' = w.setCell ⟨blk, off, none⟩ v' := by
  unfold World.setCell
  congr 1
  apply Array.ext_getElem?
  intro k
  simp only [Array.getElem?_modify]
  by_cases hk : blk = k
  · simp only [hk, if_true]
    cases w.heap[k]? with
    | none => rfl
    | some o => cases o <;> simp
  · simp only [hk, if_false]
theorem cells6 {w w' : World} {a0 a1 a2 a3 a4 a5 : Value} {o : Obj} (hb : New ((w.alloc (.cells #[a0, a1, a2, a3, a4, a5] 23)).alloc o) w') :
    w'.cell? ⟨w.heap.size, 0, none⟩ = some a0 ∧ w'.cell? ⟨w.heap.size, 1, none⟩ = some a1 ∧ w'.cell? ⟨w.heap.size, 2, none⟩ = some a2 ∧ w'.cell? ⟨w.heap.size, 3, none⟩ = some a3 ∧ w'.cell? ⟨w.heap.size, 4, none⟩ = some a4 ∧ w'.cell? ⟨w.heap.size, 5, none⟩ = some a5 := by
  obtain ⟨hc, _⟩ := ncell hb
  refine ⟨?_, ?_, ?_, ?_, ?_, ?_⟩ <;> (rw [hc _ _ (by simp; omega)]; simp [go_sem])
theorem cells6b {w w' : World} {a0 a1 a2 a3 a4 a5 : Value} {o : Obj} (hb : New ((w.alloc o).alloc (.cells #[a0, a1, a2, a3, a4, a5] 23)) w') :
    w'.cell? ⟨w.heap.size + 1, 0, none⟩ = some a0 ∧ w'.cell? ⟨w.heap.size + 1, 1, none⟩ = some a1 ∧ w'.cell? ⟨w.heap.size + 1, 2, none⟩ = some a2 ∧ w'.cell? ⟨w.heap.size + 1, 3, none⟩ = some a3 ∧ w'.cell? ⟨w.heap.size + 1, 4, none⟩ = some a4 ∧ w'.cell? ⟨w.heap.size + 1, 5, none⟩ = some a5 := by
  obtain ⟨hc, _⟩ := ncell hb
  refine ⟨?_, ?_, ?_, ?_, ?_, ?_⟩ <;> (rw [hc _ _ (by simp)]; simp [go_sem])
theorem frozen2 {w w' : World} {cs ds : Array Value} (hb : New ((w.alloc (.cells cs 23)).alloc (.cells ds 23)) w') :
    (∀ o, w'.frozen? ⟨w.heap.size, o, none⟩ = false) ∧ (∀ o, w'.frozen? ⟨w.heap.size + 1, o, none⟩ = false) := by
  obtain ⟨_, hf⟩ := ncell hb
  exact ⟨fun o => by rw [hf _ _ (by simp; omega)]; simp [go_sem], fun o => by rw [hf _ _ (by simp)]; simp [go_sem]⟩

set_option maxHeartbeats 400000 in
theorem new_yes (mn mx st : Int) (w : World) (h : limB mn mx st = true) :
    Calls Tryd.prog 12 #[.int .i64 mn, .int .i64 mx, .int .i64 st] w fun e w' => e = .returned (.tuple #[.agg #[.int .i64 1, .int .i64 0, .int .i64 0, .int .i64 mn, .int .i64 mx, .int .i64 st], .int .i64 0]) ∧ New w w' := by
  go_enter Tryd.func12, Tryd.ntmps12
  go_wp2_with (go_at_call 32; refine (limits_any _ _ _ _).mono ?_; rintro e w' ⟨rfl, rfl⟩)
  exact bodyPost_ret (v := .tuple #[.agg #[.int .i64 1, .int .i64 0, .int .i64 0, .int .i64 mn, .int .i64 mx, .int .i64 st], .int .i64 0]) (by simp [results, Tryd.results12, go_sem]) rfl ⟨rfl, (by repeat (first | with_reducible exact new0 _ | with_reducible apply New.alloc | (with_reducible refine New.setCell ?_ (by simp <;> omega) _) | (with_reducible refine New.trans ?_ hw1)))⟩
set_option maxHeartbeats 400000 in
theorem cmd_1 (s cu tg mn mx st v : Int) (w : World) (hN : Nm w) (hv : valE s cu tg mn mx st = 0) (h : isaB s cu 1 = true) :
    Calls Tryd.prog 18 #[.agg #[.int .i64 s, .int .i64 cu, .int .i64 tg, .int .i64 mn, .int .i64 mx, .int .i64 st], .int .i64 1, .int .i64 v] w fun e w' => e = .returned (.tuple #[.agg #[.int .i64 2, .int .i64 cu, .int .i64 tg, .int .i64 mn, .int .i64 mx, .int .i64 st], .int .i64 0]) ∧ New w w' := by
  go_enter Tryd.func18, Tryd.ntmps18
  go_wp2_with (first | (go_at_call 14; refine (valid_any _ _ _ _ _ _ _ ((hN.alloc _).alloc _)).mono ?_; rintro e w' ⟨rfl, hw1⟩; obtain ⟨k0, k1, k2, k3, k4, k5⟩ := cells6 hw1; obtain ⟨l0, l1, l2, l3, l4, l5⟩ := cells6b hw1; obtain ⟨hf1, hf2⟩ := frozen2 hw1; have hz1 : w.heap.size + 1 < w'.heap.size := (by have := New.size hw1; simp at this; omega); have hz0 : w.heap.size < w'.heap.size := (by omega)) | (go_at_call 36; refine (isa_any _ _ _ _ _ _ _ _).mono ?_; rintro e w' ⟨rfl, cs, rfl⟩) | (go_at_call 34; refine (allows_any _ _ _ _ _ _ _ _).mono ?_; rintro e w' ⟨rfl, rfl⟩))
  exact bodyPost_ret (v := .tuple #[.agg #[.int .i64 2, .int .i64 cu, .int .i64 tg, .int .i64 mn, .int .i64 mx, .int .i64 st], .int .i64 0]) (by go_light; simp [results, Tryd.results18, go_sem, *]) rfl ⟨rfl, (by repeat (first | with_reducible exact new0 _ | with_reducible apply New.alloc | (with_reducible refine New.setCell ?_ (by simp <;> omega) _) | (with_reducible refine New.trans ?_ hw1)))⟩
set_option maxHeartbeats 400000 in
theorem cmd_2 (s cu tg mn mx st v : Int) (w : World) (hN : Nm w) (hv : valE s cu tg mn mx st = 0) (h : isaB s cu 2 = true) :
    Calls Tryd.prog 18 #[.agg #[.int .i64 s, .int .i64 cu, .int .i64 tg, .int .i64 mn, .int .i64 mx, .int .i64 st], .int .i64 2, .int .i64 v] w fun e w' => e = .returned (.tuple #[.agg #[.int .i64 3, .int .i64 cu, .int .i64 tg, .int .i64 mn, .int .i64 mx, .int .i64 st], .int .i64 0]) ∧ New w w' := by
  go_enter Tryd.func18, Tryd.ntmps18
  go_wp2_with (first | (go_at_call 14; refine (valid_any _ _ _ _ _ _ _ ((hN.alloc _).alloc _)).mono ?_; rintro e w' ⟨rfl, hw1⟩; obtain ⟨k0, k1, k2, k3, k4, k5⟩ := cells6 hw1; obtain ⟨l0, l1, l2, l3, l4, l5⟩ := cells6b hw1; obtain ⟨hf1, hf2⟩ := frozen2 hw1; have hz1 : w.heap.size + 1 < w'.heap.size := (by have := New.size hw1; simp at this; omega); have hz0 : w.heap.size < w'.heap.size := (by omega)) | (go_at_call 36; refine (isa_any _ _ _ _ _ _ _ _).mono ?_; rintro e w' ⟨rfl, cs, rfl⟩) | (go_at_call 34; refine (allows_any _ _ _ _ _ _ _ _).mono ?_; rintro e w' ⟨rfl, rfl⟩))
  exact bodyPost_ret (v := .tuple #[.agg #[.int .i64 3, .int .i64 cu, .int .i64 tg, .int .i64 mn, .int .i64 mx, .int .i64 st], .int .i64 0]) (by go_light; simp [results, Tryd.results18, go_sem, *]) rfl ⟨rfl, (by repeat (first | with_reducible exact new0 _ | with_reducible apply New.alloc | (with_reducible refine New.setCell ?_ (by simp <;> omega) _) | (with_reducible refine New.trans ?_ hw1)))⟩
set_option maxHeartbeats 400000 in
theorem cmd_3e (s cu tg mn mx st : Int) (w : World) (hN : Nm w) (hv : valE s cu tg mn mx st = 0) (h : isaB s cu 3 = true) (h3 : alwB mn mx cu = true) :
    Calls Tryd.prog 18 #[.agg #[.int .i64 s, .int .i64 cu, .int .i64 tg, .int .i64 mn, .int .i64 mx, .int .i64 st], .int .i64 3, .int .i64 cu] w fun e w' => e = .returned (.tuple #[.agg #[.int .i64 3, .int .i64 cu, .int .i64 cu, .int .i64 mn, .int .i64 mx, .int .i64 st], .int .i64 0]) ∧ New w w' := by
  have hss : ∀ (W : World) (X Y : Value), (W.setCell ⟨w.heap.size, 0, none⟩ X).setCell ⟨w.heap.size, 0, none⟩ Y = W.setCell ⟨w.heap.size, 0, none⟩ Y := fun W X Y => setCell_twice W _ _ X Y
  go_enter Tryd.func18, Tryd.ntmps18
  go_wp2_with (first | (go_at_call 14; refine (valid_any _ _ _ _ _ _ _ ((hN.alloc _).alloc _)).mono ?_; rintro e w' ⟨rfl, hw1⟩; obtain ⟨k0, k1, k2, k3, k4, k5⟩ := cells6 hw1; obtain ⟨l0, l1, l2, l3, l4, l5⟩ := cells6b hw1; obtain ⟨hf1, hf2⟩ := frozen2 hw1; have hz1 : w.heap.size + 1 < w'.heap.size := (by have := New.size hw1; simp at this; omega); have hz0 : w.heap.size < w'.heap.size := (by omega)) | (go_at_call 36; refine (isa_any _ _ _ _ _ _ _ _).mono ?_; rintro e w' ⟨rfl, cs, rfl⟩) | (go_at_call 34; refine (allows_any _ _ _ _ _ _ _ _).mono ?_; rintro e w' ⟨rfl, rfl⟩))
  exact bodyPost_ret (v := .tuple #[.agg #[.int .i64 3, .int .i64 cu, .int .i64 cu, .int .i64 mn, .int .i64 mx, .int .i64 st], .int .i64 0]) (by go_light; simp [results, Tryd.results18, go_sem, *]) rfl ⟨rfl, (by repeat (first | with_reducible exact new0 _ | with_reducible apply New.alloc | (with_reducible refine New.setCell ?_ (by simp <;> omega) _) | (with_reducible refine New.trans ?_ hw1)))⟩
set_option maxHeartbeats 400000 in
theorem cmd_3n (s cu tg mn mx st v : Int) (w : World) (hN : Nm w) (hv : valE s cu tg mn mx st = 0) (h : isaB s cu 3 = true) (h3 : alwB mn mx v = true) (hn : (v == cu) = false) :
    Calls Tryd.prog 18 #[.agg #[.int .i64 s, .int .i64 cu, .int .i64 tg, .int .i64 mn, .int .i64 mx, .int .i64 st], .int .i64 3, .int .i64 v] w fun e w' => e = .returned (.tuple #[.agg #[.int .i64 4, .int .i64 cu, .int .i64 v, .int .i64 mn, .int .i64 mx, .int .i64 st], .int .i64 0]) ∧ New w w' := by
  go_enter Tryd.func18, Tryd.ntmps18
  go_wp2_with (first | (go_at_call 14; refine (valid_any _ _ _ _ _ _ _ ((hN.alloc _).alloc _)).mono ?_; rintro e w' ⟨rfl, hw1⟩; obtain ⟨k0, k1, k2, k3, k4, k5⟩ := cells6 hw1; obtain ⟨l0, l1, l2, l3, l4, l5⟩ := cells6b hw1; obtain ⟨hf1, hf2⟩ := frozen2 hw1; have hz1 : w.heap.size + 1 < w'.heap.size := (by have := New.size hw1; simp at this; omega); have hz0 : w.heap.size < w'.heap.size := (by omega)) | (go_at_call 36; refine (isa_any _ _ _ _ _ _ _ _).mono ?_; rintro e w' ⟨rfl, cs, rfl⟩) | (go_at_call 34; refine (allows_any _ _ _ _ _ _ _ _).mono ?_; rintro e w' ⟨rfl, rfl⟩))
  exact bodyPost_ret (v := .tuple #[.agg #[.int .i64 4, .int .i64 cu, .int .i64 v, .int .i64 mn, .int .i64 mx, .int .i64 st], .int .i64 0]) (by go_light; simp [results, Tryd.results18, go_sem, *]) rfl ⟨rfl, (by repeat (first | with_reducible exact new0 _ | with_reducible apply New.alloc | (with_reducible refine New.setCell ?_ (by simp <;> omega) _) | (with_reducible refine New.trans ?_ hw1)))⟩
set_option maxHeartbeats 400000 in
theorem cmd_4s (cu tg mn mx st v : Int) (w : World) (hN : Nm w) (hv : valE 2 cu tg mn mx st = 0) (h : isaB 2 cu 4 = true) :
    Calls Tryd.prog 18 #[.agg #[.int .i64 2, .int .i64 cu, .int .i64 tg, .int .i64 mn, .int .i64 mx, .int .i64 st], .int .i64 4, .int .i64 v] w fun e w' => e = .returned (.tuple #[.agg #[.int .i64 1, .int .i64 cu, .int .i64 0, .int .i64 mn, .int .i64 mx, .int .i64 st], .int .i64 0]) ∧ New w w' := by
  go_enter Tryd.func18, Tryd.ntmps18
  go_wp2_with (first | (go_at_call 14; refine (valid_any _ _ _ _ _ _ _ ((hN.alloc _).alloc _)).mono ?_; rintro e w' ⟨rfl, hw1⟩; obtain ⟨k0, k1, k2, k3, k4, k5⟩ := cells6 hw1; obtain ⟨l0, l1, l2, l3, l4, l5⟩ := cells6b hw1; obtain ⟨hf1, hf2⟩ := frozen2 hw1; have hz1 : w.heap.size + 1 < w'.heap.size := (by have := New.size hw1; simp at this; omega); have hz0 : w.heap.size < w'.heap.size := (by omega)) | (go_at_call 36; refine (isa_any _ _ _ _ _ _ _ _).mono ?_; rintro e w' ⟨rfl, cs, rfl⟩) | (go_at_call 34; refine (allows_any _ _ _ _ _ _ _ _).mono ?_; rintro e w' ⟨rfl, rfl⟩))
  exact bodyPost_ret (v := .tuple #[.agg #[.int .i64 1, .int .i64 cu, .int .i64 0, .int .i64 mn, .int .i64 mx, .int .i64 st], .int .i64 0]) (by go_light; simp [results, Tryd.results18, go_sem, *]) rfl ⟨rfl, (by repeat (first | with_reducible exact new0 _ | with_reducible apply New.alloc | (with_reducible refine New.setCell ?_ (by simp <;> omega) _) | (with_reducible refine New.trans ?_ hw1)))⟩
set_option maxHeartbeats 400000 in
theorem cmd_4n (s cu tg mn mx st v : Int) (w : World) (hN : Nm w) (hv : valE s cu tg mn mx st = 0) (h : isaB s cu 4 = true) (hn : (s == 2) = false) :
    Calls Tryd.prog 18 #[.agg #[.int .i64 s, .int .i64 cu, .int .i64 tg, .int .i64 mn, .int .i64 mx, .int .i64 st], .int .i64 4, .int .i64 v] w fun e w' => e = .returned (.tuple #[.agg #[.int .i64 2, .int .i64 cu, .int .i64 0, .int .i64 mn, .int .i64 mx, .int .i64 st], .int .i64 0]) ∧ New w w' := by
  go_enter Tryd.func18, Tryd.ntmps18
  go_wp2_with (first | (go_at_call 14; refine (valid_any _ _ _ _ _ _ _ ((hN.alloc _).alloc _)).mono ?_; rintro e w' ⟨rfl, hw1⟩; obtain ⟨k0, k1, k2, k3, k4, k5⟩ := cells6 hw1; obtain ⟨l0, l1, l2, l3, l4, l5⟩ := cells6b hw1; obtain ⟨hf1, hf2⟩ := frozen2 hw1; have hz1 : w.heap.size + 1 < w'.heap.size := (by have := New.size hw1; simp at this; omega); have hz0 : w.heap.size < w'.heap.size := (by omega)) | (go_at_call 36; refine (isa_any _ _ _ _ _ _ _ _).mono ?_; rintro e w' ⟨rfl, cs, rfl⟩) | (go_at_call 34; refine (allows_any _ _ _ _ _ _ _ _).mono ?_; rintro e w' ⟨rfl, rfl⟩))
  exact bodyPost_ret (v := .tuple #[.agg #[.int .i64 2, .int .i64 cu, .int .i64 0, .int .i64 mn, .int .i64 mx, .int .i64 st], .int .i64 0]) (by go_light; simp [results, Tryd.results18, go_sem, *]) rfl ⟨rfl, (by repeat (first | with_reducible exact new0 _ | with_reducible apply New.alloc | (with_reducible refine New.setCell ?_ (by simp <;> omega) _) | (with_reducible refine New.trans ?_ hw1)))⟩
set_option maxHeartbeats 400000 in
theorem cmd_5 (s cu tg mn mx st v : Int) (w : World) (hN : Nm w) (hv : valE s cu tg mn mx st = 0) (h : isaB s cu 5 = true) :
    Calls Tryd.prog 18 #[.agg #[.int .i64 s, .int .i64 cu, .int .i64 tg, .int .i64 mn, .int .i64 mx, .int .i64 st], .int .i64 5, .int .i64 v] w fun e w' => e = .returned (.tuple #[.agg #[.int .i64 5, .int .i64 cu, .int .i64 0, .int .i64 mn, .int .i64 mx, .int .i64 st], .int .i64 0]) ∧ New w w' := by
  go_enter Tryd.func18, Tryd.ntmps18
  go_wp2_with (first | (go_at_call 14; refine (valid_any _ _ _ _ _ _ _ ((hN.alloc _).alloc _)).mono ?_; rintro e w' ⟨rfl, hw1⟩; obtain ⟨k0, k1, k2, k3, k4, k5⟩ := cells6 hw1; obtain ⟨l0, l1, l2, l3, l4, l5⟩ := cells6b hw1; obtain ⟨hf1, hf2⟩ := frozen2 hw1; have hz1 : w.heap.size + 1 < w'.heap.size := (by have := New.size hw1; simp at this; omega); have hz0 : w.heap.size < w'.heap.size := (by omega)) | (go_at_call 36; refine (isa_any _ _ _ _ _ _ _ _).mono ?_; rintro e w' ⟨rfl, cs, rfl⟩) | (go_at_call 34; refine (allows_any _ _ _ _ _ _ _ _).mono ?_; rintro e w' ⟨rfl, rfl⟩))
  exact bodyPost_ret (v := .tuple #[.agg #[.int .i64 5, .int .i64 cu, .int .i64 0, .int .i64 mn, .int .i64 mx, .int .i64 st], .int .i64 0]) (by go_light; simp [results, Tryd.results18, go_sem, *]) rfl ⟨rfl, (by repeat (first | with_reducible exact new0 _ | with_reducible apply New.alloc | (with_reducible refine New.setCell ?_ (by simp <;> omega) _) | (with_reducible refine New.trans ?_ hw1)))⟩
set_option maxHeartbeats 400000 in
theorem cmd_6 (s cu tg mn mx st v : Int) (w : World) (hN : Nm w) (hv : valE s cu tg mn mx st = 0) (h : isaB s cu 6 = true) :
    Calls Tryd.prog 18 #[.agg #[.int .i64 s, .int .i64 cu, .int .i64 tg, .int .i64 mn, .int .i64 mx, .int .i64 st], .int .i64 6, .int .i64 v] w fun e w' => e = .returned (.tuple #[.agg #[.int .i64 1, .int .i64 cu, .int .i64 tg, .int .i64 mn, .int .i64 mx, .int .i64 st], .int .i64 0]) ∧ New w w' := by
  go_enter Tryd.func18, Tryd.ntmps18
  go_wp2_with (first | (go_at_call 14; refine (valid_any _ _ _ _ _ _ _ ((hN.alloc _).alloc _)).mono ?_; rintro e w' ⟨rfl, hw1⟩; obtain ⟨k0, k1, k2, k3, k4, k5⟩ := cells6 hw1; obtain ⟨l0, l1, l2, l3, l4, l5⟩ := cells6b hw1; obtain ⟨hf1, hf2⟩ := frozen2 hw1; have hz1 : w.heap.size + 1 < w'.heap.size := (by have := New.size hw1; simp at this; omega); have hz0 : w.heap.size < w'.heap.size := (by omega)) | (go_at_call 36; refine (isa_any _ _ _ _ _ _ _ _).mono ?_; rintro e w' ⟨rfl, cs, rfl⟩) | (go_at_call 34; refine (allows_any _ _ _ _ _ _ _ _).mono ?_; rintro e w' ⟨rfl, rfl⟩))
  exact bodyPost_ret (v := .tuple #[.agg #[.int .i64 1, .int .i64 cu, .int .i64 tg, .int .i64 mn, .int .i64 mx, .int .i64 st], .int .i64 0]) (by go_light; simp [results, Tryd.results18, go_sem, *]) rfl ⟨rfl, (by repeat (first | with_reducible exact new0 _ | with_reducible apply New.alloc | (with_reducible refine New.setCell ?_ (by simp <;> omega) _) | (with_reducible refine New.trans ?_ hw1)))⟩
set_option maxHeartbeats 400000 in
theorem cmd_e1 (s cu tg mn mx st k v : Int) (w : World) (hN : Nm w) (hv : (valE s cu tg mn mx st != 0) = true) :
    Calls Tryd.prog 18 #[.agg #[.int .i64 s, .int .i64 cu, .int .i64 tg, .int .i64 mn, .int .i64 mx, .int .i64 st], .int .i64 k, .int .i64 v] w fun e w' => e = .returned (.tuple #[.agg #[.int .i64 0, .int .i64 0, .int .i64 0, .int .i64 0, .int .i64 0, .int .i64 0], .int .i64 (valE s cu tg mn mx st)]) ∧ New w w' := by
  go_enter Tryd.func18, Tryd.ntmps18
  go_wp2_with (first | (go_at_call 14; refine (valid_any _ _ _ _ _ _ _ ((hN.alloc _).alloc _)).mono ?_; rintro e w' ⟨rfl, hw1⟩; obtain ⟨k0, k1, k2, k3, k4, k5⟩ := cells6 hw1; obtain ⟨l0, l1, l2, l3, l4, l5⟩ := cells6b hw1; obtain ⟨hf1, hf2⟩ := frozen2 hw1; have hz1 : w.heap.size + 1 < w'.heap.size := (by have := New.size hw1; simp at this; omega); have hz0 : w.heap.size < w'.heap.size := (by omega)) | (go_at_call 36; refine (isa_any _ _ _ _ _ _ _ _).mono ?_; rintro e w' ⟨rfl, cs, rfl⟩) | (go_at_call 34; refine (allows_any _ _ _ _ _ _ _ _).mono ?_; rintro e w' ⟨rfl, rfl⟩))
  exact bodyPost_ret (v := .tuple #[.agg #[.int .i64 0, .int .i64 0, .int .i64 0, .int .i64 0, .int .i64 0, .int .i64 0], .int .i64 (valE s cu tg mn mx st)]) (by go_light; simp [results, Tryd.results18, go_sem, *]) rfl ⟨rfl, (by repeat (first | with_reducible exact new0 _ | with_reducible apply New.alloc | (with_reducible refine New.setCell ?_ (by simp <;> omega) _) | (with_reducible refine New.trans ?_ hw1)))⟩
set_option maxHeartbeats 400000 in
theorem cmd_e2a (s cu tg mn mx st k v : Int) (w : World) (hN : Nm w) (hv : valE s cu tg mn mx st = 0) (h : k < 1) :
    Calls Tryd.prog 18 #[.agg #[.int .i64 s, .int .i64 cu, .int .i64 tg, .int .i64 mn, .int .i64 mx, .int .i64 st], .int .i64 k, .int .i64 v] w fun e w' => e = .returned (.tuple #[.agg #[.int .i64 0, .int .i64 0, .int .i64 0, .int .i64 0, .int .i64 0, .int .i64 0], .int .i64 1]) ∧ New w w' := by
  go_enter Tryd.func18, Tryd.ntmps18
  go_wp2_with (first | (go_at_call 14; refine (valid_any _ _ _ _ _ _ _ ((hN.alloc _).alloc _)).mono ?_; rintro e w' ⟨rfl, hw1⟩; obtain ⟨k0, k1, k2, k3, k4, k5⟩ := cells6 hw1; obtain ⟨l0, l1, l2, l3, l4, l5⟩ := cells6b hw1; obtain ⟨hf1, hf2⟩ := frozen2 hw1; have hz1 : w.heap.size + 1 < w'.heap.size := (by have := New.size hw1; simp at this; omega); have hz0 : w.heap.size < w'.heap.size := (by omega)) | (go_at_call 36; refine (isa_any _ _ _ _ _ _ _ _).mono ?_; rintro e w' ⟨rfl, cs, rfl⟩) | (go_at_call 34; refine (allows_any _ _ _ _ _ _ _ _).mono ?_; rintro e w' ⟨rfl, rfl⟩))
  exact bodyPost_ret (v := .tuple #[.agg #[.int .i64 0, .int .i64 0, .int .i64 0, .int .i64 0, .int .i64 0, .int .i64 0], .int .i64 1]) (by go_light; simp [results, Tryd.results18, go_sem, *]) rfl ⟨rfl, (by repeat (first | with_reducible exact new0 _ | with_reducible apply New.alloc | (with_reducible refine New.setCell ?_ (by simp <;> omega) _) | (with_reducible refine New.trans ?_ hw1)))⟩
set_option maxHeartbeats 400000 in
theorem cmd_e2b (s cu tg mn mx st k v : Int) (w : World) (hN : Nm w) (hv : valE s cu tg mn mx st = 0) (h : 6 < k) (h' : ¬ k < 1) :
    Calls Tryd.prog 18 #[.agg #[.int .i64 s, .int .i64 cu, .int .i64 tg, .int .i64 mn, .int .i64 mx, .int .i64 st], .int .i64 k, .int .i64 v] w fun e w' => e = .returned (.tuple #[.agg #[.int .i64 0, .int .i64 0, .int .i64 0, .int .i64 0, .int .i64 0, .int .i64 0], .int .i64 1]) ∧ New w w' := by
  go_enter Tryd.func18, Tryd.ntmps18
  go_wp2_with (first | (go_at_call 14; refine (valid_any _ _ _ _ _ _ _ ((hN.alloc _).alloc _)).mono ?_; rintro e w' ⟨rfl, hw1⟩; obtain ⟨k0, k1, k2, k3, k4, k5⟩ := cells6 hw1; obtain ⟨l0, l1, l2, l3, l4, l5⟩ := cells6b hw1; obtain ⟨hf1, hf2⟩ := frozen2 hw1; have hz1 : w.heap.size + 1 < w'.heap.size := (by have := New.size hw1; simp at this; omega); have hz0 : w.heap.size < w'.heap.size := (by omega)) | (go_at_call 36; refine (isa_any _ _ _ _ _ _ _ _).mono ?_; rintro e w' ⟨rfl, cs, rfl⟩) | (go_at_call 34; refine (allows_any _ _ _ _ _ _ _ _).mono ?_; rintro e w' ⟨rfl, rfl⟩))
  exact bodyPost_ret (v := .tuple #[.agg #[.int .i64 0, .int .i64 0, .int .i64 0, .int .i64 0, .int .i64 0, .int .i64 0], .int .i64 1]) (by go_light; simp [results, Tryd.results18, go_sem, *]) rfl ⟨rfl, (by repeat (first | with_reducible exact new0 _ | with_reducible apply New.alloc | (with_reducible refine New.setCell ?_ (by simp <;> omega) _) | (with_reducible refine New.trans ?_ hw1)))⟩
set_option maxHeartbeats 400000 in
theorem cmd_e3 (s cu tg mn mx st k v : Int) (w : World) (hN : Nm w) (hv : valE s cu tg mn mx st = 0) (ha : 1 ≤ k) (hb : k ≤ 6) (h : isaB s cu k = false) :
    Calls Tryd.prog 18 #[.agg #[.int .i64 s, .int .i64 cu, .int .i64 tg, .int .i64 mn, .int .i64 mx, .int .i64 st], .int .i64 k, .int .i64 v] w fun e w' => e = .returned (.tuple #[.agg #[.int .i64 0, .int .i64 0, .int .i64 0, .int .i64 0, .int .i64 0, .int .i64 0], .int .i64 8]) ∧ New w w' := by
  go_enter Tryd.func18, Tryd.ntmps18
  go_wp2_with (first | (go_at_call 14; refine (valid_any _ _ _ _ _ _ _ ((hN.alloc _).alloc _)).mono ?_; rintro e w' ⟨rfl, hw1⟩; obtain ⟨k0, k1, k2, k3, k4, k5⟩ := cells6 hw1; obtain ⟨l0, l1, l2, l3, l4, l5⟩ := cells6b hw1; obtain ⟨hf1, hf2⟩ := frozen2 hw1; have hz1 : w.heap.size + 1 < w'.heap.size := (by have := New.size hw1; simp at this; omega); have hz0 : w.heap.size < w'.heap.size := (by omega)) | (go_at_call 36; refine (isa_any _ _ _ _ _ _ _ _).mono ?_; rintro e w' ⟨rfl, cs, rfl⟩) | (go_at_call 34; refine (allows_any _ _ _ _ _ _ _ _).mono ?_; rintro e w' ⟨rfl, rfl⟩))
  exact bodyPost_ret (v := .tuple #[.agg #[.int .i64 0, .int .i64 0, .int .i64 0, .int .i64 0, .int .i64 0, .int .i64 0], .int .i64 8]) (by go_light; simp [results, Tryd.results18, go_sem, *]) rfl ⟨rfl, (by repeat (first | with_reducible exact new0 _ | with_reducible apply New.alloc | (with_reducible refine New.setCell ?_ (by simp <;> omega) _) | (with_reducible refine New.trans ?_ hw1)))⟩
set_option maxHeartbeats 400000 in
theorem cmd_e4 (s cu tg mn mx st v : Int) (w : World) (hN : Nm w) (hv : valE s cu tg mn mx st = 0) (h : isaB s cu 3 = true) (h3 : alwB mn mx v = false) :
    Calls Tryd.prog 18 #[.agg #[.int .i64 s, .int .i64 cu, .int .i64 tg, .int .i64 mn, .int .i64 mx, .int .i64 st], .int .i64 3, .int .i64 v] w fun e w' => e = .returned (.tuple #[.agg #[.int .i64 0, .int .i64 0, .int .i64 0, .int .i64 0, .int .i64 0, .int .i64 0], .int .i64 6]) ∧ New w w' := by
  go_enter Tryd.func18, Tryd.ntmps18
  go_wp2_with (first | (go_at_call 14; refine (valid_any _ _ _ _ _ _ _ ((hN.alloc _).alloc _)).mono ?_; rintro e w' ⟨rfl, hw1⟩; obtain ⟨k0, k1, k2, k3, k4, k5⟩ := cells6 hw1; obtain ⟨l0, l1, l2, l3, l4, l5⟩ := cells6b hw1; obtain ⟨hf1, hf2⟩ := frozen2 hw1; have hz1 : w.heap.size + 1 < w'.heap.size := (by have := New.size hw1; simp at this; omega); have hz0 : w.heap.size < w'.heap.size := (by omega)) | (go_at_call 36; refine (isa_any _ _ _ _ _ _ _ _).mono ?_; rintro e w' ⟨rfl, cs, rfl⟩) | (go_at_call 34; refine (allows_any _ _ _ _ _ _ _ _).mono ?_; rintro e w' ⟨rfl, rfl⟩))
  exact bodyPost_ret (v := .tuple #[.agg #[.int .i64 0, .int .i64 0, .int .i64 0, .int .i64 0, .int .i64 0, .int .i64 0], .int .i64 6]) (by go_light; simp [results, Tryd.results18, go_sem, *]) rfl ⟨rfl, (by repeat (first | with_reducible exact new0 _ | with_reducible apply New.alloc | (with_reducible refine New.setCell ?_ (by simp <;> omega) _) | (with_reducible refine New.trans ?_ hw1)))⟩
end Go.Proofs.YtacfjngnfgnmeaaDoor
