/-
  The chapter's example, which every statement of this layer opens with, is answered as the chapter says.
-/
import Derived.Test.YtacfjngnfgnmeaaDoorRrun
namespace Go.Proofs.YtacfjngnfgnmeaaDoor
open Go.RowKit

theorem Nm.new {w w' : World} (h : Nm w) (hb : New w w') : Nm w' := h.below hb
def aK : Nat → Int := fun i => if i = 0 then 1 else if i = 1 then 2 else if i = 2 then 3 else 0
def aV : Nat → Int := fun i => if i = 2 then 700 else if i = 3 then 2 else 0
theorem a_run (b : Nat) (w : World) (hN : Nm w) (hS : Stps w b 0 4 aK aV) :
    Calls Tryd.prog 24 #[.agg #[.int .i64 1, .int .i64 0, .int .i64 0, .int .i64 0, .int .i64 1000, .int .i64 300], .slice (some ⟨b, 0, none⟩) 4 4] w fun e w' =>
      e = .returned (.tuple #[.agg #[.int .i64 4, .int .i64 600, .int .i64 700, .int .i64 0, .int .i64 1000, .int .i64 300], .int .i64 (-1), .int .i64 0]) ∧ New w w' := by
  have h := run_any ⟨1, 0, 0⟩ 0 1000 300 b 0 4 4 aK aV w hN (by decide) (by decide) hS
  rw [show (runC 0 1000 300 aK aV ⟨1, 0, 0⟩ 4).s = 4 by decide +kernel, show (runC 0 1000 300 aK aV ⟨1, 0, 0⟩ 4).cu = 600 by decide +kernel, show (runC 0 1000 300 aK aV ⟨1, 0, 0⟩ 4).tg = 700 by decide +kernel, show runI 0 1000 300 aK aV ⟨1, 0, 0⟩ 4 = -1 by decide +kernel] at h
  exact h
theorem a_new (w : World) : Calls Tryd.prog 12 #[.int .i64 0, .int .i64 1000, .int .i64 300] w fun e w' => e = .returned (.tuple #[.agg #[.int .i64 1, .int .i64 0, .int .i64 0, .int .i64 0, .int .i64 1000, .int .i64 300], .int .i64 0]) ∧ New w w' := new_yes _ _ _ w (by decide)
theorem a_tick (w : World) (hN : Nm w) : Calls Tryd.prog 20 #[.agg #[.int .i64 4, .int .i64 600, .int .i64 700, .int .i64 0, .int .i64 1000, .int .i64 300], .int .i64 1] w fun e w' => e = .returned (.tuple #[.agg #[.int .i64 3, .int .i64 700, .int .i64 700, .int .i64 0, .int .i64 1000, .int .i64 300], .int .i64 0]) ∧ New w w' := tick_a 600 700 0 1000 300 1 w hN (by decide) (by decide) (by decide) (by decide)
theorem a_trip (w : World) (hN : Nm w) : Calls Tryd.prog 18 #[.agg #[.int .i64 3, .int .i64 700, .int .i64 700, .int .i64 0, .int .i64 1000, .int .i64 300], .int .i64 5, .int .i64 0] w fun e w' => e = .returned (.tuple #[.agg #[.int .i64 5, .int .i64 700, .int .i64 0, .int .i64 0, .int .i64 1000, .int .i64 300], .int .i64 0]) ∧ New w w' := cmd_5 3 700 700 0 1000 300 0 w hN (by decide) (by decide)
theorem a_reset (w : World) (hN : Nm w) : Calls Tryd.prog 18 #[.agg #[.int .i64 5, .int .i64 700, .int .i64 0, .int .i64 0, .int .i64 1000, .int .i64 300], .int .i64 6, .int .i64 0] w fun e w' => e = .returned (.tuple #[.agg #[.int .i64 0, .int .i64 0, .int .i64 0, .int .i64 0, .int .i64 0, .int .i64 0], .int .i64 8]) ∧ New w w' := cmd_e3 5 700 0 0 1000 300 6 0 w hN (by decide) (by decide) (by decide) (by decide)
theorem a_rem (w : World) (hN : Nm w) : Calls Tryd.prog 22 #[.agg #[.int .i64 5, .int .i64 700, .int .i64 0, .int .i64 0, .int .i64 1000, .int .i64 300]] w fun e w' => e = .returned (.tuple #[.int .i64 3, .int .i64 0]) ∧ New w w' := remq_ok 5 700 0 0 1000 300 w hN (by decide)

set_option maxHeartbeats 800000 in
theorem awake_any (w : World) (hN : Nm w) : Calls Tryd.prog 11 #[] w fun e w' => e = .returned (.bool true) ∧ New w w' := by
  have HN := Lib.hid hN
  clear hN
  go_enter Tryd.func11, Tryd.ntmps11
  go_wp2_with fail
  refine (a_new _).mono ?_
  rintro e w1 ⟨rfl, h1⟩
  have H1 := Lib.hid h1
  have z1 : w.heap.size ≤ w1.heap.size := New.size h1
  clear h1
  go_wp2_with fail
  refine (a_run _ _ (HN.out.new (by repeat (first | with_reducible exact new0 _ | with_reducible apply New.alloc | (with_reducible refine New.setCell ?_ (by simp <;> omega) _) | (with_reducible refine New.trans ?_ H1.out)))) ⟨by simp, fun j hj => by
    have : j = 0 ∨ j = 1 ∨ j = 2 ∨ j = 3 := by omega
    rcases this with rfl | rfl | rfl | rfl <;> simp [go_sem, aK, aV]⟩).mono ?_
  rintro e w2 ⟨rfl, h2⟩
  have B1 : Blk w2 w1.heap.size 1 0 0 0 1000 300 := Blk.new (by refine ⟨?_, ?_, ?_, ?_, ?_, ?_, fun o => ?_⟩ <;> (go_light; simp [go_sem, *])) h2 (by simp; omega)
  have z2 : w1.heap.size + 1 < w2.heap.size := by have := New.size h2; simp at this; omega
  have z20 : w1.heap.size < w2.heap.size := by omega
  have H2 := Lib.hid h2
  clear h2
  obtain ⟨k0, k1, k2, k3, k4, k5, kf⟩ := B1
  go_wp2_with fail
  refine (a_tick _ (HN.out.new (by repeat (first | with_reducible exact new0 _ | with_reducible apply New.alloc | (with_reducible refine New.setCell ?_ (by simp <;> omega) _) | (with_reducible refine New.trans ?_ H1.out) | (with_reducible refine New.trans ?_ H2.out))))).mono ?_
  rintro e w3 ⟨rfl, h3⟩
  have B1 : Blk w3 w1.heap.size 4 600 700 0 1000 300 := Blk.new (by refine ⟨?_, ?_, ?_, ?_, ?_, ?_, fun o => ?_⟩ <;> (go_light; simp [go_sem, *])) h3 (by simp; omega)
  have z3 : w1.heap.size < w3.heap.size := by have := New.size h3; simp at this; omega
  have H3 := Lib.hid h3
  clear h3 k0 k1 k2 k3 k4 k5 kf
  obtain ⟨k0, k1, k2, k3, k4, k5, kf⟩ := B1
  go_wp2_with fail
  refine (a_trip _ (HN.out.new (by repeat (first | with_reducible exact new0 _ | with_reducible apply New.alloc | (with_reducible refine New.setCell ?_ (by simp <;> omega) _) | (with_reducible refine New.trans ?_ H1.out) | (with_reducible refine New.trans ?_ H2.out) | (with_reducible refine New.trans ?_ H3.out))))).mono ?_
  rintro e w4 ⟨rfl, h4⟩
  have B1 : Blk w4 w1.heap.size 4 600 700 0 1000 300 := Blk.new (by refine ⟨?_, ?_, ?_, ?_, ?_, ?_, fun o => ?_⟩ <;> (go_light; simp [go_sem, *])) h4 (by simp; omega)
  have B5 : Blk w4 w3.heap.size 3 700 700 0 1000 300 := Blk.new (by refine ⟨?_, ?_, ?_, ?_, ?_, ?_, fun o => ?_⟩ <;> (go_light; simp [go_sem, *])) h4 (by simp)
  have z4 : w3.heap.size < w4.heap.size := by have := New.size h4; simp at this; omega
  have z41 : w1.heap.size < w4.heap.size := by omega
  have H4 := Lib.hid h4
  clear h4 k0 k1 k2 k3 k4 k5 kf
  obtain ⟨k0, k1, k2, k3, k4, k5, kf⟩ := B1
  obtain ⟨l0, l1, l2, l3, l4, l5, lf⟩ := B5
  go_wp2_with fail
  refine (a_reset _ (HN.out.new (by repeat (first | with_reducible exact new0 _ | with_reducible apply New.alloc | (with_reducible refine New.setCell ?_ (by simp <;> omega) _) | (with_reducible refine New.trans ?_ H1.out) | (with_reducible refine New.trans ?_ H2.out) | (with_reducible refine New.trans ?_ H3.out) | (with_reducible refine New.trans ?_ H4.out))))).mono ?_
  rintro e w5 ⟨rfl, h5⟩
  have B1 : Blk w5 w1.heap.size 4 600 700 0 1000 300 := Blk.new (by refine ⟨?_, ?_, ?_, ?_, ?_, ?_, fun o => ?_⟩ <;> (go_light; simp [go_sem, *])) h5 (by simp; omega)
  have B5 : Blk w5 w3.heap.size 3 700 700 0 1000 300 := Blk.new (by refine ⟨?_, ?_, ?_, ?_, ?_, ?_, fun o => ?_⟩ <;> (go_light; simp [go_sem, *])) h5 (by simp; omega)
  have B7 : Blk w5 w4.heap.size 5 700 0 0 1000 300 := Blk.new (by refine ⟨?_, ?_, ?_, ?_, ?_, ?_, fun o => ?_⟩ <;> (go_light; simp [go_sem, *])) h5 (by simp)
  have z5 : w4.heap.size < w5.heap.size := by have := New.size h5; simp at this; omega
  have z51 : w1.heap.size < w5.heap.size := by omega
  have z53 : w3.heap.size < w5.heap.size := by omega
  have H5 := Lib.hid h5
  clear h5 k0 k1 k2 k3 k4 k5 kf l0 l1 l2 l3 l4 l5 lf
  obtain ⟨k0, k1, k2, k3, k4, k5, kf⟩ := B1
  obtain ⟨l0, l1, l2, l3, l4, l5, lf⟩ := B5
  obtain ⟨m0, m1, m2, m3, m4, m5, mf⟩ := B7
  go_wp2_with fail
  refine (a_rem _ (HN.out.new (by repeat (first | with_reducible exact new0 _ | with_reducible apply New.alloc | (with_reducible refine New.setCell ?_ (by simp <;> omega) _) | (with_reducible refine New.trans ?_ H1.out) | (with_reducible refine New.trans ?_ H2.out) | (with_reducible refine New.trans ?_ H3.out) | (with_reducible refine New.trans ?_ H4.out) | (with_reducible refine New.trans ?_ H5.out))))).mono ?_
  rintro e w6 ⟨rfl, h6⟩
  have B1 : Blk w6 w1.heap.size 4 600 700 0 1000 300 := Blk.new (by refine ⟨?_, ?_, ?_, ?_, ?_, ?_, fun o => ?_⟩ <;> (go_light; simp [go_sem, *])) h6 (by simp; omega)
  have B5 : Blk w6 w3.heap.size 3 700 700 0 1000 300 := Blk.new (by refine ⟨?_, ?_, ?_, ?_, ?_, ?_, fun o => ?_⟩ <;> (go_light; simp [go_sem, *])) h6 (by simp; omega)
  have H6 := Lib.hid h6
  clear h6 k0 k1 k2 k3 k4 k5 kf l0 l1 l2 l3 l4 l5 lf
  obtain ⟨k0, k1, k2, k3, k4, k5, kf⟩ := B1
  obtain ⟨l0, l1, l2, l3, l4, l5, lf⟩ := B5
  go_wp2
  go_ret
  exact ⟨rfl, (by repeat (first | with_reducible exact new0 _ | with_reducible apply New.alloc | (with_reducible refine New.setCell ?_ (by simp <;> omega) _) | (with_reducible refine New.trans ?_ H1.out) | (with_reducible refine New.trans ?_ H2.out) | (with_reducible refine New.trans ?_ H3.out) | (with_reducible refine New.trans ?_ H4.out) | (with_reducible refine New.trans ?_ H5.out) | (with_reducible refine New.trans ?_ H6.out)))⟩
end Go.Proofs.YtacfjngnfgnmeaaDoor
