/-
  The walk of the statement ConverterValid.
-/
import Derived.Test.YtacfjngnfgnmeaaDoorLaws
namespace Go.Proofs.YtacfjngnfgnmeaaDoor
open Go.RowKit

theorem keep18 {W W' : World} {p q r : Nat} {x0 x1 x2 x3 x4 x5 y0 y1 y2 y3 y4 y5 u0 u1 u2 u3 u4 u5 : Int} (h1 : Blk W p x0 x1 x2 x3 x4 x5) (h2 : Blk W q y0 y1 y2 y3 y4 y5) (h3 : Blk W r u0 u1 u2 u3 u4 u5) (hn : New W W') (hp : p < W.heap.size) (hq : q < W.heap.size) (hr : r < W.heap.size) :
    W'.cell? ⟨p, 0, none⟩ = some (.int .i64 x0) ∧ W'.cell? ⟨p, 1, none⟩ = some (.int .i64 x1) ∧ W'.cell? ⟨p, 2, none⟩ = some (.int .i64 x2) ∧ W'.cell? ⟨p, 3, none⟩ = some (.int .i64 x3) ∧ W'.cell? ⟨p, 4, none⟩ = some (.int .i64 x4) ∧ W'.cell? ⟨p, 5, none⟩ = some (.int .i64 x5) ∧ W'.cell? ⟨q, 0, none⟩ = some (.int .i64 y0) ∧ W'.cell? ⟨q, 1, none⟩ = some (.int .i64 y1) ∧ W'.cell? ⟨q, 2, none⟩ = some (.int .i64 y2) ∧ W'.cell? ⟨q, 3, none⟩ = some (.int .i64 y3) ∧ W'.cell? ⟨q, 4, none⟩ = some (.int .i64 y4) ∧ W'.cell? ⟨q, 5, none⟩ = some (.int .i64 y5) ∧ W'.cell? ⟨r, 0, none⟩ = some (.int .i64 u0) ∧ W'.cell? ⟨r, 1, none⟩ = some (.int .i64 u1) ∧ W'.cell? ⟨r, 2, none⟩ = some (.int .i64 u2) ∧ W'.cell? ⟨r, 3, none⟩ = some (.int .i64 u3) ∧ W'.cell? ⟨r, 4, none⟩ = some (.int .i64 u4) ∧ W'.cell? ⟨r, 5, none⟩ = some (.int .i64 u5) := by
  obtain ⟨a0, a1, a2, a3, a4, a5, _⟩ := h1.new hn hp
  obtain ⟨b0, b1, b2, b3, b4, b5, _⟩ := h2.new hn hq
  obtain ⟨c0, c1, c2, c3, c4, c5, _⟩ := h3.new hn hr
  exact ⟨a0, a1, a2, a3, a4, a5, b0, b1, b2, b3, b4, b5, c0, c1, c2, c3, c4, c5⟩
set_option maxHeartbeats 3200000 in
theorem law_valid_yes (s cu tg mn mx st n : Int) (w : World) (hN : Nm w) (h : limB mn mx st = true) :
    Calls Tryd.prog 3 #[.agg #[.int .i64 s, .int .i64 cu, .int .i64 tg, .int .i64 mn, .int .i64 mx, .int .i64 st], .int .i64 n] w fun e w' => e = .returned (.bool true) ∧ New w w' := by
  have HN := Lib.hid hN
  clear hN
  have HB0 := Lib.hid (Blk.alloc w s cu tg mn mx st)
  go_enter Tryd.func3, Tryd.ntmps3
  go_wp2_with fail
  refine (awake_any _ (HN.out.new ((new0 _).alloc _))).mono ?_
  rintro e w1 ⟨rfl, h1⟩
  have B0 : Blk w1 w.heap.size s cu tg mn mx st := HB0.out.new h1 (by simp)
  have z1 : w.heap.size < w1.heap.size := by have := New.size h1; (try simp at this); omega
  have H1 := Lib.hid (New.trans ((new0 w).alloc _) h1)
  clear h1
  obtain ⟨k0, k1, k2, k3, k4, k5, kf⟩ := B0
  have HE := Lib.hid h
  clear h
  go_wp2_with fail
  refine (new_yes _ _ _ _ HE.out).mono ?_
  rintro e w2 ⟨rfl, h2⟩
  have B0 : Blk w2 w.heap.size s cu tg mn mx st := Blk.new (by refine ⟨?_, ?_, ?_, ?_, ?_, ?_, fun o => ?_⟩ <;> (go_light; simp [go_sem, *])) h2 (by first | omega | (simp; done) | (simp; omega))
  have z2 : w.heap.size < w2.heap.size := by have := New.size h2; (try simp at this); omega
  have H2 := Lib.hid (New.trans (by repeat (first | with_reducible exact new0 _ | with_reducible apply New.alloc | (with_reducible refine New.setCell ?_ (by simp <;> omega) _) | (with_reducible refine New.trans ?_ H1.out))) h2 : New w w2)
  clear h2 k0 k1 k2 k3 k4 k5 kf
  obtain ⟨k0, k1, k2, k3, k4, k5, kf⟩ := B0
  go_wp2_with fail
  refine (rnew_yes _ _ _ _ HE.out).mono ?_
  rintro e w3 ⟨rfl, h3⟩
  have B0 : Blk w3 w.heap.size s cu tg mn mx st := Blk.new (by refine ⟨?_, ?_, ?_, ?_, ?_, ?_, fun o => ?_⟩ <;> (go_light; simp [go_sem, *])) h3 (by first | omega | (simp; done) | (simp; omega))
  have B1 : Blk w3 w2.heap.size 1 0 0 mn mx st := Blk.new (by refine ⟨?_, ?_, ?_, ?_, ?_, ?_, fun o => ?_⟩ <;> (go_light; simp [go_sem, *])) h3 (by simp)
  have z3 : w.heap.size < w3.heap.size := by have := New.size h3; (try simp at this); omega
  have z32 : w2.heap.size < w3.heap.size := by have := New.size h3; (try simp at this); omega
  have H3 := Lib.hid (New.trans (by repeat (first | with_reducible exact new0 _ | with_reducible apply New.alloc | (with_reducible refine New.setCell ?_ (by simp <;> omega) _) | (with_reducible refine New.trans ?_ H2.out))) h3 : New w w3)
  have HB0 := Lib.hid B0
  have HB1 := Lib.hid B1
  clear h3 k0 k1 k2 k3 k4 k5 kf
  obtain ⟨k0, k1, k2, k3, k4, k5, kf⟩ := B0
  obtain ⟨l0, l1, l2, l3, l4, l5, lf⟩ := B1
  go_wp2_with fail
  have hW : ∃ W : World, W = w3.alloc (.cells #[.int .i64 1, .int .i64 0, .int .i64 0, .int .i64 mn, .int .i64 mx, .int .i64 st] 23) := ⟨_, rfl⟩
  obtain ⟨W, hW⟩ := hW
  have hW' : New w3 W := by rw [hW]; exact (new0 _).alloc _
  have C0 := HB0.out.new hW' z3
  have C1 := HB1.out.new hW' z32
  have C2 : Blk W w3.heap.size 1 0 0 mn mx st := by rw [hW]; exact Blk.alloc _ _ _ _ _ _ _
  have y0 : w.heap.size < W.heap.size := by rw [hW]; simp; omega
  have y1 : w2.heap.size < W.heap.size := by rw [hW]; simp; omega
  have y2 : w3.heap.size < W.heap.size := by rw [hW]; simp
  have HW := Lib.hid (New.trans H3.out hW')
  have HC0 := Lib.hid C0
  have HC1 := Lib.hid C1
  have HC2 := Lib.hid C2
  have KN := Lib.hid (HN.out.new HW.out)
  obtain ⟨a0, a1, a2, a3, a4, a5, af⟩ := C0
  obtain ⟨b0, b1, b2, b3, b4, b5, bf⟩ := C1
  obtain ⟨c0, c1, c2, c3, c4, c5, cf⟩ := C2
  rw [← hW]
  clear hW hW' k0 k1 k2 k3 k4 k5 kf l0 l1 l2 l3 l4 l5 lf z1 z2 z3 z32
  go_region_held3 (fun w' => w'.cell? ⟨w.heap.size, 0, none⟩ = some (.int .i64 s) ∧ w'.cell? ⟨w.heap.size, 1, none⟩ = some (.int .i64 cu) ∧ w'.cell? ⟨w.heap.size, 2, none⟩ = some (.int .i64 tg) ∧ w'.cell? ⟨w.heap.size, 3, none⟩ = some (.int .i64 mn) ∧ w'.cell? ⟨w.heap.size, 4, none⟩ = some (.int .i64 mx) ∧ w'.cell? ⟨w.heap.size, 5, none⟩ = some (.int .i64 st) ∧ w'.cell? ⟨w2.heap.size, 0, none⟩ = some (.int .i64 1) ∧ w'.cell? ⟨w2.heap.size, 1, none⟩ = some (.int .i64 0) ∧ w'.cell? ⟨w2.heap.size, 2, none⟩ = some (.int .i64 0) ∧ w'.cell? ⟨w2.heap.size, 3, none⟩ = some (.int .i64 mn) ∧ w'.cell? ⟨w2.heap.size, 4, none⟩ = some (.int .i64 mx) ∧ w'.cell? ⟨w2.heap.size, 5, none⟩ = some (.int .i64 st) ∧ w'.cell? ⟨w3.heap.size, 0, none⟩ = some (.int .i64 1) ∧ w'.cell? ⟨w3.heap.size, 1, none⟩ = some (.int .i64 0) ∧ w'.cell? ⟨w3.heap.size, 2, none⟩ = some (.int .i64 0) ∧ w'.cell? ⟨w3.heap.size, 3, none⟩ = some (.int .i64 mn) ∧ w'.cell? ⟨w3.heap.size, 4, none⟩ = some (.int .i64 mx) ∧ w'.cell? ⟨w3.heap.size, 5, none⟩ = some (.int .i64 st))
    (((with_reducible refine keep18 HC0.out HC1.out HC2.out ?_ y0 y1 y2); repeat (first | (with_reducible exact new0 _) | (with_reducible apply New.alloc) | (with_reducible apply New.drew) | (with_reducible refine New.trans ?_ H5.out) | (with_reducible refine New.trans ?_ H4.out))))
    (first
      | (go_at_call 14; (with_reducible refine (valid_any _ _ _ _ _ _ _ (KN.out.new (by repeat (first | (with_reducible exact new0 _) | (with_reducible apply New.alloc) | (with_reducible apply New.drew) | (with_reducible refine New.trans ?_ H5.out) | (with_reducible refine New.trans ?_ H4.out))))).mono ?_); rintro e w4 ⟨rfl, h4⟩; have H4 := Lib.hid h4; clear h4)
      | (go_at_call 15; (with_reducible refine (rvalid_any _ _ _ _ _ _ _).mono ?_); rintro e w5 ⟨rfl, h5⟩; have H5 := Lib.hid h5; clear h5)
      | (go_at_call 16; (with_reducible refine (name_any _ _ (KN.out.new (by repeat (first | (with_reducible exact new0 _) | (with_reducible apply New.alloc) | (with_reducible apply New.drew) | (with_reducible refine New.trans ?_ H5.out) | (with_reducible refine New.trans ?_ H4.out))))).mono ?_); rintro e w6 ⟨rfl, rfl⟩)
      | (go_at_call 17; (with_reducible refine (rname_any _ _).mono ?_); rintro e w6 ⟨rfl, rfl⟩))
  all_goals go_wp2
  all_goals go_ret
  all_goals exact ⟨rfl, New.trans HW.out (by repeat (first | (with_reducible exact new0 _) | (with_reducible apply New.alloc) | (with_reducible apply New.drew) | (with_reducible refine New.trans ?_ H5.out) | (with_reducible refine New.trans ?_ H4.out)))⟩
set_option maxHeartbeats 3200000 in
theorem law_valid_no (s cu tg mn mx st n : Int) (w : World) (hN : Nm w) (h : limB mn mx st = false) :
    Calls Tryd.prog 3 #[.agg #[.int .i64 s, .int .i64 cu, .int .i64 tg, .int .i64 mn, .int .i64 mx, .int .i64 st], .int .i64 n] w fun e w' => e = .returned (.bool true) ∧ New w w' := by
  have HN := Lib.hid hN
  clear hN
  have HB0 := Lib.hid (Blk.alloc w s cu tg mn mx st)
  go_enter Tryd.func3, Tryd.ntmps3
  go_wp2_with fail
  refine (awake_any _ (HN.out.new ((new0 _).alloc _))).mono ?_
  rintro e w1 ⟨rfl, h1⟩
  have B0 : Blk w1 w.heap.size s cu tg mn mx st := HB0.out.new h1 (by simp)
  have z1 : w.heap.size < w1.heap.size := by have := New.size h1; (try simp at this); omega
  have H1 := Lib.hid (New.trans ((new0 w).alloc _) h1)
  clear h1
  obtain ⟨k0, k1, k2, k3, k4, k5, kf⟩ := B0
  have HE := Lib.hid h
  clear h
  go_wp2_with fail
  refine (new_no _ _ _ _ HE.out).mono ?_
  rintro e w2 ⟨rfl, h2⟩
  have B0 : Blk w2 w.heap.size s cu tg mn mx st := Blk.new (by refine ⟨?_, ?_, ?_, ?_, ?_, ?_, fun o => ?_⟩ <;> (go_light; simp [go_sem, *])) h2 (by first | omega | (simp; done) | (simp; omega))
  have z2 : w.heap.size < w2.heap.size := by have := New.size h2; (try simp at this); omega
  have H2 := Lib.hid (New.trans (by repeat (first | with_reducible exact new0 _ | with_reducible apply New.alloc | (with_reducible refine New.setCell ?_ (by simp <;> omega) _) | (with_reducible refine New.trans ?_ H1.out))) h2 : New w w2)
  clear h2 k0 k1 k2 k3 k4 k5 kf
  obtain ⟨k0, k1, k2, k3, k4, k5, kf⟩ := B0
  go_wp2_with fail
  refine (rnew_no _ _ _ _ HE.out).mono ?_
  rintro e w3 ⟨rfl, h3⟩
  have B0 : Blk w3 w.heap.size s cu tg mn mx st := Blk.new (by refine ⟨?_, ?_, ?_, ?_, ?_, ?_, fun o => ?_⟩ <;> (go_light; simp [go_sem, *])) h3 (by first | omega | (simp; done) | (simp; omega))
  have B1 : Blk w3 w2.heap.size 0 0 0 0 0 0 := Blk.new (by refine ⟨?_, ?_, ?_, ?_, ?_, ?_, fun o => ?_⟩ <;> (go_light; simp [go_sem, *])) h3 (by simp)
  have z3 : w.heap.size < w3.heap.size := by have := New.size h3; (try simp at this); omega
  have z32 : w2.heap.size < w3.heap.size := by have := New.size h3; (try simp at this); omega
  have H3 := Lib.hid (New.trans (by repeat (first | with_reducible exact new0 _ | with_reducible apply New.alloc | (with_reducible refine New.setCell ?_ (by simp <;> omega) _) | (with_reducible refine New.trans ?_ H2.out))) h3 : New w w3)
  have HB0 := Lib.hid B0
  have HB1 := Lib.hid B1
  clear h3 k0 k1 k2 k3 k4 k5 kf
  obtain ⟨k0, k1, k2, k3, k4, k5, kf⟩ := B0
  obtain ⟨l0, l1, l2, l3, l4, l5, lf⟩ := B1
  go_wp2_with fail
  have hW : ∃ W : World, W = w3.alloc (.cells #[.int .i64 0, .int .i64 0, .int .i64 0, .int .i64 0, .int .i64 0, .int .i64 0] 23) := ⟨_, rfl⟩
  obtain ⟨W, hW⟩ := hW
  have hW' : New w3 W := by rw [hW]; exact (new0 _).alloc _
  have C0 := HB0.out.new hW' z3
  have C1 := HB1.out.new hW' z32
  have C2 : Blk W w3.heap.size 0 0 0 0 0 0 := by rw [hW]; exact Blk.alloc _ _ _ _ _ _ _
  have y0 : w.heap.size < W.heap.size := by rw [hW]; simp; omega
  have y1 : w2.heap.size < W.heap.size := by rw [hW]; simp; omega
  have y2 : w3.heap.size < W.heap.size := by rw [hW]; simp
  have HW := Lib.hid (New.trans H3.out hW')
  have HC0 := Lib.hid C0
  have HC1 := Lib.hid C1
  have HC2 := Lib.hid C2
  have KN := Lib.hid (HN.out.new HW.out)
  obtain ⟨a0, a1, a2, a3, a4, a5, af⟩ := C0
  obtain ⟨b0, b1, b2, b3, b4, b5, bf⟩ := C1
  obtain ⟨c0, c1, c2, c3, c4, c5, cf⟩ := C2
  rw [← hW]
  clear hW hW' k0 k1 k2 k3 k4 k5 kf l0 l1 l2 l3 l4 l5 lf z1 z2 z3 z32
  go_region_held3 (fun w' => w'.cell? ⟨w.heap.size, 0, none⟩ = some (.int .i64 s) ∧ w'.cell? ⟨w.heap.size, 1, none⟩ = some (.int .i64 cu) ∧ w'.cell? ⟨w.heap.size, 2, none⟩ = some (.int .i64 tg) ∧ w'.cell? ⟨w.heap.size, 3, none⟩ = some (.int .i64 mn) ∧ w'.cell? ⟨w.heap.size, 4, none⟩ = some (.int .i64 mx) ∧ w'.cell? ⟨w.heap.size, 5, none⟩ = some (.int .i64 st) ∧ w'.cell? ⟨w2.heap.size, 0, none⟩ = some (.int .i64 0) ∧ w'.cell? ⟨w2.heap.size, 1, none⟩ = some (.int .i64 0) ∧ w'.cell? ⟨w2.heap.size, 2, none⟩ = some (.int .i64 0) ∧ w'.cell? ⟨w2.heap.size, 3, none⟩ = some (.int .i64 0) ∧ w'.cell? ⟨w2.heap.size, 4, none⟩ = some (.int .i64 0) ∧ w'.cell? ⟨w2.heap.size, 5, none⟩ = some (.int .i64 0) ∧ w'.cell? ⟨w3.heap.size, 0, none⟩ = some (.int .i64 0) ∧ w'.cell? ⟨w3.heap.size, 1, none⟩ = some (.int .i64 0) ∧ w'.cell? ⟨w3.heap.size, 2, none⟩ = some (.int .i64 0) ∧ w'.cell? ⟨w3.heap.size, 3, none⟩ = some (.int .i64 0) ∧ w'.cell? ⟨w3.heap.size, 4, none⟩ = some (.int .i64 0) ∧ w'.cell? ⟨w3.heap.size, 5, none⟩ = some (.int .i64 0))
    (((with_reducible refine keep18 HC0.out HC1.out HC2.out ?_ y0 y1 y2); repeat (first | (with_reducible exact new0 _) | (with_reducible apply New.alloc) | (with_reducible apply New.drew) | (with_reducible refine New.trans ?_ H5.out) | (with_reducible refine New.trans ?_ H4.out))))
    (first
      | (go_at_call 14; (with_reducible refine (valid_any _ _ _ _ _ _ _ (KN.out.new (by repeat (first | (with_reducible exact new0 _) | (with_reducible apply New.alloc) | (with_reducible apply New.drew) | (with_reducible refine New.trans ?_ H5.out) | (with_reducible refine New.trans ?_ H4.out))))).mono ?_); rintro e w4 ⟨rfl, h4⟩; have H4 := Lib.hid h4; clear h4)
      | (go_at_call 15; (with_reducible refine (rvalid_any _ _ _ _ _ _ _).mono ?_); rintro e w5 ⟨rfl, h5⟩; have H5 := Lib.hid h5; clear h5)
      | (go_at_call 16; (with_reducible refine (name_any _ _ (KN.out.new (by repeat (first | (with_reducible exact new0 _) | (with_reducible apply New.alloc) | (with_reducible apply New.drew) | (with_reducible refine New.trans ?_ H5.out) | (with_reducible refine New.trans ?_ H4.out))))).mono ?_); rintro e w6 ⟨rfl, rfl⟩)
      | (go_at_call 17; (with_reducible refine (rname_any _ _).mono ?_); rintro e w6 ⟨rfl, rfl⟩))
  all_goals go_wp2
  all_goals go_ret
  all_goals exact ⟨rfl, New.trans HW.out (by repeat (first | (with_reducible exact new0 _) | (with_reducible apply New.alloc) | (with_reducible apply New.drew) | (with_reducible refine New.trans ?_ H5.out) | (with_reducible refine New.trans ?_ H4.out)))⟩
theorem law_valid (s cu tg mn mx st n : Int) (w : World) (hN : Nm w) :
    Calls Tryd.prog 3 #[.agg #[.int .i64 s, .int .i64 cu, .int .i64 tg, .int .i64 mn, .int .i64 mx, .int .i64 st], .int .i64 n] w fun e w' => e = .returned (.bool true) ∧ New w w' := by
  by_cases h : limB mn mx st = true
  · exact law_valid_yes _ _ _ _ _ _ _ w hN h
  · exact law_valid_no _ _ _ _ _ _ _ w hN (by simpa using h)
end Go.Proofs.YtacfjngnfgnmeaaDoor
