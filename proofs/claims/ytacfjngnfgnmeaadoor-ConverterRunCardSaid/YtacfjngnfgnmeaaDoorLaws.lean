/-
  The walks of the statements ConverterCommand and ConverterTick.
-/
import Derived.Test.YtacfjngnfgnmeaaDoorAwake
namespace Go.Proofs.YtacfjngnfgnmeaaDoor
open Go.RowKit

set_option maxHeartbeats 1600000 in
theorem law_cmd_ok (s cu tg mn mx st k v : Int) (w : World) (hN : Nm w) (h : cmdE s cu tg mn mx st k v = 0) :
    Calls Tryd.prog 4 #[.agg #[.int .i64 s, .int .i64 cu, .int .i64 tg, .int .i64 mn, .int .i64 mx, .int .i64 st], .int .i64 k, .int .i64 v] w fun e w' => e = .returned (.bool true) ∧ New w w' := by
  have HN := Lib.hid hN
  clear hN
  have HB0 := Lib.hid (Blk.alloc w s cu tg mn mx st)
  go_enter Tryd.func4, Tryd.ntmps4
  go_wp2_with fail
  refine (awake_any _ (HN.out.new ((new0 _).alloc _))).mono ?_
  rintro e w1 ⟨rfl, h1⟩
  have B0 : Blk w1 w.heap.size s cu tg mn mx st := HB0.out.new h1 (by simp)
  have z1 : w.heap.size < w1.heap.size := by have := New.size h1; (try simp at this); omega
  have H1 := Lib.hid (New.trans ((new0 w).alloc _) h1)
  clear h1
  obtain ⟨k0, k1, k2, k3, k4, k5, kf⟩ := B0
  have HE := Lib.hid h
  skip
  clear h
  go_wp2_with fail
  refine (cmd_ok _ _ _ _ _ _ _ _ _ (HN.out.new (by repeat (first | with_reducible exact new0 _ | with_reducible apply New.alloc | (with_reducible refine New.setCell ?_ (by simp <;> omega) _) | (with_reducible refine New.trans ?_ H1.out)))) HE.out).mono ?_
  rintro e w2 ⟨rfl, h2⟩
  have B0 : Blk w2 w.heap.size s cu tg mn mx st := Blk.new (by refine ⟨?_, ?_, ?_, ?_, ?_, ?_, fun o => ?_⟩ <;> (go_light; simp [go_sem, *])) h2 (by first | omega | (simp; done) | (simp; omega))
  have z2 : w.heap.size < w2.heap.size := by have := New.size h2; (try simp at this); omega
  have H2 := Lib.hid (New.trans (by repeat (first | with_reducible exact new0 _ | with_reducible apply New.alloc | (with_reducible refine New.setCell ?_ (by simp <;> omega) _) | (with_reducible refine New.trans ?_ H1.out))) h2 : New w w2)
  clear h2 k0 k1 k2 k3 k4 k5 kf
  obtain ⟨k0, k1, k2, k3, k4, k5, kf⟩ := B0
  go_wp2_with fail
  refine (rcmd_ok _ _ _ _ _ _ _ _ _ HE.out).mono ?_
  rintro e w3 ⟨rfl, h3⟩
  have B0 : Blk w3 w.heap.size s cu tg mn mx st := Blk.new (by refine ⟨?_, ?_, ?_, ?_, ?_, ?_, fun o => ?_⟩ <;> (go_light; simp [go_sem, *])) h3 (by first | omega | (simp; done) | (simp; omega))
  have B1 : Blk w3 w2.heap.size (cmdS s cu k v) cu (cmdT tg k v) mn mx st := Blk.new (by refine ⟨?_, ?_, ?_, ?_, ?_, ?_, fun o => ?_⟩ <;> (go_light; simp [go_sem, *])) h3 (by simp)
  have z3 : w.heap.size < w3.heap.size := by have := New.size h3; (try simp at this); omega
  have z32 : w2.heap.size < w3.heap.size := by have := New.size h3; (try simp at this); omega
  have H3 := Lib.hid (New.trans (by repeat (first | with_reducible exact new0 _ | with_reducible apply New.alloc | (with_reducible refine New.setCell ?_ (by simp <;> omega) _) | (with_reducible refine New.trans ?_ H2.out))) h3 : New w w3)
  clear h3 k0 k1 k2 k3 k4 k5 kf
  obtain ⟨k0, k1, k2, k3, k4, k5, kf⟩ := B0
  obtain ⟨l0, l1, l2, l3, l4, l5, lf⟩ := B1
  go_wp2_with fail
  have hv' := cmd_valid HE.out
  have HV := Lib.hid hv'
  clear hv'
  refine (valid_any _ _ _ _ _ _ _ (HN.out.new (by repeat (first | with_reducible exact new0 _ | with_reducible apply New.alloc | (with_reducible refine New.setCell ?_ (by simp <;> omega) _) | (with_reducible refine New.trans ?_ H3.out))))).mono ?_
  rintro e w4 ⟨rfl, h4⟩
  have H4 := Lib.hid (New.trans (by repeat (first | with_reducible exact new0 _ | with_reducible apply New.alloc | (with_reducible refine New.setCell ?_ (by simp <;> omega) _) | (with_reducible refine New.trans ?_ H3.out))) h4 : New w w4)
  clear h4
  rw [HV.out]
  go_wp2
  go_ret
  exact ⟨rfl, (by repeat (first | with_reducible exact new0 _ | with_reducible apply New.alloc | (with_reducible refine New.setCell ?_ (by simp <;> omega) _) | (with_reducible refine New.trans ?_ H4.out)))⟩
set_option maxHeartbeats 1600000 in
theorem law_cmd_err (s cu tg mn mx st k v : Int) (w : World) (hN : Nm w) (h : cmdE s cu tg mn mx st k v ≠ 0) :
    Calls Tryd.prog 4 #[.agg #[.int .i64 s, .int .i64 cu, .int .i64 tg, .int .i64 mn, .int .i64 mx, .int .i64 st], .int .i64 k, .int .i64 v] w fun e w' => e = .returned (.bool true) ∧ New w w' := by
  have HN := Lib.hid hN
  clear hN
  have HB0 := Lib.hid (Blk.alloc w s cu tg mn mx st)
  go_enter Tryd.func4, Tryd.ntmps4
  go_wp2_with fail
  refine (awake_any _ (HN.out.new ((new0 _).alloc _))).mono ?_
  rintro e w1 ⟨rfl, h1⟩
  have B0 : Blk w1 w.heap.size s cu tg mn mx st := HB0.out.new h1 (by simp)
  have z1 : w.heap.size < w1.heap.size := by have := New.size h1; (try simp at this); omega
  have H1 := Lib.hid (New.trans ((new0 w).alloc _) h1)
  clear h1
  obtain ⟨k0, k1, k2, k3, k4, k5, kf⟩ := B0
  have HE := Lib.hid h
  have he : (cmdE s cu tg mn mx st k v != 0) = true := by simpa using h
  clear h
  go_wp2_with fail
  refine (cmd_err _ _ _ _ _ _ _ _ _ (HN.out.new (by repeat (first | with_reducible exact new0 _ | with_reducible apply New.alloc | (with_reducible refine New.setCell ?_ (by simp <;> omega) _) | (with_reducible refine New.trans ?_ H1.out)))) HE.out).mono ?_
  rintro e w2 ⟨rfl, h2⟩
  have B0 : Blk w2 w.heap.size s cu tg mn mx st := Blk.new (by refine ⟨?_, ?_, ?_, ?_, ?_, ?_, fun o => ?_⟩ <;> (go_light; simp [go_sem, *])) h2 (by first | omega | (simp; done) | (simp; omega))
  have z2 : w.heap.size < w2.heap.size := by have := New.size h2; (try simp at this); omega
  have H2 := Lib.hid (New.trans (by repeat (first | with_reducible exact new0 _ | with_reducible apply New.alloc | (with_reducible refine New.setCell ?_ (by simp <;> omega) _) | (with_reducible refine New.trans ?_ H1.out))) h2 : New w w2)
  clear h2 k0 k1 k2 k3 k4 k5 kf
  obtain ⟨k0, k1, k2, k3, k4, k5, kf⟩ := B0
  go_wp2_with fail
  refine (rcmd_err _ _ _ _ _ _ _ _ _ HE.out).mono ?_
  rintro e w3 ⟨rfl, h3⟩
  have B0 : Blk w3 w.heap.size s cu tg mn mx st := Blk.new (by refine ⟨?_, ?_, ?_, ?_, ?_, ?_, fun o => ?_⟩ <;> (go_light; simp [go_sem, *])) h3 (by first | omega | (simp; done) | (simp; omega))
  have B1 : Blk w3 w2.heap.size 0 0 0 0 0 0 := Blk.new (by refine ⟨?_, ?_, ?_, ?_, ?_, ?_, fun o => ?_⟩ <;> (go_light; simp [go_sem, *])) h3 (by simp)
  have z3 : w.heap.size < w3.heap.size := by have := New.size h3; (try simp at this); omega
  have z32 : w2.heap.size < w3.heap.size := by have := New.size h3; (try simp at this); omega
  have H3 := Lib.hid (New.trans (by repeat (first | with_reducible exact new0 _ | with_reducible apply New.alloc | (with_reducible refine New.setCell ?_ (by simp <;> omega) _) | (with_reducible refine New.trans ?_ H2.out))) h3 : New w w3)
  clear h3 k0 k1 k2 k3 k4 k5 kf
  obtain ⟨k0, k1, k2, k3, k4, k5, kf⟩ := B0
  obtain ⟨l0, l1, l2, l3, l4, l5, lf⟩ := B1
  go_wp2
  go_ret
  exact ⟨rfl, (by repeat (first | with_reducible exact new0 _ | with_reducible apply New.alloc | (with_reducible refine New.setCell ?_ (by simp <;> omega) _) | (with_reducible refine New.trans ?_ H3.out)))⟩
set_option maxHeartbeats 1600000 in
theorem law_tick_ok (s cu tg mn mx st n : Int) (w : World) (hN : Nm w) (h : tickE s cu tg mn mx st n = 0) :
    Calls Tryd.prog 5 #[.agg #[.int .i64 s, .int .i64 cu, .int .i64 tg, .int .i64 mn, .int .i64 mx, .int .i64 st], .int .i64 n] w fun e w' => e = .returned (.bool true) ∧ New w w' := by
  have HN := Lib.hid hN
  clear hN
  have HB0 := Lib.hid (Blk.alloc w s cu tg mn mx st)
  go_enter Tryd.func5, Tryd.ntmps5
  go_wp2_with fail
  refine (awake_any _ (HN.out.new ((new0 _).alloc _))).mono ?_
  rintro e w1 ⟨rfl, h1⟩
  have B0 : Blk w1 w.heap.size s cu tg mn mx st := HB0.out.new h1 (by simp)
  have z1 : w.heap.size < w1.heap.size := by have := New.size h1; (try simp at this); omega
  have H1 := Lib.hid (New.trans ((new0 w).alloc _) h1)
  clear h1
  obtain ⟨k0, k1, k2, k3, k4, k5, kf⟩ := B0
  have HE := Lib.hid h
  have HZ := Lib.hid (tickE_ok h).1
  clear h
  go_wp2_with fail
  refine (tick_ok _ _ _ _ _ _ _ _ (HN.out.new (by repeat (first | with_reducible exact new0 _ | with_reducible apply New.alloc | (with_reducible refine New.setCell ?_ (by simp <;> omega) _) | (with_reducible refine New.trans ?_ H1.out)))) HE.out).mono ?_
  rintro e w2 ⟨rfl, h2⟩
  have B0 : Blk w2 w.heap.size s cu tg mn mx st := Blk.new (by refine ⟨?_, ?_, ?_, ?_, ?_, ?_, fun o => ?_⟩ <;> (go_light; simp [go_sem, *])) h2 (by first | omega | (simp; done) | (simp; omega))
  have z2 : w.heap.size < w2.heap.size := by have := New.size h2; (try simp at this); omega
  have H2 := Lib.hid (New.trans (by repeat (first | with_reducible exact new0 _ | with_reducible apply New.alloc | (with_reducible refine New.setCell ?_ (by simp <;> omega) _) | (with_reducible refine New.trans ?_ H1.out))) h2 : New w w2)
  clear h2 k0 k1 k2 k3 k4 k5 kf
  obtain ⟨k0, k1, k2, k3, k4, k5, kf⟩ := B0
  go_wp2_with fail
  refine (rtick_ok _ _ _ _ _ _ _ _ HE.out).mono ?_
  rintro e w3 ⟨rfl, h3⟩
  have B0 : Blk w3 w.heap.size s cu tg mn mx st := Blk.new (by refine ⟨?_, ?_, ?_, ?_, ?_, ?_, fun o => ?_⟩ <;> (go_light; simp [go_sem, *])) h3 (by first | omega | (simp; done) | (simp; omega))
  have B1 : Blk w3 w2.heap.size (tickS s cu tg st n) (tickC cu tg st n) tg mn mx st := Blk.new (by refine ⟨?_, ?_, ?_, ?_, ?_, ?_, fun o => ?_⟩ <;> (go_light; simp [go_sem, *])) h3 (by simp)
  have z3 : w.heap.size < w3.heap.size := by have := New.size h3; (try simp at this); omega
  have z32 : w2.heap.size < w3.heap.size := by have := New.size h3; (try simp at this); omega
  have H3 := Lib.hid (New.trans (by repeat (first | with_reducible exact new0 _ | with_reducible apply New.alloc | (with_reducible refine New.setCell ?_ (by simp <;> omega) _) | (with_reducible refine New.trans ?_ H2.out))) h3 : New w w3)
  clear h3 k0 k1 k2 k3 k4 k5 kf
  obtain ⟨k0, k1, k2, k3, k4, k5, kf⟩ := B0
  obtain ⟨l0, l1, l2, l3, l4, l5, lf⟩ := B1
  go_wp2_with fail
  refine (remq_ok _ _ _ _ _ _ _ (HN.out.new (by repeat (first | with_reducible exact new0 _ | with_reducible apply New.alloc | (with_reducible refine New.setCell ?_ (by simp <;> omega) _) | (with_reducible refine New.trans ?_ H3.out)))) HZ.out).mono ?_
  rintro e w4 ⟨rfl, h4⟩
  have B0 : Blk w4 w.heap.size s cu tg mn mx st := Blk.new (by refine ⟨?_, ?_, ?_, ?_, ?_, ?_, fun o => ?_⟩ <;> (go_light; simp [go_sem, *])) h4 (by first | omega | (simp; done) | (simp; omega))
  have B1 : Blk w4 w2.heap.size (tickS s cu tg st n) (tickC cu tg st n) tg mn mx st := Blk.new (by refine ⟨?_, ?_, ?_, ?_, ?_, ?_, fun o => ?_⟩ <;> (go_light; simp [go_sem, *])) h4 (by first | omega | (simp; done) | (simp; omega))
  have B2 : Blk w4 w3.heap.size (tickS s cu tg st n) (tickC cu tg st n) tg mn mx st := Blk.new (by refine ⟨?_, ?_, ?_, ?_, ?_, ?_, fun o => ?_⟩ <;> (go_light; simp [go_sem, *])) h4 (by first | omega | (simp; done) | (simp; omega))
  have z4 : w.heap.size < w4.heap.size := by have := New.size h4; (try simp at this); omega
  have z42 : w2.heap.size < w4.heap.size := by have := New.size h4; (try simp at this); omega
  have z43 : w3.heap.size < w4.heap.size := by have := New.size h4; (try simp at this); omega
  have H4 := Lib.hid (New.trans (by repeat (first | with_reducible exact new0 _ | with_reducible apply New.alloc | (with_reducible refine New.setCell ?_ (by simp <;> omega) _) | (with_reducible refine New.trans ?_ H3.out))) h4 : New w w4)
  clear h4 k0 k1 k2 k3 k4 k5 kf l0 l1 l2 l3 l4 l5 lf 
  obtain ⟨k0, k1, k2, k3, k4, k5, kf⟩ := B0
  obtain ⟨l0, l1, l2, l3, l4, l5, lf⟩ := B1
  obtain ⟨m0, m1, m2, m3, m4, m5, mf⟩ := B2
  go_wp2_with fail
  refine (rremq_ok _ _ _ _ _ _ _ HZ.out).mono ?_
  rintro e w5 ⟨rfl, h5⟩
  have B0 : Blk w5 w.heap.size s cu tg mn mx st := Blk.new (by refine ⟨?_, ?_, ?_, ?_, ?_, ?_, fun o => ?_⟩ <;> (go_light; simp [go_sem, *])) h5 (by first | omega | (simp; done) | (simp; omega))
  have B1 : Blk w5 w2.heap.size (tickS s cu tg st n) (tickC cu tg st n) tg mn mx st := Blk.new (by refine ⟨?_, ?_, ?_, ?_, ?_, ?_, fun o => ?_⟩ <;> (go_light; simp [go_sem, *])) h5 (by first | omega | (simp; done) | (simp; omega))
  have B2 : Blk w5 w3.heap.size (tickS s cu tg st n) (tickC cu tg st n) tg mn mx st := Blk.new (by refine ⟨?_, ?_, ?_, ?_, ?_, ?_, fun o => ?_⟩ <;> (go_light; simp [go_sem, *])) h5 (by first | omega | (simp; done) | (simp; omega))
  have z5 : w.heap.size < w5.heap.size := by have := New.size h5; (try simp at this); omega
  have z52 : w2.heap.size < w5.heap.size := by have := New.size h5; (try simp at this); omega
  have z53 : w3.heap.size < w5.heap.size := by have := New.size h5; (try simp at this); omega
  have H5 := Lib.hid (New.trans (by repeat (first | with_reducible exact new0 _ | with_reducible apply New.alloc | (with_reducible refine New.setCell ?_ (by simp <;> omega) _) | (with_reducible refine New.trans ?_ H4.out))) h5 : New w w5)
  clear h5 k0 k1 k2 k3 k4 k5 kf l0 l1 l2 l3 l4 l5 lf m0 m1 m2 m3 m4 m5 mf
  obtain ⟨k0, k1, k2, k3, k4, k5, kf⟩ := B0
  obtain ⟨l0, l1, l2, l3, l4, l5, lf⟩ := B1
  obtain ⟨m0, m1, m2, m3, m4, m5, mf⟩ := B2
  go_wp2_with fail
  have hv' := tick_valid HE.out
  have HV := Lib.hid hv'
  clear hv'
  refine (valid_any _ _ _ _ _ _ _ (HN.out.new (by repeat (first | with_reducible exact new0 _ | with_reducible apply New.alloc | (with_reducible refine New.setCell ?_ (by simp <;> omega) _) | (with_reducible refine New.trans ?_ H5.out))))).mono ?_
  rintro e w6 ⟨rfl, h6⟩
  have H6 := Lib.hid (New.trans (by repeat (first | with_reducible exact new0 _ | with_reducible apply New.alloc | (with_reducible refine New.setCell ?_ (by simp <;> omega) _) | (with_reducible refine New.trans ?_ H5.out))) h6 : New w w6)
  clear h6
  rw [HV.out]
  go_wp2
  go_ret
  exact ⟨rfl, (by repeat (first | with_reducible exact new0 _ | with_reducible apply New.alloc | (with_reducible refine New.setCell ?_ (by simp <;> omega) _) | (with_reducible refine New.trans ?_ H6.out)))⟩
set_option maxHeartbeats 1600000 in
theorem law_tick_err1 (s cu tg mn mx st n : Int) (w : World) (hN : Nm w) (h : tickE s cu tg mn mx st n ≠ 0) (h1 : valE s cu tg mn mx st ≠ 0) :
    Calls Tryd.prog 5 #[.agg #[.int .i64 s, .int .i64 cu, .int .i64 tg, .int .i64 mn, .int .i64 mx, .int .i64 st], .int .i64 n] w fun e w' => e = .returned (.bool true) ∧ New w w' := by
  have HN := Lib.hid hN
  clear hN
  have HB0 := Lib.hid (Blk.alloc w s cu tg mn mx st)
  go_enter Tryd.func5, Tryd.ntmps5
  go_wp2_with fail
  refine (awake_any _ (HN.out.new ((new0 _).alloc _))).mono ?_
  rintro e w1 ⟨rfl, h1⟩
  have B0 : Blk w1 w.heap.size s cu tg mn mx st := HB0.out.new h1 (by simp)
  have z1 : w.heap.size < w1.heap.size := by have := New.size h1; (try simp at this); omega
  have H1 := Lib.hid (New.trans ((new0 w).alloc _) h1)
  clear h1
  obtain ⟨k0, k1, k2, k3, k4, k5, kf⟩ := B0
  have HE := Lib.hid h
  have he : (tickE s cu tg mn mx st n != 0) = true := by simpa using h
  have HZ := Lib.hid (show (valE s cu tg mn mx st != 0) = true by simpa using h1)
  clear h1
  clear h
  go_wp2_with fail
  refine (tick_err _ _ _ _ _ _ _ _ (HN.out.new (by repeat (first | with_reducible exact new0 _ | with_reducible apply New.alloc | (with_reducible refine New.setCell ?_ (by simp <;> omega) _) | (with_reducible refine New.trans ?_ H1.out)))) HE.out).mono ?_
  rintro e w2 ⟨rfl, h2⟩
  have B0 : Blk w2 w.heap.size s cu tg mn mx st := Blk.new (by refine ⟨?_, ?_, ?_, ?_, ?_, ?_, fun o => ?_⟩ <;> (go_light; simp [go_sem, *])) h2 (by first | omega | (simp; done) | (simp; omega))
  have z2 : w.heap.size < w2.heap.size := by have := New.size h2; (try simp at this); omega
  have H2 := Lib.hid (New.trans (by repeat (first | with_reducible exact new0 _ | with_reducible apply New.alloc | (with_reducible refine New.setCell ?_ (by simp <;> omega) _) | (with_reducible refine New.trans ?_ H1.out))) h2 : New w w2)
  clear h2 k0 k1 k2 k3 k4 k5 kf
  obtain ⟨k0, k1, k2, k3, k4, k5, kf⟩ := B0
  go_wp2_with fail
  refine (rtick_err _ _ _ _ _ _ _ _ HE.out).mono ?_
  rintro e w3 ⟨rfl, h3⟩
  have B0 : Blk w3 w.heap.size s cu tg mn mx st := Blk.new (by refine ⟨?_, ?_, ?_, ?_, ?_, ?_, fun o => ?_⟩ <;> (go_light; simp [go_sem, *])) h3 (by first | omega | (simp; done) | (simp; omega))
  have B1 : Blk w3 w2.heap.size 0 0 0 0 0 0 := Blk.new (by refine ⟨?_, ?_, ?_, ?_, ?_, ?_, fun o => ?_⟩ <;> (go_light; simp [go_sem, *])) h3 (by simp)
  have z3 : w.heap.size < w3.heap.size := by have := New.size h3; (try simp at this); omega
  have z32 : w2.heap.size < w3.heap.size := by have := New.size h3; (try simp at this); omega
  have H3 := Lib.hid (New.trans (by repeat (first | with_reducible exact new0 _ | with_reducible apply New.alloc | (with_reducible refine New.setCell ?_ (by simp <;> omega) _) | (with_reducible refine New.trans ?_ H2.out))) h3 : New w w3)
  clear h3 k0 k1 k2 k3 k4 k5 kf
  obtain ⟨k0, k1, k2, k3, k4, k5, kf⟩ := B0
  obtain ⟨l0, l1, l2, l3, l4, l5, lf⟩ := B1
  go_wp2_with fail
  refine (remq_err _ _ _ _ _ _ _ (HN.out.new (by repeat (first | with_reducible exact new0 _ | with_reducible apply New.alloc | (with_reducible refine New.setCell ?_ (by simp <;> omega) _) | (with_reducible refine New.trans ?_ H3.out)))) HZ.out).mono ?_
  rintro e w4 ⟨rfl, h4⟩
  have B0 : Blk w4 w.heap.size s cu tg mn mx st := Blk.new (by refine ⟨?_, ?_, ?_, ?_, ?_, ?_, fun o => ?_⟩ <;> (go_light; simp [go_sem, *])) h4 (by first | omega | (simp; done) | (simp; omega))
  have B1 : Blk w4 w2.heap.size 0 0 0 0 0 0 := Blk.new (by refine ⟨?_, ?_, ?_, ?_, ?_, ?_, fun o => ?_⟩ <;> (go_light; simp [go_sem, *])) h4 (by first | omega | (simp; done) | (simp; omega))
  have B2 : Blk w4 w3.heap.size 0 0 0 0 0 0 := Blk.new (by refine ⟨?_, ?_, ?_, ?_, ?_, ?_, fun o => ?_⟩ <;> (go_light; simp [go_sem, *])) h4 (by first | omega | (simp; done) | (simp; omega))
  have z4 : w.heap.size < w4.heap.size := by have := New.size h4; (try simp at this); omega
  have z42 : w2.heap.size < w4.heap.size := by have := New.size h4; (try simp at this); omega
  have z43 : w3.heap.size < w4.heap.size := by have := New.size h4; (try simp at this); omega
  have H4 := Lib.hid (New.trans (by repeat (first | with_reducible exact new0 _ | with_reducible apply New.alloc | (with_reducible refine New.setCell ?_ (by simp <;> omega) _) | (with_reducible refine New.trans ?_ H3.out))) h4 : New w w4)
  clear h4 k0 k1 k2 k3 k4 k5 kf l0 l1 l2 l3 l4 l5 lf 
  obtain ⟨k0, k1, k2, k3, k4, k5, kf⟩ := B0
  obtain ⟨l0, l1, l2, l3, l4, l5, lf⟩ := B1
  obtain ⟨m0, m1, m2, m3, m4, m5, mf⟩ := B2
  go_wp2_with fail
  refine (rremq_err _ _ _ _ _ _ _ HZ.out).mono ?_
  rintro e w5 ⟨rfl, h5⟩
  have B0 : Blk w5 w.heap.size s cu tg mn mx st := Blk.new (by refine ⟨?_, ?_, ?_, ?_, ?_, ?_, fun o => ?_⟩ <;> (go_light; simp [go_sem, *])) h5 (by first | omega | (simp; done) | (simp; omega))
  have B1 : Blk w5 w2.heap.size 0 0 0 0 0 0 := Blk.new (by refine ⟨?_, ?_, ?_, ?_, ?_, ?_, fun o => ?_⟩ <;> (go_light; simp [go_sem, *])) h5 (by first | omega | (simp; done) | (simp; omega))
  have B2 : Blk w5 w3.heap.size 0 0 0 0 0 0 := Blk.new (by refine ⟨?_, ?_, ?_, ?_, ?_, ?_, fun o => ?_⟩ <;> (go_light; simp [go_sem, *])) h5 (by first | omega | (simp; done) | (simp; omega))
  have z5 : w.heap.size < w5.heap.size := by have := New.size h5; (try simp at this); omega
  have z52 : w2.heap.size < w5.heap.size := by have := New.size h5; (try simp at this); omega
  have z53 : w3.heap.size < w5.heap.size := by have := New.size h5; (try simp at this); omega
  have H5 := Lib.hid (New.trans (by repeat (first | with_reducible exact new0 _ | with_reducible apply New.alloc | (with_reducible refine New.setCell ?_ (by simp <;> omega) _) | (with_reducible refine New.trans ?_ H4.out))) h5 : New w w5)
  clear h5 k0 k1 k2 k3 k4 k5 kf l0 l1 l2 l3 l4 l5 lf m0 m1 m2 m3 m4 m5 mf
  obtain ⟨k0, k1, k2, k3, k4, k5, kf⟩ := B0
  obtain ⟨l0, l1, l2, l3, l4, l5, lf⟩ := B1
  obtain ⟨m0, m1, m2, m3, m4, m5, mf⟩ := B2
  go_wp2
  go_ret
  exact ⟨rfl, (by repeat (first | with_reducible exact new0 _ | with_reducible apply New.alloc | (with_reducible refine New.setCell ?_ (by simp <;> omega) _) | (with_reducible refine New.trans ?_ H5.out)))⟩
set_option maxHeartbeats 1600000 in
theorem law_tick_err2 (s cu tg mn mx st n : Int) (w : World) (hN : Nm w) (h : tickE s cu tg mn mx st n ≠ 0) (h1 : valE s cu tg mn mx st = 0) :
    Calls Tryd.prog 5 #[.agg #[.int .i64 s, .int .i64 cu, .int .i64 tg, .int .i64 mn, .int .i64 mx, .int .i64 st], .int .i64 n] w fun e w' => e = .returned (.bool true) ∧ New w w' := by
  have HN := Lib.hid hN
  clear hN
  have HB0 := Lib.hid (Blk.alloc w s cu tg mn mx st)
  go_enter Tryd.func5, Tryd.ntmps5
  go_wp2_with fail
  refine (awake_any _ (HN.out.new ((new0 _).alloc _))).mono ?_
  rintro e w1 ⟨rfl, h1⟩
  have B0 : Blk w1 w.heap.size s cu tg mn mx st := HB0.out.new h1 (by simp)
  have z1 : w.heap.size < w1.heap.size := by have := New.size h1; (try simp at this); omega
  have H1 := Lib.hid (New.trans ((new0 w).alloc _) h1)
  clear h1
  obtain ⟨k0, k1, k2, k3, k4, k5, kf⟩ := B0
  have HE := Lib.hid h
  have he : (tickE s cu tg mn mx st n != 0) = true := by simpa using h
  have HZ := Lib.hid h1
  clear h1
  clear h
  go_wp2_with fail
  refine (tick_err _ _ _ _ _ _ _ _ (HN.out.new (by repeat (first | with_reducible exact new0 _ | with_reducible apply New.alloc | (with_reducible refine New.setCell ?_ (by simp <;> omega) _) | (with_reducible refine New.trans ?_ H1.out)))) HE.out).mono ?_
  rintro e w2 ⟨rfl, h2⟩
  have B0 : Blk w2 w.heap.size s cu tg mn mx st := Blk.new (by refine ⟨?_, ?_, ?_, ?_, ?_, ?_, fun o => ?_⟩ <;> (go_light; simp [go_sem, *])) h2 (by first | omega | (simp; done) | (simp; omega))
  have z2 : w.heap.size < w2.heap.size := by have := New.size h2; (try simp at this); omega
  have H2 := Lib.hid (New.trans (by repeat (first | with_reducible exact new0 _ | with_reducible apply New.alloc | (with_reducible refine New.setCell ?_ (by simp <;> omega) _) | (with_reducible refine New.trans ?_ H1.out))) h2 : New w w2)
  clear h2 k0 k1 k2 k3 k4 k5 kf
  obtain ⟨k0, k1, k2, k3, k4, k5, kf⟩ := B0
  go_wp2_with fail
  refine (rtick_err _ _ _ _ _ _ _ _ HE.out).mono ?_
  rintro e w3 ⟨rfl, h3⟩
  have B0 : Blk w3 w.heap.size s cu tg mn mx st := Blk.new (by refine ⟨?_, ?_, ?_, ?_, ?_, ?_, fun o => ?_⟩ <;> (go_light; simp [go_sem, *])) h3 (by first | omega | (simp; done) | (simp; omega))
  have B1 : Blk w3 w2.heap.size 0 0 0 0 0 0 := Blk.new (by refine ⟨?_, ?_, ?_, ?_, ?_, ?_, fun o => ?_⟩ <;> (go_light; simp [go_sem, *])) h3 (by simp)
  have z3 : w.heap.size < w3.heap.size := by have := New.size h3; (try simp at this); omega
  have z32 : w2.heap.size < w3.heap.size := by have := New.size h3; (try simp at this); omega
  have H3 := Lib.hid (New.trans (by repeat (first | with_reducible exact new0 _ | with_reducible apply New.alloc | (with_reducible refine New.setCell ?_ (by simp <;> omega) _) | (with_reducible refine New.trans ?_ H2.out))) h3 : New w w3)
  clear h3 k0 k1 k2 k3 k4 k5 kf
  obtain ⟨k0, k1, k2, k3, k4, k5, kf⟩ := B0
  obtain ⟨l0, l1, l2, l3, l4, l5, lf⟩ := B1
  go_wp2_with fail
  refine (remq_ok _ _ _ _ _ _ _ (HN.out.new (by repeat (first | with_reducible exact new0 _ | with_reducible apply New.alloc | (with_reducible refine New.setCell ?_ (by simp <;> omega) _) | (with_reducible refine New.trans ?_ H3.out)))) HZ.out).mono ?_
  rintro e w4 ⟨rfl, h4⟩
  have B0 : Blk w4 w.heap.size s cu tg mn mx st := Blk.new (by refine ⟨?_, ?_, ?_, ?_, ?_, ?_, fun o => ?_⟩ <;> (go_light; simp [go_sem, *])) h4 (by first | omega | (simp; done) | (simp; omega))
  have B1 : Blk w4 w2.heap.size 0 0 0 0 0 0 := Blk.new (by refine ⟨?_, ?_, ?_, ?_, ?_, ?_, fun o => ?_⟩ <;> (go_light; simp [go_sem, *])) h4 (by first | omega | (simp; done) | (simp; omega))
  have B2 : Blk w4 w3.heap.size 0 0 0 0 0 0 := Blk.new (by refine ⟨?_, ?_, ?_, ?_, ?_, ?_, fun o => ?_⟩ <;> (go_light; simp [go_sem, *])) h4 (by first | omega | (simp; done) | (simp; omega))
  have z4 : w.heap.size < w4.heap.size := by have := New.size h4; (try simp at this); omega
  have z42 : w2.heap.size < w4.heap.size := by have := New.size h4; (try simp at this); omega
  have z43 : w3.heap.size < w4.heap.size := by have := New.size h4; (try simp at this); omega
  have H4 := Lib.hid (New.trans (by repeat (first | with_reducible exact new0 _ | with_reducible apply New.alloc | (with_reducible refine New.setCell ?_ (by simp <;> omega) _) | (with_reducible refine New.trans ?_ H3.out))) h4 : New w w4)
  clear h4 k0 k1 k2 k3 k4 k5 kf l0 l1 l2 l3 l4 l5 lf 
  obtain ⟨k0, k1, k2, k3, k4, k5, kf⟩ := B0
  obtain ⟨l0, l1, l2, l3, l4, l5, lf⟩ := B1
  obtain ⟨m0, m1, m2, m3, m4, m5, mf⟩ := B2
  go_wp2_with fail
  refine (rremq_ok _ _ _ _ _ _ _ HZ.out).mono ?_
  rintro e w5 ⟨rfl, h5⟩
  have B0 : Blk w5 w.heap.size s cu tg mn mx st := Blk.new (by refine ⟨?_, ?_, ?_, ?_, ?_, ?_, fun o => ?_⟩ <;> (go_light; simp [go_sem, *])) h5 (by first | omega | (simp; done) | (simp; omega))
  have B1 : Blk w5 w2.heap.size 0 0 0 0 0 0 := Blk.new (by refine ⟨?_, ?_, ?_, ?_, ?_, ?_, fun o => ?_⟩ <;> (go_light; simp [go_sem, *])) h5 (by first | omega | (simp; done) | (simp; omega))
  have B2 : Blk w5 w3.heap.size 0 0 0 0 0 0 := Blk.new (by refine ⟨?_, ?_, ?_, ?_, ?_, ?_, fun o => ?_⟩ <;> (go_light; simp [go_sem, *])) h5 (by first | omega | (simp; done) | (simp; omega))
  have z5 : w.heap.size < w5.heap.size := by have := New.size h5; (try simp at this); omega
  have z52 : w2.heap.size < w5.heap.size := by have := New.size h5; (try simp at this); omega
  have z53 : w3.heap.size < w5.heap.size := by have := New.size h5; (try simp at this); omega
  have H5 := Lib.hid (New.trans (by repeat (first | with_reducible exact new0 _ | with_reducible apply New.alloc | (with_reducible refine New.setCell ?_ (by simp <;> omega) _) | (with_reducible refine New.trans ?_ H4.out))) h5 : New w w5)
  clear h5 k0 k1 k2 k3 k4 k5 kf l0 l1 l2 l3 l4 l5 lf m0 m1 m2 m3 m4 m5 mf
  obtain ⟨k0, k1, k2, k3, k4, k5, kf⟩ := B0
  obtain ⟨l0, l1, l2, l3, l4, l5, lf⟩ := B1
  obtain ⟨m0, m1, m2, m3, m4, m5, mf⟩ := B2
  go_wp2
  go_ret
  exact ⟨rfl, (by repeat (first | with_reducible exact new0 _ | with_reducible apply New.alloc | (with_reducible refine New.setCell ?_ (by simp <;> omega) _) | (with_reducible refine New.trans ?_ H5.out)))⟩
theorem law_command (s cu tg mn mx st k v : Int) (w : World) (hN : Nm w) :
    Calls Tryd.prog 4 #[.agg #[.int .i64 s, .int .i64 cu, .int .i64 tg, .int .i64 mn, .int .i64 mx, .int .i64 st], .int .i64 k, .int .i64 v] w fun e w' => e = .returned (.bool true) ∧ New w w' := by
  by_cases h : cmdE s cu tg mn mx st k v = 0
  · exact law_cmd_ok _ _ _ _ _ _ _ _ w hN h
  · exact law_cmd_err _ _ _ _ _ _ _ _ w hN h
theorem law_tick (s cu tg mn mx st n : Int) (w : World) (hN : Nm w) :
    Calls Tryd.prog 5 #[.agg #[.int .i64 s, .int .i64 cu, .int .i64 tg, .int .i64 mn, .int .i64 mx, .int .i64 st], .int .i64 n] w fun e w' => e = .returned (.bool true) ∧ New w w' := by
  by_cases h : tickE s cu tg mn mx st n = 0
  · exact law_tick_ok _ _ _ _ _ _ _ w hN h
  · by_cases h1 : valE s cu tg mn mx st = 0
    · exact law_tick_err2 _ _ _ _ _ _ _ w hN h h1
    · exact law_tick_err1 _ _ _ _ _ _ _ w hN h h1
end Go.Proofs.YtacfjngnfgnmeaaDoor
