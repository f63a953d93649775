/-
  The walk of the statement ConverterTrips.
-/
import Derived.Test.YtacfjngnfgnmeaaDoorLawArr
namespace Go.Proofs.YtacfjngnfgnmeaaDoor
open Go.RowKit

set_option maxHeartbeats 3200000 in
theorem law_trips (m u : Int) (v : Value) (w : World) (hN : Nm w) (hm0 : 0 ≤ m) (hm1 : m ≤ 65535) (hu0 : 0 ≤ u) (hu1 : u ≤ 255) (hP : PrsV w v) :
    Calls Tryd.prog 10 #[.int .u16 m, .int .u8 u, v] w fun e w' => e = .returned (.bool true) ∧ New w w' := by
  have HN := Lib.hid hN
  have HP := Lib.hid hP
  clear hN hP
  go_enter Tryd.func10, Tryd.ntmps10
  go_wp2_with fail
  refine (awake_any _ HN.out).mono ?_
  rintro e w1 ⟨rfl, h1⟩
  have z1 : w.heap.size ≤ w1.heap.size := New.size h1
  have HP1 := Lib.hid (HP.out.new h1)
  have H1 := Lib.hid h1
  clear h1
  go_wp2_with fail
  refine (made_v _ _ _ _ (by omega) (by omega) (by omega) (by omega) HP1.out).mono ?_
  rintro e w2 ⟨c, rfl, hv, h2⟩
  have H2 := Lib.hid (New.trans H1.out h2)
  have HV := Lib.hid hv
  obtain ⟨r0, r1⟩ := made_rem hm0 hm1 hu0 hv
  clear h2 hv
  by_cases hs : c.s = 1 ∨ c.s = 5
  · have hi : isaB c.s c.cu 5 = false := by simp [isaB]; omega
    have HI := Lib.hid hi
    clear hi
    by_cases hs1 : c.s = 1
    · have e1 : (c.s == 1) = true := by simpa using hs1
      clear hs hs1
      go_wp2_with fail
      refine (cmd_e3 _ _ _ _ _ _ _ _ _ (HN.out.new (by repeat (first | with_reducible exact new0 _ | with_reducible apply New.alloc | with_reducible apply New.drew | (with_reducible refine New.setCell ?_ (by first | omega | (simp; done) | (simp; omega)) _) | (with_reducible refine New.trans ?_ H2.out)))) HV.out (by decide) (by decide) HI.out).mono ?_
      rintro e w3 ⟨rfl, h3⟩
      have B0 : Blk w3 w2.heap.size c.s c.cu c.tg (mnOf m) m (1 + u) := Blk.new (by refine ⟨?_, ?_, ?_, ?_, ?_, ?_, fun o => ?_⟩ <;> (go_light; simp [go_sem, *])) h3 (by first | omega | (simp; done) | (simp; omega))
      have z30 : w2.heap.size < w3.heap.size := by have := New.size h3; (try simp at this); omega
      have H3 := Lib.hid (New.trans (by repeat (first | with_reducible exact new0 _ | with_reducible apply New.alloc | with_reducible apply New.drew | (with_reducible refine New.setCell ?_ (by first | omega | (simp; done) | (simp; omega)) _) | (with_reducible refine New.trans ?_ H2.out))) h3 : New w w3)
      clear h3
      obtain ⟨k0, k1, k2, k3, k4, k5, kf⟩ := B0
      go_wp2
      go_ret
      exact ⟨rfl, (by repeat (first | with_reducible exact new0 _ | with_reducible apply New.alloc | with_reducible apply New.drew | (with_reducible refine New.setCell ?_ (by first | omega | (simp; done) | (simp; omega)) _) | (with_reducible refine New.trans ?_ H3.out)))⟩
    · have e1 : (c.s == 1) = false := by simpa using hs1
      have e2 : (c.s == 5) = true := by simp; omega
      clear hs hs1
      go_wp2_with fail
      refine (cmd_e3 _ _ _ _ _ _ _ _ _ (HN.out.new (by repeat (first | with_reducible exact new0 _ | with_reducible apply New.alloc | with_reducible apply New.drew | (with_reducible refine New.setCell ?_ (by first | omega | (simp; done) | (simp; omega)) _) | (with_reducible refine New.trans ?_ H2.out)))) HV.out (by decide) (by decide) HI.out).mono ?_
      rintro e w3 ⟨rfl, h3⟩
      have B0 : Blk w3 w2.heap.size c.s c.cu c.tg (mnOf m) m (1 + u) := Blk.new (by refine ⟨?_, ?_, ?_, ?_, ?_, ?_, fun o => ?_⟩ <;> (go_light; simp [go_sem, *])) h3 (by first | omega | (simp; done) | (simp; omega))
      have z30 : w2.heap.size < w3.heap.size := by have := New.size h3; (try simp at this); omega
      have H3 := Lib.hid (New.trans (by repeat (first | with_reducible exact new0 _ | with_reducible apply New.alloc | with_reducible apply New.drew | (with_reducible refine New.setCell ?_ (by first | omega | (simp; done) | (simp; omega)) _) | (with_reducible refine New.trans ?_ H2.out))) h3 : New w w3)
      clear h3
      obtain ⟨k0, k1, k2, k3, k4, k5, kf⟩ := B0
      go_wp2
      go_ret
      exact ⟨rfl, (by repeat (first | with_reducible exact new0 _ | with_reducible apply New.alloc | with_reducible apply New.drew | (with_reducible refine New.setCell ?_ (by first | omega | (simp; done) | (simp; omega)) _) | (with_reducible refine New.trans ?_ H3.out)))⟩
  · have hi : isaB c.s c.cu 5 = true := by have := (vd_of HV.out).s0; have := (vd_of HV.out).s1; simp [isaB]; omega
    have HI := Lib.hid hi
    have e1 : (c.s == 1) = false := by simp; omega
    have e2 : (c.s == 5) = false := by simp; omega
    have hx : valE 5 c.cu 0 (mnOf m) m (1 + u) = 0 := by
      obtain ⟨q1, _, _, q4, _, _⟩ := vd_of HV.out
      exact of_vd ⟨q1, by decide, by decide, q4, zero_in q1, by simp [fitB]⟩
    have hy : valE 5 0 0 (mnOf m) m (1 + u) = 0 := by
      obtain ⟨q1, _, _, q4, _, _⟩ := vd_of HV.out
      exact of_vd ⟨q1, by decide, by decide, zero_in q1, zero_in q1, by decide⟩
    obtain ⟨q0, q1⟩ := made_rem hm0 hm1 hu0 hx
    have hz0 : remI c.cu 0 (1 + u) = 0 → c.cu = 0 := rem_zero (bd_of hx)
    have HZ := Lib.hid hz0
    have HX := Lib.hid hx
    have HY := Lib.hid hy
    have HT := Lib.hid (tickE_zero (n := remI c.cu 0 (1 + u)) hx q0 (by omega))
    have hS : tickS 5 c.cu 0 (1 + u) (remI c.cu 0 (1 + u)) = 5 := by unfold tickS; simp
    have hC : tickC c.cu 0 (1 + u) (remI c.cu 0 (1 + u)) = 0 := by unfold tickC; simp
    clear hi hx hy hz0 hs r0 r1
    go_wp2_with fail
    refine (cmd_5 _ _ _ _ _ _ _ _ (HN.out.new (by repeat (first | with_reducible exact new0 _ | with_reducible apply New.alloc | with_reducible apply New.drew | (with_reducible refine New.setCell ?_ (by first | omega | (simp; done) | (simp; omega)) _) | (with_reducible refine New.trans ?_ H2.out)))) HV.out HI.out).mono ?_
    rintro e w3 ⟨rfl, h3⟩
    have B0 : Blk w3 w2.heap.size c.s c.cu c.tg (mnOf m) m (1 + u) := Blk.new (by refine ⟨?_, ?_, ?_, ?_, ?_, ?_, fun o => ?_⟩ <;> (go_light; simp [go_sem, *])) h3 (by first | omega | (simp; done) | (simp; omega))
    have z30 : w2.heap.size < w3.heap.size := by have := New.size h3; (try simp at this); omega
    have H3 := Lib.hid (New.trans (by repeat (first | with_reducible exact new0 _ | with_reducible apply New.alloc | with_reducible apply New.drew | (with_reducible refine New.setCell ?_ (by first | omega | (simp; done) | (simp; omega)) _) | (with_reducible refine New.trans ?_ H2.out))) h3 : New w w3)
    clear h3
    obtain ⟨k0, k1, k2, k3, k4, k5, kf⟩ := B0
    go_wp2_with fail
    refine (remq_ok _ _ _ _ _ _ _ (HN.out.new (by repeat (first | with_reducible exact new0 _ | with_reducible apply New.alloc | with_reducible apply New.drew | (with_reducible refine New.setCell ?_ (by first | omega | (simp; done) | (simp; omega)) _) | (with_reducible refine New.trans ?_ H3.out)))) HX.out).mono ?_
    rintro e w4 ⟨rfl, h4⟩
    have B0 : Blk w4 w2.heap.size c.s c.cu c.tg (mnOf m) m (1 + u) := Blk.new (by refine ⟨?_, ?_, ?_, ?_, ?_, ?_, fun o => ?_⟩ <;> (go_light; simp [go_sem, *])) h4 (by first | omega | (simp; done) | (simp; omega))
    have B1 : Blk w4 w3.heap.size 5 c.cu 0 (mnOf m) m (1 + u) := Blk.new (by refine ⟨?_, ?_, ?_, ?_, ?_, ?_, fun o => ?_⟩ <;> (go_light; simp [go_sem, *])) h4 (by first | omega | (simp; done) | (simp; omega))
    have z40 : w2.heap.size < w4.heap.size := by have := New.size h4; (try simp at this); omega
    have z41 : w3.heap.size < w4.heap.size := by have := New.size h4; (try simp at this); omega
    have H4 := Lib.hid (New.trans (by repeat (first | with_reducible exact new0 _ | with_reducible apply New.alloc | with_reducible apply New.drew | (with_reducible refine New.setCell ?_ (by first | omega | (simp; done) | (simp; omega)) _) | (with_reducible refine New.trans ?_ H3.out))) h4 : New w w4)
    clear h4 k0 k1 k2 k3 k4 k5 kf
    obtain ⟨k0, k1, k2, k3, k4, k5, kf⟩ := B0
    obtain ⟨l0, l1, l2, l3, l4, l5, lf⟩ := B1
    go_wp2_with fail
    refine (cmd_e3 _ _ _ _ _ _ _ _ _ (HN.out.new (by repeat (first | with_reducible exact new0 _ | with_reducible apply New.alloc | with_reducible apply New.drew | (with_reducible refine New.setCell ?_ (by first | omega | (simp; done) | (simp; omega)) _) | (with_reducible refine New.trans ?_ H4.out)))) HX.out (by decide) (by decide) (by simp [isaB])).mono ?_
    rintro e w5 ⟨rfl, h5⟩
    have B0 : Blk w5 w2.heap.size c.s c.cu c.tg (mnOf m) m (1 + u) := Blk.new (by refine ⟨?_, ?_, ?_, ?_, ?_, ?_, fun o => ?_⟩ <;> (go_light; simp [go_sem, *])) h5 (by first | omega | (simp; done) | (simp; omega))
    have B1 : Blk w5 w3.heap.size 5 c.cu 0 (mnOf m) m (1 + u) := Blk.new (by refine ⟨?_, ?_, ?_, ?_, ?_, ?_, fun o => ?_⟩ <;> (go_light; simp [go_sem, *])) h5 (by first | omega | (simp; done) | (simp; omega))
    have z50 : w2.heap.size < w5.heap.size := by have := New.size h5; (try simp at this); omega
    have z51 : w3.heap.size < w5.heap.size := by have := New.size h5; (try simp at this); omega
    have H5 := Lib.hid (New.trans (by repeat (first | with_reducible exact new0 _ | with_reducible apply New.alloc | with_reducible apply New.drew | (with_reducible refine New.setCell ?_ (by first | omega | (simp; done) | (simp; omega)) _) | (with_reducible refine New.trans ?_ H4.out))) h5 : New w w5)
    clear h5 k0 k1 k2 k3 k4 k5 kf l0 l1 l2 l3 l4 l5 lf
    obtain ⟨k0, k1, k2, k3, k4, k5, kf⟩ := B0
    obtain ⟨l0, l1, l2, l3, l4, l5, lf⟩ := B1
    go_wp2_with fail
    refine (tick_ok _ _ _ _ _ _ _ _ (HN.out.new (by repeat (first | with_reducible exact new0 _ | with_reducible apply New.alloc | with_reducible apply New.drew | (with_reducible refine New.setCell ?_ (by first | omega | (simp; done) | (simp; omega)) _) | (with_reducible refine New.trans ?_ H5.out)))) HT.out).mono ?_
    rintro e w6 ⟨rfl, h6⟩
    have B0 : Blk w6 w2.heap.size c.s c.cu c.tg (mnOf m) m (1 + u) := Blk.new (by refine ⟨?_, ?_, ?_, ?_, ?_, ?_, fun o => ?_⟩ <;> (go_light; simp [go_sem, *])) h6 (by first | omega | (simp; done) | (simp; omega))
    have B1 : Blk w6 w3.heap.size 5 c.cu 0 (mnOf m) m (1 + u) := Blk.new (by refine ⟨?_, ?_, ?_, ?_, ?_, ?_, fun o => ?_⟩ <;> (go_light; simp [go_sem, *])) h6 (by first | omega | (simp; done) | (simp; omega))
    have z60 : w2.heap.size < w6.heap.size := by have := New.size h6; (try simp at this); omega
    have z61 : w3.heap.size < w6.heap.size := by have := New.size h6; (try simp at this); omega
    have H6 := Lib.hid (New.trans (by repeat (first | with_reducible exact new0 _ | with_reducible apply New.alloc | with_reducible apply New.drew | (with_reducible refine New.setCell ?_ (by first | omega | (simp; done) | (simp; omega)) _) | (with_reducible refine New.trans ?_ H5.out))) h6 : New w w6)
    clear h6 k0 k1 k2 k3 k4 k5 kf l0 l1 l2 l3 l4 l5 lf
    obtain ⟨k0, k1, k2, k3, k4, k5, kf⟩ := B0
    obtain ⟨l0, l1, l2, l3, l4, l5, lf⟩ := B1
    go_wp2_with fail
    refine (cmd_6 _ _ _ _ _ _ _ _ (HN.out.new (by repeat (first | with_reducible exact new0 _ | with_reducible apply New.alloc | with_reducible apply New.drew | (with_reducible refine New.setCell ?_ (by first | omega | (simp; done) | (simp; omega)) _) | (with_reducible refine New.trans ?_ H6.out)))) HY.out (by decide)).mono ?_
    rintro e w7 ⟨rfl, h7⟩
    have B0 : Blk w7 w3.heap.size 5 c.cu 0 (mnOf m) m (1 + u) := Blk.new (by refine ⟨?_, ?_, ?_, ?_, ?_, ?_, fun o => ?_⟩ <;> (go_light; simp [go_sem, *])) h7 (by first | omega | (simp; done) | (simp; omega))
    have z70 : w3.heap.size < w7.heap.size := by have := New.size h7; (try simp at this); omega
    have H7 := Lib.hid (New.trans (by repeat (first | with_reducible exact new0 _ | with_reducible apply New.alloc | with_reducible apply New.drew | (with_reducible refine New.setCell ?_ (by first | omega | (simp; done) | (simp; omega)) _) | (with_reducible refine New.trans ?_ H6.out))) h7 : New w w7)
    clear h7 k0 k1 k2 k3 k4 k5 kf l0 l1 l2 l3 l4 l5 lf
    obtain ⟨l0, l1, l2, l3, l4, l5, lf⟩ := B0
    by_cases e0 : c.cu = 0
    · have r3 : (remI c.cu 0 (1 + u) == 0) = true := by rw [e0]; simp [remI, dist]; exact Int.ediv_eq_zero_of_lt (by omega) (by omega)
      have HE := Lib.hid (show isaB 5 c.cu 6 = true by simp [isaB, e0])
      clear e0
      go_wp2_with fail
      refine (cmd_6 _ _ _ _ _ _ _ _ (HN.out.new (by repeat (first | with_reducible exact new0 _ | with_reducible apply New.alloc | with_reducible apply New.drew | (with_reducible refine New.setCell ?_ (by first | omega | (simp; done) | (simp; omega)) _) | (with_reducible refine New.trans ?_ H7.out)))) HX.out HE.out).mono ?_
      rintro e w8 ⟨rfl, h8⟩
      have B0 : Blk w8 w7.heap.size 1 0 0 (mnOf m) m (1 + u) := Blk.new (by refine ⟨?_, ?_, ?_, ?_, ?_, ?_, fun o => ?_⟩ <;> (go_light; simp [go_sem, *])) h8 (by first | omega | (simp; done) | (simp; omega))
      have z80 : w7.heap.size < w8.heap.size := by have := New.size h8; (try simp at this); omega
      have H8 := Lib.hid (New.trans (by repeat (first | with_reducible exact new0 _ | with_reducible apply New.alloc | with_reducible apply New.drew | (with_reducible refine New.setCell ?_ (by first | omega | (simp; done) | (simp; omega)) _) | (with_reducible refine New.trans ?_ H7.out))) h8 : New w w8)
      clear h8 l0 l1 l2 l3 l4 l5 lf
      obtain ⟨n0, n1, n2, n3, n4, n5, nf⟩ := B0
      go_wp2
      go_ret
      exact ⟨rfl, (by repeat (first | with_reducible exact new0 _ | with_reducible apply New.alloc | with_reducible apply New.drew | (with_reducible refine New.setCell ?_ (by first | omega | (simp; done) | (simp; omega)) _) | (with_reducible refine New.trans ?_ H8.out)))⟩
    · have r3 : (remI c.cu 0 (1 + u) == 0) = false := by simp; exact fun h => e0 (HZ.out h)
      have HE := Lib.hid (show isaB 5 c.cu 6 = false by simp [isaB, e0])
      clear e0
      go_wp2_with fail
      refine (cmd_e3 _ _ _ _ _ _ _ _ _ (HN.out.new (by repeat (first | with_reducible exact new0 _ | with_reducible apply New.alloc | with_reducible apply New.drew | (with_reducible refine New.setCell ?_ (by first | omega | (simp; done) | (simp; omega)) _) | (with_reducible refine New.trans ?_ H7.out)))) HX.out (by decide) (by decide) HE.out).mono ?_
      rintro e w8 ⟨rfl, h8⟩
      have B0 : Blk w8 w7.heap.size 1 0 0 (mnOf m) m (1 + u) := Blk.new (by refine ⟨?_, ?_, ?_, ?_, ?_, ?_, fun o => ?_⟩ <;> (go_light; simp [go_sem, *])) h8 (by first | omega | (simp; done) | (simp; omega))
      have z80 : w7.heap.size < w8.heap.size := by have := New.size h8; (try simp at this); omega
      have H8 := Lib.hid (New.trans (by repeat (first | with_reducible exact new0 _ | with_reducible apply New.alloc | with_reducible apply New.drew | (with_reducible refine New.setCell ?_ (by first | omega | (simp; done) | (simp; omega)) _) | (with_reducible refine New.trans ?_ H7.out))) h8 : New w w8)
      clear h8 l0 l1 l2 l3 l4 l5 lf
      obtain ⟨n0, n1, n2, n3, n4, n5, nf⟩ := B0
      go_wp2
      go_ret
      exact ⟨rfl, (by repeat (first | with_reducible exact new0 _ | with_reducible apply New.alloc | with_reducible apply New.drew | (with_reducible refine New.setCell ?_ (by first | omega | (simp; done) | (simp; omega)) _) | (with_reducible refine New.trans ?_ H8.out)))⟩
end Go.Proofs.YtacfjngnfgnmeaaDoor
