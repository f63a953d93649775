/-
  The walk of the statement ConverterAdds.
-/
import Derived.Test.YtacfjngnfgnmeaaDoorAdd
namespace Go.Proofs.YtacfjngnfgnmeaaDoor
open Go.RowKit

/-- At the head of a round: so many ticks, one by one, are as good as so many at once. -/
def AddRel (w : World) (p7 p13 p15 : Nat) (mn mx st N : Int) (c : Cv) (k : Nat) (wr : World) : Prop :=
  New w wr ∧ p15 < wr.heap.size ∧ Blk wr p7 c.s c.cu c.tg mn mx st ∧ Blk wr p13 (tickS c.s c.cu c.tg st N) (tickC c.cu c.tg st N) c.tg mn mx st ∧ Blk wr p15 (tickS c.s c.cu c.tg st k) (tickC c.cu c.tg st k) c.tg mn mx st
theorem tick_then (s cu tg mn mx st n k : Int) (w : World) (hN : Nm w) (hv : valE s cu tg mn mx st = 0) (n0 : 0 ≤ n) (n1 : n ≤ 1000) (k0 : 0 ≤ k) (k1 : k ≤ 1000) :
    Calls Tryd.prog 20 #[.agg #[.int .i64 (tickS s cu tg st n), .int .i64 (tickC cu tg st n), .int .i64 tg, .int .i64 mn, .int .i64 mx, .int .i64 st], .int .i64 k] w fun e w' => e = .returned (.tuple #[.agg #[.int .i64 (tickS s cu tg st (n + k)), .int .i64 (tickC cu tg st (n + k)), .int .i64 tg, .int .i64 mn, .int .i64 mx, .int .i64 st], .int .i64 0]) ∧ New w w' := by
  have h0 := tickE_zero (n := n) hv n0 (by omega)
  have h1 := tick_valid h0
  have h := tick_ok (tickS s cu tg st n) (tickC cu tg st n) tg mn mx st k w hN (tickE_zero h1 k0 (by omega))
  obtain ⟨e1, e2⟩ := tick_add (n := n) (k := k) hv n0 k0
  rw [e1, e2] at h
  exact h
theorem tick_in {s cu tg mn mx st n : Int} (hv : valE s cu tg mn mx st = 0) (n0 : 0 ≤ n) (n1 : n ≤ 1000) : -1099511627776 ≤ tickC cu tg st n ∧ tickC cu tg st n ≤ 1099511627776 := by
  have h := bd_of (tick_valid (tickE_zero (n := n) hv n0 (by omega)))
  exact ⟨h.c0, h.c1⟩
theorem tick_near {s cu tg mn mx st n : Int} (hv : valE s cu tg mn mx st = 0) (n0 : 0 ≤ n) (n1 : n ≤ 1000) : tickC cu tg st (n + 1) - tickC cu tg st n ≤ st ∧ tickC cu tg st n - tickC cu tg st (n + 1) ≤ st := by
  have h1 := tick_valid (tickE_zero (n := n) hv n0 (by omega))
  have h := tick_step h1
  rw [(tick_add (n := n) (k := 1) hv n0 (by omega)).1] at h
  exact h
set_option maxHeartbeats 3200000 in
theorem law_adds (m : Int) (v : Value) (a0 a1 u : Int) (w : World) (hN : Nm w) (hm0 : 0 ≤ m) (hm1 : m ≤ 65535) (hu0 : 0 ≤ u) (hu1 : u ≤ 255) (h00 : 0 ≤ a0) (h01 : a0 ≤ 255) (h10 : 0 ≤ a1) (h11 : a1 ≤ 255) (hP : PrsV w v) :
    Calls Tryd.prog 8 #[.int .u16 m, v, .agg #[.int .u8 a0, .int .u8 a1, .int .u8 u]] w fun e w' => e = .returned (.bool true) ∧ New w w' := by
  have HN := Lib.hid hN
  have HP := Lib.hid hP
  clear hN hP
  go_enter Tryd.func8, Tryd.ntmps8
  go_wp2_with fail
  refine (awake_any _ (HN.out.new ((new0 _).alloc _))).mono ?_
  rintro e w1 ⟨rfl, h1⟩
  have z1 : w.heap.size < w1.heap.size := by have := New.size h1; (try simp at this); omega
  have t0 : w1.cell? ⟨w.heap.size, 0, none⟩ = some (.int .u8 a0) := by rw [(ncell h1).1 _ _ (by simp)]; simp [go_sem]
  have t1 : w1.cell? ⟨w.heap.size, 1, none⟩ = some (.int .u8 a1) := by rw [(ncell h1).1 _ _ (by simp)]; simp [go_sem]
  have t2 : w1.cell? ⟨w.heap.size, 2, none⟩ = some (.int .u8 u) := by rw [(ncell h1).1 _ _ (by simp)]; simp [go_sem]
  have H1 := Lib.hid (New.trans ((new0 w).alloc _) h1)
  have HP1 := Lib.hid (HP.out.new H1.out)
  have HT := Lib.hid (And.intro t0 t1)
  clear h1
  go_wp2_with fail
  refine (made_v _ _ _ _ (by omega) (by omega) (by omega) (by omega) HP1.out).mono ?_
  rintro e w2 ⟨c, rfl, hv, h2⟩
  have z2 : w1.heap.size ≤ w2.heap.size := New.size h2
  have HV := Lib.hid hv
  have t0 : w2.cell? ⟨w.heap.size, 0, none⟩ = some (.int .u8 a0) := by rw [(ncell h2).1 _ _ z1]; exact HT.out.1
  have t1 : w2.cell? ⟨w.heap.size, 1, none⟩ = some (.int .u8 a1) := by rw [(ncell h2).1 _ _ z1]; exact HT.out.2
  have H2 := Lib.hid (New.trans H1.out h2)
  have z20 : w.heap.size < w2.heap.size := by omega
  have q0 : 0 ≤ a0 % 40 := by omega
  have q1 : a0 % 40 ≤ 39 := by omega
  have q2 : 0 ≤ a1 % 40 := by omega
  have q3 : a1 % 40 ≤ 39 := by omega
  have HE0 := Lib.hid (tickE_zero (n := a0 % 40) hv q0 (by omega))
  have hv0 := tick_valid HE0.out
  have HE1 := Lib.hid (tickE_zero (n := a1 % 40) hv0 q2 (by omega))
  have HE2 := Lib.hid (tickE_zero (n := a0 % 40 + a1 % 40) hv (by omega) (by omega))
  have ha := tick_add (n := a0 % 40) (k := a1 % 40) hv q0 q2
  have HA := Lib.hid ha
  clear h2 hv hv0 ha
  go_wp2_with fail
  go_quiet (fail)
  go_wp2_with fail
  refine (tick_ok _ _ _ _ _ _ _ _ (HN.out.new (by repeat (first | with_reducible exact new0 _ | with_reducible apply New.alloc | with_reducible apply New.drew | with_reducible apply New.drewN | (with_reducible refine New.setCell ?_ (by first | omega | (simp; done) | (simp; omega)) _) | (with_reducible refine New.trans ?_ H2.out)))) HE0.out).mono ?_
  rintro e w3 ⟨rfl, h3⟩
  have B0 : Blk w3 w2.heap.size c.s c.cu c.tg (mnOf m) m (1 + u) := Blk.new (by refine ⟨?_, ?_, ?_, ?_, ?_, ?_, fun o => ?_⟩ <;> (go_light; simp [go_sem, *])) h3 (by first | omega | (simp; done) | (simp; omega))
  have z30 : w2.heap.size < w3.heap.size := by have := New.size h3; (try simp at this); omega
  have H3 := Lib.hid (New.trans (by repeat (first | with_reducible exact new0 _ | with_reducible apply New.alloc | with_reducible apply New.drew | with_reducible apply New.drewN | (with_reducible refine New.setCell ?_ (by first | omega | (simp; done) | (simp; omega)) _) | (with_reducible refine New.trans ?_ H2.out))) h3 : New w w3)
  clear h3
  obtain ⟨k0, k1, k2, k3, k4, k5, kf⟩ := B0
  go_wp2_with fail
  refine (tick_then _ _ _ _ _ _ _ _ _ (HN.out.new (by repeat (first | with_reducible exact new0 _ | with_reducible apply New.alloc | with_reducible apply New.drew | with_reducible apply New.drewN | (with_reducible refine New.setCell ?_ (by first | omega | (simp; done) | (simp; omega)) _) | (with_reducible refine New.trans ?_ H3.out)))) HV.out q0 (by omega) q2 (by omega)).mono ?_
  rintro e w4 ⟨rfl, h4⟩
  have B0 : Blk w4 w2.heap.size c.s c.cu c.tg (mnOf m) m (1 + u) := Blk.new (by refine ⟨?_, ?_, ?_, ?_, ?_, ?_, fun o => ?_⟩ <;> (go_light; simp [go_sem, *])) h4 (by first | omega | (simp; done) | (simp; omega))
  have B1 : Blk w4 w3.heap.size (tickS c.s c.cu c.tg (1 + u) (a0 % 40)) (tickC c.cu c.tg (1 + u) (a0 % 40)) c.tg (mnOf m) m (1 + u) := Blk.new (by refine ⟨?_, ?_, ?_, ?_, ?_, ?_, fun o => ?_⟩ <;> (go_light; simp [go_sem, *])) h4 (by first | omega | (simp; done) | (simp; omega))
  have z40 : w2.heap.size < w4.heap.size := by have := New.size h4; (try simp at this); omega
  have z41 : w3.heap.size < w4.heap.size := by have := New.size h4; (try simp at this); omega
  have H4 := Lib.hid (New.trans (by repeat (first | with_reducible exact new0 _ | with_reducible apply New.alloc | with_reducible apply New.drew | with_reducible apply New.drewN | (with_reducible refine New.setCell ?_ (by first | omega | (simp; done) | (simp; omega)) _) | (with_reducible refine New.trans ?_ H3.out))) h4 : New w w4)
  clear h4 k0 k1 k2 k3 k4 k5 kf
  obtain ⟨k0, k1, k2, k3, k4, k5, kf⟩ := B0
  obtain ⟨l0, l1, l2, l3, l4, l5, lf⟩ := B1
  go_wp2_with fail
  refine (tick_ok _ _ _ _ _ _ _ _ (HN.out.new (by repeat (first | with_reducible exact new0 _ | with_reducible apply New.alloc | with_reducible apply New.drew | with_reducible apply New.drewN | (with_reducible refine New.setCell ?_ (by first | omega | (simp; done) | (simp; omega)) _) | (with_reducible refine New.trans ?_ H4.out)))) HE2.out).mono ?_
  rintro e w5 ⟨rfl, h5⟩
  have B0 : Blk w5 w2.heap.size c.s c.cu c.tg (mnOf m) m (1 + u) := Blk.new (by refine ⟨?_, ?_, ?_, ?_, ?_, ?_, fun o => ?_⟩ <;> (go_light; simp [go_sem, *])) h5 (by first | omega | (simp; done) | (simp; omega))
  have B1 : Blk w5 w3.heap.size (tickS c.s c.cu c.tg (1 + u) (a0 % 40 + a1 % 40)) (tickC c.cu c.tg (1 + u) (a0 % 40 + a1 % 40)) c.tg (mnOf m) m (1 + u) := Blk.new (by refine ⟨?_, ?_, ?_, ?_, ?_, ?_, fun o => ?_⟩ <;> (go_light; simp [go_sem, *])) h5 (by first | omega | (simp; done) | (simp; omega))
  have z50 : w2.heap.size < w5.heap.size := by have := New.size h5; (try simp at this); omega
  have z51 : w3.heap.size < w5.heap.size := by have := New.size h5; (try simp at this); omega
  have H5 := Lib.hid (New.trans (by repeat (first | with_reducible exact new0 _ | with_reducible apply New.alloc | with_reducible apply New.drew | with_reducible apply New.drewN | (with_reducible refine New.setCell ?_ (by first | omega | (simp; done) | (simp; omega)) _) | (with_reducible refine New.trans ?_ H4.out))) h5 : New w w5)
  clear h5 k0 k1 k2 k3 k4 k5 kf l0 l1 l2 l3 l4 l5 lf
  obtain ⟨k0, k1, k2, k3, k4, k5, kf⟩ := B0
  obtain ⟨l0, l1, l2, l3, l4, l5, lf⟩ := B1
  go_wp2_with fail
  go_loopw [72] (fun i wr => ∃ k : Nat, (k : Int) ≤ (a0 % 40 + a1 % 40) ∧ i = .int .i64 k ∧ AddRel w w2.heap.size w5.heap.size (w5.heap.size + 1) (mnOf m) m (1 + u) (a0 % 40 + a1 % 40) c k wr) (fun i _ => ((a0 % 40 + a1 % 40)).toNat - (intOf i).toNat)
  case atStart =>
    obtain ⟨e1, e2⟩ := tick_none HV.out
    refine ⟨0, by omega, rfl, (by repeat (first | with_reducible exact new0 _ | with_reducible apply New.alloc | with_reducible apply New.drew | with_reducible apply New.drewN | (with_reducible refine New.setCell ?_ (by first | omega | (simp; done) | (simp; omega)) _) | (with_reducible refine New.trans ?_ H5.out))), (by first | omega | (simp; done) | (simp; omega)), ?_, ?_, ?_⟩
    · exact (by refine ⟨?_, ?_, ?_, ?_, ?_, ?_, fun o => ?_⟩ <;> (go_light; simp [go_sem, *]))
    · exact (by refine ⟨?_, ?_, ?_, ?_, ?_, ?_, fun o => ?_⟩ <;> (go_light; simp [go_sem, *]))
    · have e3 : ((0 : Nat) : Int) = 0 := rfl
      rw [e3, e1, e2]
      exact (by refine ⟨?_, ?_, ?_, ?_, ?_, ?_, fun o => ?_⟩ <;> (go_light; simp [go_sem, *]))
  case round =>
    obtain ⟨k, hk, rfl, hNw, p15, hB7, hB13, hB15⟩ := hrel
    have HNw := Lib.hid hNw
    have HB7 := Lib.hid hB7
    have HB13 := Lib.hid hB13
    have HB15 := Lib.hid hB15
    have g0 : (0 : Int) ≤ k := Int.natCast_nonneg _
    have x25 : w2.heap.size < w5.heap.size := by omega
    by_cases hlt : (k : Int) < (a0 % 40 + a1 % 40)
    · obtain ⟨k0, k1, k2, k3, k4, k5, kf⟩ := hB7
      obtain ⟨l0, l1, l2, l3, l4, l5, lf⟩ := hB15
      clear hNw hB13
      obtain ⟨i0, i1⟩ := tick_in (n := (k : Int)) HV.out g0 (by omega)
      obtain ⟨j0, j1⟩ := tick_in (n := (k : Int) + 1) HV.out (by omega) (by omega)
      obtain ⟨d0, d1⟩ := tick_near (n := (k : Int)) HV.out g0 (by omega)
      go_wp2_with fail
      refine (tick_then _ _ _ _ _ _ _ _ _ (HN.out.new HNw.out) HV.out g0 (by omega) (by omega) (by omega)).mono ?_
      rintro e w6 ⟨rfl, h6⟩
      have B7 := HB7.out.new h6 (by omega)
      have B13 := HB13.out.new h6 (by omega)
      have B15 := HB15.out.new h6 p15
      have z6 : w5.heap.size + 1 < w6.heap.size := by have := New.size h6; omega
      have z62 : w2.heap.size < w6.heap.size := by omega
      have z65 : w5.heap.size < w6.heap.size := by omega
      have H6 := Lib.hid h6
      clear h6 k0 k1 k2 k3 k4 k5 kf l0 l1 l2 l3 l4 l5 lf
      have HB13 := Lib.hid B13
      obtain ⟨k0, k1, k2, k3, k4, k5, kf⟩ := B7
      obtain ⟨l0, l1, l2, l3, l4, l5, lf⟩ := B15
      obtain ⟨m0, m1, m2, m3, m4, m5, mf⟩ := B13
      go_wp2
      go_roundw
      case rel =>
        have x1 : w2.heap.size ≠ w5.heap.size + 1 := by omega
        have x2 : w5.heap.size ≠ w5.heap.size + 1 := by omega
        have e3 : ((k + 1 : Nat) : Int) = (k : Int) + 1 := by omega
        refine ⟨k + 1, by omega, by go_num, (by repeat (first | with_reducible exact HNw.out | with_reducible exact new0 _ | with_reducible apply New.alloc | with_reducible apply New.drew | with_reducible apply New.drewN | (with_reducible refine New.setCell ?_ (by first | omega | (simp; done) | (simp; omega)) _) | (with_reducible refine New.trans ?_ H6.out))), (by first | omega | (simp; done) | (simp; omega)), ?_, ?_, ?_⟩
        · exact (by refine ⟨?_, ?_, ?_, ?_, ?_, ?_, fun o => ?_⟩ <;> (go_light; simp [go_sem, *]))
        · exact (by refine ⟨?_, ?_, ?_, ?_, ?_, ?_, fun o => ?_⟩ <;> (go_light; simp [go_sem, *]))
        · rw [e3]
          exact (by refine ⟨?_, ?_, ?_, ?_, ?_, ?_, fun o => ?_⟩ <;> (go_light; simp [go_sem, *]))
      case measure => simp [intOf]; omega
    · have e : (k : Int) = (a0 % 40 + a1 % 40) := by omega
      rw [e] at hB15
      obtain ⟨l0, l1, l2, l3, l4, l5, lf⟩ := hB15
      obtain ⟨m0, m1, m2, m3, m4, m5, mf⟩ := hB13
      clear hNw hB7 e
      go_wp2
      go_ret
      exact ⟨rfl, (by repeat (first | with_reducible exact HNw.out | with_reducible exact new0 _ | with_reducible apply New.alloc | with_reducible apply New.drew | with_reducible apply New.drewN | (with_reducible refine New.setCell ?_ (by first | omega | (simp; done) | (simp; omega)) _) | (with_reducible refine New.trans ?_ H5.out)))⟩
end Go.Proofs.YtacfjngnfgnmeaaDoor
