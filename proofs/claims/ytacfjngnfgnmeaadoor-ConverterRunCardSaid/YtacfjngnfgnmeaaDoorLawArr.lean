/-
  The walks of the statements ConverterArrives and ConverterTrips.
-/
import Derived.Test.YtacfjngnfgnmeaaDoorMadenil
namespace Go.Proofs.YtacfjngnfgnmeaaDoor
open Go.RowKit

/-- A description's pairs, none too. -/
def PrsV (w : World) (v : Value) : Prop := (∃ (a : Option Addr) (cap : Nat), v = .slice a 0 cap) ∨ ∃ (b off n cap : Nat) (K V : Nat → Int), v = .slice (some ⟨b, off, none⟩) n cap ∧ n ≤ 9223372036854775807 ∧ Prs w b off n K V
theorem PrsV.new {W w1 : World} {v : Value} (h : PrsV W v) (hb : New W w1) : PrsV w1 v := by
  rcases h with h | ⟨b, off, n, cap, K, V, h1, h2, h3⟩
  · exact .inl h
  · exact .inr ⟨b, off, n, cap, K, V, h1, h2, h3.new hb⟩
theorem made_v (m u : Int) (v : Value) (w : World) (hm0 : 0 ≤ m) (hm1 : m ≤ 65535) (hu0 : 0 ≤ u) (hu1 : u ≤ 255) (h : PrsV w v) : Calls Tryd.prog 31 #[.int .u16 m, .int .u8 u, v] w (MadePost w (mnOf m) m (1 + u)) := by
  rcases h with ⟨a, cap, rfl⟩ | ⟨b, off, n, cap, K, V, rfl, h2, h3⟩
  · exact made_nil m u a cap w hm0 hm1 hu0 hu1
  · exact made_any m u b off n cap K V w hm0 hm1 hu0 hu1 h2 h3
theorem rem_nonneg {cu tg st : Int} (h : Bd cu tg st) : 0 ≤ remI cu tg st := by
  have := dist_bd h
  exact Int.ediv_nonneg (by have := h.s0; omega) (by have := h.s0; omega)
theorem rem_dist {cu tg st : Int} (h : Bd cu tg st) : remI cu tg st ≤ dist cu tg := by
  have h0 := dist_bd h
  have h1 := h.s0
  unfold remI
  by_cases e : dist cu tg = 0
  · rw [e, Int.ediv_eq_zero_of_lt (by omega) (by omega)]; omega
  · apply Int.ediv_le_of_le_mul (by omega)
    have : 0 ≤ (dist cu tg - 1) * (st - 1) := Int.mul_nonneg (by omega) (by omega)
    have e2 : (dist cu tg - 1) * (st - 1) = dist cu tg * st - dist cu tg - st + 1 := by
      rw [Int.sub_mul, Int.mul_sub, Int.mul_one, Int.one_mul]; omega
    omega
theorem rem_zero {cu tg st : Int} (h : Bd cu tg st) (e : remI cu tg st = 0) : cu = tg := by
  have h0 := dist_bd h
  have h1 := h.s0
  have h2 : dist cu tg + st - 1 < st := by
    unfold remI at e
    have := Int.lt_mul_of_ediv_lt (a := dist cu tg + st - 1) (b := 1) (c := st) (by omega) (by rw [e]; decide)
    omega
  have : dist cu tg = 0 := by omega
  unfold dist at this
  split at this <;> omega
theorem made_rem {s cu tg m u : Int} (hm0 : 0 ≤ m) (hm1 : m ≤ 65535) (_hu0 : 0 ≤ u) (hv : valE s cu tg (mnOf m) m (1 + u) = 0) : 0 ≤ remI cu tg (1 + u) ∧ remI cu tg (1 + u) ≤ 98302 := by
  have hb := bd_of hv
  refine ⟨rem_nonneg hb, Int.le_trans (rem_dist hb) ?_⟩
  obtain ⟨_, _, _, hc, ht, _⟩ := vd_of hv
  have := mnOf_bd hm0 hm1
  simp [alwB] at hc ht
  unfold dist
  split <;> omega
theorem tick_at {s cu tg st : Int} : tickC cu tg st (remI cu tg st) = tg ∧ (tickS s cu tg st (remI cu tg st) == 4) = false := by
  unfold tickC tickS
  simp
  split <;> omega
theorem tick_before {cu tg st n : Int} (h : Bd cu tg st) (h0 : 0 ≤ n) (h1 : n < remI cu tg st) : (tickC cu tg st n != tg) = true := by
  obtain ⟨p0, p1, p2⟩ := part h h0 h1
  unfold tickC
  rw [if_neg (by omega)]
  unfold dist at p1
  simp
  split <;> (split at p1 <;> omega)
theorem tickE_zero {s cu tg mn mx st n : Int} (hv : valE s cu tg mn mx st = 0) (h0 : 0 ≤ n) (h1 : n ≤ 1099511627776) : tickE s cu tg mn mx st n = 0 := by
  unfold tickE; rw [if_neg (by omega), if_neg (by omega)]
set_option maxHeartbeats 3200000 in
theorem law_arrives (m u : Int) (v : Value) (w : World) (hN : Nm w) (hm0 : 0 ≤ m) (hm1 : m ≤ 65535) (hu0 : 0 ≤ u) (hu1 : u ≤ 255) (hP : PrsV w v) :
    Calls Tryd.prog 9 #[.int .u16 m, .int .u8 u, v] w fun e w' => e = .returned (.bool true) ∧ New w w' := by
  have HN := Lib.hid hN
  have HP := Lib.hid hP
  clear hN hP
  go_enter Tryd.func9, Tryd.ntmps9
  go_wp2_with fail
  refine (awake_any _ HN.out).mono ?_
  rintro e w1 ⟨rfl, h1⟩
  have z1 : w.heap.size ≤ w1.heap.size := New.size h1
  have HP1 := Lib.hid (HP.out.new h1)
  have H1 := Lib.hid h1
  clear h1
  go_wp2_with fail
  refine (made_v _ _ _ _ (by omega) (by omega) (by omega) (by omega) HP1.out).mono ?_
  rintro e w2 ⟨c, rfl, hv, h2⟩
  have H2 := Lib.hid (New.trans H1.out h2)
  have HV := Lib.hid hv
  obtain ⟨r0, r1⟩ := made_rem hm0 hm1 hu0 hv
  clear h2 hv
  have HT0 := Lib.hid (tickE_zero (n := remI c.cu c.tg (1 + u)) HV.out r0 (by omega))
  obtain ⟨t0, t1⟩ := tick_at (s := c.s) (cu := c.cu) (tg := c.tg) (st := 1 + u)
  go_wp2_with fail
  refine (remq_ok _ _ _ _ _ _ _ (HN.out.new (by repeat (first | with_reducible exact new0 _ | with_reducible apply New.alloc | with_reducible apply New.drew | (with_reducible refine New.setCell ?_ (by first | omega | (simp; done) | (simp; omega)) _) | (with_reducible refine New.trans ?_ H2.out)))) HV.out).mono ?_
  rintro e w3 ⟨rfl, h3⟩
  have B0 : Blk w3 w2.heap.size c.s c.cu c.tg (mnOf m) m (1 + u) := Blk.new (by refine ⟨?_, ?_, ?_, ?_, ?_, ?_, fun o => ?_⟩ <;> (go_light; simp [go_sem, *])) h3 (by first | omega | (simp; done) | (simp; omega))
  have z30 : w2.heap.size < w3.heap.size := by have := New.size h3; (try simp at this); omega
  have H3 := Lib.hid (New.trans (by repeat (first | with_reducible exact new0 _ | with_reducible apply New.alloc | with_reducible apply New.drew | (with_reducible refine New.setCell ?_ (by first | omega | (simp; done) | (simp; omega)) _) | (with_reducible refine New.trans ?_ H2.out))) h3 : New w w3)
  clear h3
  obtain ⟨k0, k1, k2, k3, k4, k5, kf⟩ := B0
  by_cases e0 : remI c.cu c.tg (1 + u) = 0
  · have e1 : (remI c.cu c.tg (1 + u) == 0) = true := by simpa using e0
    have ec : c.cu = c.tg := rem_zero (bd_of HV.out) e0
    have EC := Lib.hid ec
    clear e0 ec
    go_wp2_with fail
    refine (tick_ok _ _ _ _ _ _ _ _ (HN.out.new (by repeat (first | with_reducible exact new0 _ | with_reducible apply New.alloc | with_reducible apply New.drew | (with_reducible refine New.setCell ?_ (by first | omega | (simp; done) | (simp; omega)) _) | (with_reducible refine New.trans ?_ H3.out)))) HT0.out).mono ?_
    rintro e w4 ⟨rfl, h4⟩
    have B0 : Blk w4 w2.heap.size c.s c.cu c.tg (mnOf m) m (1 + u) := Blk.new (by refine ⟨?_, ?_, ?_, ?_, ?_, ?_, fun o => ?_⟩ <;> (go_light; simp [go_sem, *])) h4 (by first | omega | (simp; done) | (simp; omega))
    have z40 : w2.heap.size < w4.heap.size := by have := New.size h4; (try simp at this); omega
    have H4 := Lib.hid (New.trans (by repeat (first | with_reducible exact new0 _ | with_reducible apply New.alloc | with_reducible apply New.drew | (with_reducible refine New.setCell ?_ (by first | omega | (simp; done) | (simp; omega)) _) | (with_reducible refine New.trans ?_ H3.out))) h4 : New w w4)
    clear h4 k0 k1 k2 k3 k4 k5 kf
    obtain ⟨k0, k1, k2, k3, k4, k5, kf⟩ := B0
    have ec : (c.cu == c.tg) = true := by have := EC.out; simpa using this
    go_wp2
    go_ret
    exact ⟨rfl, (by repeat (first | with_reducible exact new0 _ | with_reducible apply New.alloc | with_reducible apply New.drew | (with_reducible refine New.setCell ?_ (by first | omega | (simp; done) | (simp; omega)) _) | (with_reducible refine New.trans ?_ H4.out)))⟩
  · have e1 : (remI c.cu c.tg (1 + u) == 0) = false := by simpa using e0
    have HT1 := Lib.hid (tickE_zero (n := remI c.cu c.tg (1 + u) - 1) HV.out (by omega) (by omega))
    have tb := tick_before (n := remI c.cu c.tg (1 + u) - 1) (bd_of HV.out) (by omega) (by omega)
    clear e0
    go_wp2_with fail
    refine (tick_ok _ _ _ _ _ _ _ _ (HN.out.new (by repeat (first | with_reducible exact new0 _ | with_reducible apply New.alloc | with_reducible apply New.drew | (with_reducible refine New.setCell ?_ (by first | omega | (simp; done) | (simp; omega)) _) | (with_reducible refine New.trans ?_ H3.out)))) HT0.out).mono ?_
    rintro e w4 ⟨rfl, h4⟩
    have B0 : Blk w4 w2.heap.size c.s c.cu c.tg (mnOf m) m (1 + u) := Blk.new (by refine ⟨?_, ?_, ?_, ?_, ?_, ?_, fun o => ?_⟩ <;> (go_light; simp [go_sem, *])) h4 (by first | omega | (simp; done) | (simp; omega))
    have z40 : w2.heap.size < w4.heap.size := by have := New.size h4; (try simp at this); omega
    have H4 := Lib.hid (New.trans (by repeat (first | with_reducible exact new0 _ | with_reducible apply New.alloc | with_reducible apply New.drew | (with_reducible refine New.setCell ?_ (by first | omega | (simp; done) | (simp; omega)) _) | (with_reducible refine New.trans ?_ H3.out))) h4 : New w w4)
    clear h4 k0 k1 k2 k3 k4 k5 kf
    obtain ⟨k0, k1, k2, k3, k4, k5, kf⟩ := B0
    go_wp2_with fail
    refine (tick_ok _ _ _ _ _ _ _ _ (HN.out.new (by repeat (first | with_reducible exact new0 _ | with_reducible apply New.alloc | with_reducible apply New.drew | (with_reducible refine New.setCell ?_ (by first | omega | (simp; done) | (simp; omega)) _) | (with_reducible refine New.trans ?_ H4.out)))) HT1.out).mono ?_
    rintro e w5 ⟨rfl, h5⟩
    have B0 : Blk w5 w2.heap.size c.s c.cu c.tg (mnOf m) m (1 + u) := Blk.new (by refine ⟨?_, ?_, ?_, ?_, ?_, ?_, fun o => ?_⟩ <;> (go_light; simp [go_sem, *])) h5 (by first | omega | (simp; done) | (simp; omega))
    have z50 : w2.heap.size < w5.heap.size := by have := New.size h5; (try simp at this); omega
    have H5 := Lib.hid (New.trans (by repeat (first | with_reducible exact new0 _ | with_reducible apply New.alloc | with_reducible apply New.drew | (with_reducible refine New.setCell ?_ (by first | omega | (simp; done) | (simp; omega)) _) | (with_reducible refine New.trans ?_ H4.out))) h5 : New w w5)
    clear h5 k0 k1 k2 k3 k4 k5 kf
    obtain ⟨k0, k1, k2, k3, k4, k5, kf⟩ := B0
    go_wp2
    go_ret
    exact ⟨rfl, (by repeat (first | with_reducible exact new0 _ | with_reducible apply New.alloc | with_reducible apply New.drew | (with_reducible refine New.setCell ?_ (by first | omega | (simp; done) | (simp; omega)) _) | (with_reducible refine New.trans ?_ H5.out)))⟩
end Go.Proofs.YtacfjngnfgnmeaaDoor
