/-
  The reference's descriptions without pairs lead to a valid converter, too.
-/
import Derived.Test.YtacfjngnfgnmeaaDoorMade
namespace Go.Proofs.YtacfjngnfgnmeaaDoor
open Go.RowKit

set_option maxHeartbeats 3200000 in
theorem made_nil (m u : Int) (a : Option Addr) (cap : Nat) (w : World) (hm0 : 0 ≤ m) (hm1 : m ≤ 65535) (hu0 : 0 ≤ u) (hu1 : u ≤ 255) :
    Calls Tryd.prog 31 #[.int .u16 m, .int .u8 u, .slice a 0 cap] w (MadePost w (mnOf m) m (1 + u)) := by
  obtain ⟨b0, b1⟩ := mnOf_bd hm0 hm1
  have HL := Lib.hid (show limB (mnOf m) m (1 + u) = true by simp [limB]; omega)
  have HV1 := Lib.hid (show valE 1 0 0 (mnOf m) m (1 + u) = 0 from of_vd ⟨HL.out, by decide, by decide, zero_in HL.out, zero_in HL.out, by decide⟩)
  have HV2 := Lib.hid (show valE 2 0 0 (mnOf m) m (1 + u) = 0 from of_vd ⟨HL.out, by decide, by decide, zero_in HL.out, zero_in HL.out, by decide⟩)
  have HV3 := Lib.hid (show valE 3 0 0 (mnOf m) m (1 + u) = 0 from of_vd ⟨HL.out, by decide, by decide, zero_in HL.out, zero_in HL.out, by decide⟩)
  have em : (-m).tdiv 2 = mnOf m := rfl
  go_enter Tryd.func31, Tryd.ntmps31
  go_wp2_with fail
  refine (rnew_yes _ _ _ _ HL.out).mono ?_
  rintro e w1 ⟨rfl, h1⟩
  have B6 : Blk w1 w.heap.size 0 0 0 0 0 0 := (Blk.alloc w 0 0 0 0 0 0).new h1 (by first | omega | (simp; done) | (simp; omega))
  have z1 : w.heap.size < w1.heap.size := by have := New.size h1; (try simp at this); omega
  have H1 := Lib.hid (New.trans ((new0 w).alloc _) h1)
  clear h1 em
  obtain ⟨l0, l1, l2, l3, l4, l5, lf⟩ := B6
  go_wp2_with fail
  refine (rcmd_1 _ _ _ _ _ _ _ _ HV1.out (by decide)).mono ?_
  rintro e w2 ⟨rfl, h2⟩
  have B6 : Blk w2 w.heap.size 0 0 0 0 0 0 := Blk.new (by refine ⟨?_, ?_, ?_, ?_, ?_, ?_, fun o => ?_⟩ <;> (go_light; simp [go_sem, *])) h2 (by first | omega | (simp; done) | (simp; omega))
  have B7 : Blk w2 w1.heap.size 1 0 0 (mnOf m) m (1 + u) := Blk.new (by refine ⟨?_, ?_, ?_, ?_, ?_, ?_, fun o => ?_⟩ <;> (go_light; simp [go_sem, *])) h2 (by first | omega | (simp; done) | (simp; omega))
  have z2 : w1.heap.size < w2.heap.size := by have := New.size h2; (try simp at this); omega
  have H2 := Lib.hid (New.trans (by repeat (first | with_reducible exact new0 _ | with_reducible apply New.alloc | with_reducible apply New.drew | (with_reducible refine New.setCell ?_ (by first | omega | (simp; done) | (simp; omega)) _) | (with_reducible refine New.trans ?_ H1.out))) h2 : New w w2)
  clear h2 l0 l1 l2 l3 l4 l5 lf
  obtain ⟨l0, l1, l2, l3, l4, l5, lf⟩ := B6
  obtain ⟨k0, k1, k2, k3, k4, k5, kf⟩ := B7
  go_wp2_with fail
  refine (rcmd_2 _ _ _ _ _ _ _ _ HV2.out (by decide)).mono ?_
  rintro e w3 ⟨rfl, h3⟩
  have x1 : w.heap.size ≠ w1.heap.size := by omega
  have x2 : w1.heap.size ≠ w.heap.size := by omega
  have B6 : Blk w3 w.heap.size 0 0 0 0 0 0 := Blk.new (by refine ⟨?_, ?_, ?_, ?_, ?_, ?_, fun o => ?_⟩ <;> (go_light; simp [go_sem, *])) h3 (by first | omega | (simp; done) | (simp; omega))
  have B7 : Blk w3 w1.heap.size 2 0 0 (mnOf m) m (1 + u) := Blk.new (by refine ⟨?_, ?_, ?_, ?_, ?_, ?_, fun o => ?_⟩ <;> (go_light; simp [go_sem, *])) h3 (by first | omega | (simp; done) | (simp; omega))
  have z3 : w1.heap.size < w3.heap.size := by have := New.size h3; (try simp at this); omega
  have H3 := Lib.hid (New.trans (by repeat (first | with_reducible exact new0 _ | with_reducible apply New.alloc | with_reducible apply New.drew | (with_reducible refine New.setCell ?_ (by first | omega | (simp; done) | (simp; omega)) _) | (with_reducible refine New.trans ?_ H2.out))) h3 : New w w3)
  clear h3 l0 l1 l2 l3 l4 l5 lf k0 k1 k2 k3 k4 k5 kf
  obtain ⟨l0, l1, l2, l3, l4, l5, lf⟩ := B6
  obtain ⟨k0, k1, k2, k3, k4, k5, kf⟩ := B7
  go_wp2_with fail
  go_loopw [9] (fun i wr => ∃ k : Nat, k ≤ 0 ∧ k ≤ 20 ∧ i = .int .i64 k ∧ MadeRel w w1.heap.size (mnOf m) m (1 + u) wr) (fun i _ => 20 - (intOf i).toNat)
  case atStart =>
    refine ⟨0, by omega, by omega, rfl, (by repeat (first | with_reducible exact new0 _ | with_reducible apply New.alloc | with_reducible apply New.drew | (with_reducible refine New.setCell ?_ (by first | omega | (simp; done) | (simp; omega)) _) | (with_reducible refine New.trans ?_ H3.out))), by omega, (by first | omega | (simp; done) | (simp; omega)), ⟨3, 0, 0⟩, HV3.out, ?_, ?_⟩
    · exact (by refine ⟨?_, ?_, ?_, ?_, ?_, ?_, fun o => ?_⟩ <;> (go_light; simp [go_sem, *]))
    · exact (by refine ⟨?_, ?_, ?_, ?_, ?_, ?_, fun o => ?_⟩ <;> (go_light; simp [go_sem, *]))
  case round =>
    obtain ⟨k, hk, hk2, rfl, hR⟩ := hrel
    obtain ⟨hNw, p0, p1, c, hv, hB7, hB6⟩ := hR
    obtain rfl : k = 0 := by omega
    obtain ⟨k0, k1, k2, k3, k4, k5, kf⟩ := hB7
    obtain ⟨l0, l1, l2, l3, l4, l5, lf⟩ := hB6
    have HNw := Lib.hid hNw
    have hne : w.heap.size ≠ w1.heap.size := by omega
    clear hNw
    go_wp2
    exact bodyPost_ret (v := .agg #[.int .i64 c.s, .int .i64 c.cu, .int .i64 c.tg, .int .i64 (mnOf m), .int .i64 m, .int .i64 (1 + u)]) (by go_light; simp [results, Tryd.results31, go_sem, *]) rfl ⟨c, rfl, hv, (by repeat (first | with_reducible exact new0 _ | with_reducible exact HNw.out | with_reducible apply New.alloc | with_reducible apply New.drew | (with_reducible refine New.setCell ?_ (by first | omega | (simp; done) | (simp; omega)) _)))⟩
end Go.Proofs.YtacfjngnfgnmeaaDoor
