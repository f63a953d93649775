/-
  The reference's descriptions lead to valid converters.
-/
import Derived.Test.YtacfjngnfgnmeaaDoorLaws
import Derived.StillTailTactics
import Derived.Deep.RegionHeld3
namespace Go.Proofs.YtacfjngnfgnmeaaDoor
open Go.RowKit

/-- The pairs of a description lie in memory. -/
def Prs (w : World) (b off n : Nat) (K V : Nat → Int) : Prop := b < w.heap.size ∧ ∀ j, j < n → w.cell? ⟨b, off + j * 2, none⟩ = some (.int .u16 (K j)) ∧ w.cell? ⟨b, off + j * 2 + 1, none⟩ = some (.int .u16 (V j)) ∧ 0 ≤ K j ∧ K j ≤ 65535 ∧ 0 ≤ V j ∧ V j ≤ 65535
theorem Prs.new {W w1 : World} {b off n : Nat} {K V : Nat → Int} (h : Prs W b off n K V) (hb : New W w1) : Prs w1 b off n K V :=
  ⟨by have := New.size hb; have := h.1; omega, fun j hj => ⟨((ncell hb).1 _ _ h.1).trans (h.2 j hj).1, ((ncell hb).1 _ _ h.1).trans (h.2 j hj).2.1, (h.2 j hj).2.2⟩⟩
/-- The least current of a description. -/
def mnOf (m : Int) : Int := (-m).tdiv 2
theorem mnOf_bd {m : Int} (h0 : 0 ≤ m) (h1 : m ≤ 65535) : -32767 ≤ mnOf m ∧ mnOf m ≤ 0 := by
  have : mnOf m = -(m / 2) := by unfold mnOf; rw [Int.neg_tdiv, Int.tdiv_eq_ediv_of_nonneg h0]
  omega
def MadeRel (w : World) (p : Nat) (mn mx st : Int) (wr : World) : Prop :=
  New w wr ∧ w.heap.size < p ∧ p < wr.heap.size ∧ ∃ c : Cv, valE c.s c.cu c.tg mn mx st = 0 ∧ Blk wr p c.s c.cu c.tg mn mx st ∧ Blk wr w.heap.size 0 0 0 0 0 0
def MadePost (w : World) (mn mx st : Int) (e : Ending) (w' : World) : Prop :=
  ∃ c : Cv, e = .returned (.agg #[.int .i64 c.s, .int .i64 c.cu, .int .i64 c.tg, .int .i64 mn, .int .i64 mx, .int .i64 st]) ∧ valE c.s c.cu c.tg mn mx st = 0 ∧ New w w'

theorem rdo_both (s cu tg mn mx st k v : Int) (w : World) :
    Calls Tryd.prog 41 #[.agg #[.int .i64 s, .int .i64 cu, .int .i64 tg, .int .i64 mn, .int .i64 mx, .int .i64 st], .agg #[.int .i64 k, .int .i64 v]] w fun e w' =>
      ((stE s cu tg mn mx st k v = 0 ∧ e = .returned (.tuple #[.agg #[.int .i64 (stS s cu tg st k v), .int .i64 (stC cu tg st k v), .int .i64 (stT tg k v), .int .i64 mn, .int .i64 mx, .int .i64 st], .int .i64 0])) ∨
       (stE s cu tg mn mx st k v ≠ 0 ∧ e = .returned (.tuple #[.agg #[.int .i64 0, .int .i64 0, .int .i64 0, .int .i64 0, .int .i64 0, .int .i64 0], .int .i64 (stE s cu tg mn mx st k v)]))) ∧ New w w' := by
  by_cases h : stE s cu tg mn mx st k v = 0
  · exact (rdo_ok _ _ _ _ _ _ _ _ w h).mono fun e w' ⟨he, hn⟩ => ⟨.inl ⟨h, he⟩, hn⟩
  · exact (rdo_err _ _ _ _ _ _ _ _ w h).mono fun e w' ⟨he, hn⟩ => ⟨.inr ⟨h, he⟩, hn⟩

set_option maxHeartbeats 3200000 in
theorem made_any (m u : Int) (b off n cap : Nat) (K V : Nat → Int) (w : World) (hm0 : 0 ≤ m) (hm1 : m ≤ 65535) (hu0 : 0 ≤ u) (hu1 : u ≤ 255) (hn : n ≤ 9223372036854775807) (hS : Prs w b off n K V) :
    Calls Tryd.prog 31 #[.int .u16 m, .int .u8 u, .slice (some ⟨b, off, none⟩) n cap] w (MadePost w (mnOf m) m (1 + u)) := by
  obtain ⟨b0, b1⟩ := mnOf_bd hm0 hm1
  have HS := Lib.hid hS
  have HL := Lib.hid (show limB (mnOf m) m (1 + u) = true by simp [limB]; omega)
  clear hS
  have HV1 := Lib.hid (show valE 1 0 0 (mnOf m) m (1 + u) = 0 from of_vd ⟨HL.out, by decide, by decide, zero_in HL.out, zero_in HL.out, by decide⟩)
  have HV2 := Lib.hid (show valE 2 0 0 (mnOf m) m (1 + u) = 0 from of_vd ⟨HL.out, by decide, by decide, zero_in HL.out, zero_in HL.out, by decide⟩)
  have HV3 := Lib.hid (show valE 3 0 0 (mnOf m) m (1 + u) = 0 from of_vd ⟨HL.out, by decide, by decide, zero_in HL.out, zero_in HL.out, by decide⟩)
  have em : (-m).tdiv 2 = mnOf m := rfl
  go_enter Tryd.func31, Tryd.ntmps31
  go_wp2_with fail
  refine (rnew_yes _ _ _ _ HL.out).mono ?_
  rintro e w1 ⟨rfl, h1⟩
  have B6 : Blk w1 w.heap.size 0 0 0 0 0 0 := (Blk.alloc w 0 0 0 0 0 0).new h1 (by first | omega | (simp; done) | (simp; omega))
  have z1 : w.heap.size < w1.heap.size := by have := New.size h1; (try simp at this); omega
  have H1 := Lib.hid (New.trans ((new0 w).alloc _) h1)
  clear h1 em
  obtain ⟨l0, l1, l2, l3, l4, l5, lf⟩ := B6
  go_wp2_with fail
  refine (rcmd_1 _ _ _ _ _ _ _ _ HV1.out (by decide)).mono ?_
  rintro e w2 ⟨rfl, h2⟩
  have B6 : Blk w2 w.heap.size 0 0 0 0 0 0 := Blk.new (by refine ⟨?_, ?_, ?_, ?_, ?_, ?_, fun o => ?_⟩ <;> (go_light; simp [go_sem, *])) h2 (by first | omega | (simp; done) | (simp; omega))
  have B7 : Blk w2 w1.heap.size 1 0 0 (mnOf m) m (1 + u) := Blk.new (by refine ⟨?_, ?_, ?_, ?_, ?_, ?_, fun o => ?_⟩ <;> (go_light; simp [go_sem, *])) h2 (by first | omega | (simp; done) | (simp; omega))
  have z2 : w1.heap.size < w2.heap.size := by have := New.size h2; (try simp at this); omega
  have H2 := Lib.hid (New.trans (by repeat (first | with_reducible exact new0 _ | with_reducible apply New.alloc | with_reducible apply New.drew | (with_reducible refine New.setCell ?_ (by first | omega | (simp; done) | (simp; omega)) _) | (with_reducible refine New.trans ?_ H1.out))) h2 : New w w2)
  clear h2 l0 l1 l2 l3 l4 l5 lf
  obtain ⟨l0, l1, l2, l3, l4, l5, lf⟩ := B6
  obtain ⟨k0, k1, k2, k3, k4, k5, kf⟩ := B7
  go_wp2_with fail
  refine (rcmd_2 _ _ _ _ _ _ _ _ HV2.out (by decide)).mono ?_
  rintro e w3 ⟨rfl, h3⟩
  have x1 : w.heap.size ≠ w1.heap.size := by omega
  have x2 : w1.heap.size ≠ w.heap.size := by omega
  have B6 : Blk w3 w.heap.size 0 0 0 0 0 0 := Blk.new (by refine ⟨?_, ?_, ?_, ?_, ?_, ?_, fun o => ?_⟩ <;> (go_light; simp [go_sem, *])) h3 (by first | omega | (simp; done) | (simp; omega))
  have B7 : Blk w3 w1.heap.size 2 0 0 (mnOf m) m (1 + u) := Blk.new (by refine ⟨?_, ?_, ?_, ?_, ?_, ?_, fun o => ?_⟩ <;> (go_light; simp [go_sem, *])) h3 (by first | omega | (simp; done) | (simp; omega))
  have z3 : w1.heap.size < w3.heap.size := by have := New.size h3; (try simp at this); omega
  have H3 := Lib.hid (New.trans (by repeat (first | with_reducible exact new0 _ | with_reducible apply New.alloc | with_reducible apply New.drew | (with_reducible refine New.setCell ?_ (by first | omega | (simp; done) | (simp; omega)) _) | (with_reducible refine New.trans ?_ H2.out))) h3 : New w w3)
  clear h3 l0 l1 l2 l3 l4 l5 lf k0 k1 k2 k3 k4 k5 kf
  obtain ⟨l0, l1, l2, l3, l4, l5, lf⟩ := B6
  obtain ⟨k0, k1, k2, k3, k4, k5, kf⟩ := B7
  go_wp2_with fail
  go_loopw [9] (fun i wr => ∃ k : Nat, k ≤ n ∧ k ≤ 20 ∧ i = .int .i64 k ∧ MadeRel w w1.heap.size (mnOf m) m (1 + u) wr) (fun i _ => 20 - (intOf i).toNat)
  case atStart =>
    refine ⟨0, by omega, by omega, rfl, (by repeat (first | with_reducible exact new0 _ | with_reducible apply New.alloc | with_reducible apply New.drew | (with_reducible refine New.setCell ?_ (by first | omega | (simp; done) | (simp; omega)) _) | (with_reducible refine New.trans ?_ H3.out))), by omega, (by first | omega | (simp; done) | (simp; omega)), ⟨3, 0, 0⟩, HV3.out, ?_, ?_⟩
    · exact (by refine ⟨?_, ?_, ?_, ?_, ?_, ?_, fun o => ?_⟩ <;> (go_light; simp [go_sem, *]))
    · exact (by refine ⟨?_, ?_, ?_, ?_, ?_, ?_, fun o => ?_⟩ <;> (go_light; simp [go_sem, *]))
  case round =>
    obtain ⟨k, hk, hk2, rfl, hR⟩ := hrel
    obtain ⟨hNw, p0, p1, c, hv, hB7, hB6⟩ := hR
    by_cases hlt : k < n ∧ k < 20
    · obtain ⟨hlt, hlt2⟩ := hlt
      obtain ⟨g0, g1, gk0, gk1, gv0, gv1⟩ := (HS.out.new hNw).2 k hlt
      have hbz : b < wr.heap.size := (HS.out.new hNw).1
      have HB7 := Lib.hid hB7
      have HB6 := Lib.hid hB6
      have HNw := Lib.hid hNw
      have HV := Lib.hid hv
      obtain ⟨k0, k1, k2, k3, k4, k5, kf⟩ := hB7
      clear hNw hv hB6
      have hq : 0 ≤ K k % 7 := by omega
      by_cases h3 : K k % 7 = 3
      · go_wp2_with fail
        go_region_held3 (fun w' => w'.cell? ⟨b, off + k * 2, none⟩ = some (.int .u16 (K k)) ∧ w'.cell? ⟨b, off + k * 2 + 1, none⟩ = some (.int .u16 (V k)))
          (first | exact ⟨g0, g1⟩ | go_keep)
          (first | fail)
        go_wp2_with fail
        go_region
        go_wp2_with fail
        refine (rdo_both _ _ _ _ _ _ _ _ _).mono ?_
        rintro e w4 ⟨(⟨hE, rfl⟩ | ⟨hE, rfl⟩), h4⟩
        · have hw4 : New wr w4 := New.trans (by repeat (first | with_reducible exact new0 _ | with_reducible apply New.alloc | with_reducible apply New.drew | (with_reducible refine New.setCell ?_ (by first | omega | (simp; done) | (simp; omega)) _))) h4
          have B7 := HB7.out.new hw4 p1
          have B6 := HB6.out.new hw4 (by omega)
          have hy : w1.heap.size < w4.heap.size := by have := New.size hw4; omega
          have hy0 : w.heap.size < w4.heap.size := by omega
          have HX := Lib.hid (st_valid hE)
          have HW4 := Lib.hid hw4
          clear hE hw4 h4 k0 k1 k2 k3 k4 k5 kf
          obtain ⟨k0, k1, k2, k3, k4, k5, kf⟩ := B7
          obtain ⟨l0, l1, l2, l3, l4, l5, lf⟩ := B6
          go_wp2
          go_roundw
          case rel =>
            have x1 : w.heap.size ≠ w1.heap.size := by omega
            have x2 : w1.heap.size ≠ w.heap.size := by omega
            refine ⟨k + 1, by omega, by omega, by go_num, (by repeat (first | with_reducible exact new0 _ | with_reducible exact HNw.out | with_reducible apply New.alloc | with_reducible apply New.drew | (with_reducible refine New.setCell ?_ (by first | omega | (simp; done) | (simp; omega)) _) | (with_reducible refine New.trans ?_ HW4.out))), by omega, by simp; omega, (⟨stS c.s c.cu c.tg (1 + u) 3 (wrap64 (V k % (m - mnOf m + 1) + mnOf m)), stC c.cu c.tg (1 + u) 3 (wrap64 (V k % (m - mnOf m + 1) + mnOf m)), stT c.tg 3 (wrap64 (V k % (m - mnOf m + 1) + mnOf m))⟩ : Cv), HX.out, ?_, ?_⟩
            · exact (by refine ⟨?_, ?_, ?_, ?_, ?_, ?_, fun o => ?_⟩ <;> (go_light; simp [go_sem, *]))
            · exact (by refine ⟨?_, ?_, ?_, ?_, ?_, ?_, fun o => ?_⟩ <;> (go_light; simp [go_sem, *]))
          case measure => simp [intOf]; omega
        · have hw4 : New wr w4 := New.trans (by repeat (first | with_reducible exact new0 _ | with_reducible apply New.alloc | with_reducible apply New.drew | (with_reducible refine New.setCell ?_ (by first | omega | (simp; done) | (simp; omega)) _))) h4
          have hE' : (stE c.s c.cu c.tg (mnOf m) m (1 + u) 3 (wrap64 (V k % (m - mnOf m + 1) + mnOf m)) != 0) = true := by simpa using hE
          have B7 := HB7.out.new hw4 p1
          have B6 := HB6.out.new hw4 (by omega)
          have hy : w1.heap.size < w4.heap.size := by have := New.size hw4; omega
          have hy0 : w.heap.size < w4.heap.size := by omega
          have HW4 := Lib.hid hw4
          clear hE hw4 h4 k0 k1 k2 k3 k4 k5 kf
          go_wp2
          go_roundw
          case rel =>
            refine ⟨k + 1, by omega, by omega, by go_num, (by repeat (first | with_reducible exact new0 _ | with_reducible exact HNw.out | with_reducible apply New.alloc | with_reducible apply New.drew | (with_reducible refine New.setCell ?_ (by first | omega | (simp; done) | (simp; omega)) _) | (with_reducible refine New.trans ?_ HW4.out))), by omega, by simp; omega, c, HV.out, ?_, ?_⟩
            · exact B7.new ((new0 _).alloc _) (by omega)
            · exact B6.new ((new0 _).alloc _) (by omega)
          case measure => simp [intOf]; omega
      · have h3' : (K k % 7 == 3) = false := by simpa using h3
        go_wp2_with fail
        go_region_held3 (fun w' => w'.cell? ⟨b, off + k * 2, none⟩ = some (.int .u16 (K k)) ∧ w'.cell? ⟨b, off + k * 2 + 1, none⟩ = some (.int .u16 (V k)))
          (first | exact ⟨g0, g1⟩ | go_keep)
          (first | fail)
        go_wp2_with fail
        refine (rdo_both _ _ _ _ _ _ _ _ _).mono ?_
        rintro e w4 ⟨(⟨hE, rfl⟩ | ⟨hE, rfl⟩), h4⟩
        · have hw4 : New wr w4 := New.trans (by repeat (first | with_reducible exact new0 _ | with_reducible apply New.alloc | with_reducible apply New.drew | (with_reducible refine New.setCell ?_ (by first | omega | (simp; done) | (simp; omega)) _))) h4
          have B7 := HB7.out.new hw4 p1
          have B6 := HB6.out.new hw4 (by omega)
          have hy : w1.heap.size < w4.heap.size := by have := New.size hw4; omega
          have hy0 : w.heap.size < w4.heap.size := by omega
          have HX := Lib.hid (st_valid hE)
          have HW4 := Lib.hid hw4
          clear hE hw4 h4 k0 k1 k2 k3 k4 k5 kf
          obtain ⟨k0, k1, k2, k3, k4, k5, kf⟩ := B7
          obtain ⟨l0, l1, l2, l3, l4, l5, lf⟩ := B6
          go_wp2
          go_roundw
          case rel =>
            have x1 : w.heap.size ≠ w1.heap.size := by omega
            have x2 : w1.heap.size ≠ w.heap.size := by omega
            refine ⟨k + 1, by omega, by omega, by go_num, (by repeat (first | with_reducible exact new0 _ | with_reducible exact HNw.out | with_reducible apply New.alloc | with_reducible apply New.drew | (with_reducible refine New.setCell ?_ (by first | omega | (simp; done) | (simp; omega)) _) | (with_reducible refine New.trans ?_ HW4.out))), by omega, by simp; omega, (⟨stS c.s c.cu c.tg (1 + u) (K k % 7) (V k), stC c.cu c.tg (1 + u) (K k % 7) (V k), stT c.tg (K k % 7) (V k)⟩ : Cv), HX.out, ?_, ?_⟩
            · exact (by refine ⟨?_, ?_, ?_, ?_, ?_, ?_, fun o => ?_⟩ <;> (go_light; simp [go_sem, *]))
            · exact (by refine ⟨?_, ?_, ?_, ?_, ?_, ?_, fun o => ?_⟩ <;> (go_light; simp [go_sem, *]))
          case measure => simp [intOf]; omega
        · have hw4 : New wr w4 := New.trans (by repeat (first | with_reducible exact new0 _ | with_reducible apply New.alloc | with_reducible apply New.drew | (with_reducible refine New.setCell ?_ (by first | omega | (simp; done) | (simp; omega)) _))) h4
          have hE' : (stE c.s c.cu c.tg (mnOf m) m (1 + u) (K k % 7) (V k) != 0) = true := by simpa using hE
          have B7 := HB7.out.new hw4 p1
          have B6 := HB6.out.new hw4 (by omega)
          have hy : w1.heap.size < w4.heap.size := by have := New.size hw4; omega
          have hy0 : w.heap.size < w4.heap.size := by omega
          have HW4 := Lib.hid hw4
          clear hE hw4 h4 k0 k1 k2 k3 k4 k5 kf
          go_wp2
          go_roundw
          case rel =>
            refine ⟨k + 1, by omega, by omega, by go_num, (by repeat (first | with_reducible exact new0 _ | with_reducible exact HNw.out | with_reducible apply New.alloc | with_reducible apply New.drew | (with_reducible refine New.setCell ?_ (by first | omega | (simp; done) | (simp; omega)) _) | (with_reducible refine New.trans ?_ HW4.out))), by omega, by simp; omega, c, HV.out, ?_, ?_⟩
            · exact B7.new ((new0 _).alloc _) (by omega)
            · exact B6.new ((new0 _).alloc _) (by omega)
          case measure => simp [intOf]; omega
    · obtain ⟨k0, k1, k2, k3, k4, k5, kf⟩ := hB7
      obtain ⟨l0, l1, l2, l3, l4, l5, lf⟩ := hB6
      have HNw := Lib.hid hNw
      have hne : w.heap.size ≠ w1.heap.size := by omega
      by_cases hkn : k < n
      · have hk20 : ¬ k < 20 := fun h => hlt ⟨hkn, h⟩
        clear hlt hNw
        go_wp2
        exact bodyPost_ret (v := .agg #[.int .i64 c.s, .int .i64 c.cu, .int .i64 c.tg, .int .i64 (mnOf m), .int .i64 m, .int .i64 (1 + u)]) (by go_light; simp [results, Tryd.results31, go_sem, *]) rfl ⟨c, rfl, hv, (by repeat (first | with_reducible exact new0 _ | with_reducible exact HNw.out | with_reducible apply New.alloc | with_reducible apply New.drew | (with_reducible refine New.setCell ?_ (by first | omega | (simp; done) | (simp; omega)) _)))⟩
      · clear hlt hNw
        go_wp2
        exact bodyPost_ret (v := .agg #[.int .i64 c.s, .int .i64 c.cu, .int .i64 c.tg, .int .i64 (mnOf m), .int .i64 m, .int .i64 (1 + u)]) (by go_light; simp [results, Tryd.results31, go_sem, *]) rfl ⟨c, rfl, hv, (by repeat (first | with_reducible exact new0 _ | with_reducible exact HNw.out | with_reducible apply New.alloc | with_reducible apply New.drew | (with_reducible refine New.setCell ?_ (by first | omega | (simp; done) | (simp; omega)) _)))⟩
end Go.Proofs.YtacfjngnfgnmeaaDoor
