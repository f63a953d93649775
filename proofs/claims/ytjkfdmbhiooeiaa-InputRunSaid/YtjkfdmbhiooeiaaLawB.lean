/-
  The walks of statements of layer 43.
-/
import Derived.Test.YtjkfdmbhiooeiaaLawA
namespace Go.Proofs.Ytjkfdmbhiooeiaa
open Go.RowKit
/-- The four numbers that Filter answers. -/
def flR (nm : ByteArray) (ma ri fa fs fc fn r : Int) (i : Nat) : Int :=
  if i = 0 then fltV (valE nm ma ri fa) (filE ri fa fs fc fn) r (stpS ri fa fs fc fn r) else if i = 1 then fltV (valE nm ma ri fa) (filE ri fa fs fc fn) r (stpC ri fa fs fc fn r) else if i = 2 then fltV (valE nm ma ri fa) (filE ri fa fs fc fn) r (stpN ri fa fs fc fn r) else fltE (valE nm ma ri fa) (filE ri fa fs fc fn) r
theorem filter_y (nm : ByteArray) (ma ri fa fs fc fn r : Int) (w : World) : Calls Try.prog 18 #[.agg #[.string nm, .int .i64 ma, .int .i64 ri, .int .i64 fa], .agg #[.int .i64 fs, .int .i64 fc, .int .i64 fn], .int .i64 r] w fun e w' => ∃ y : Nat → Int, y = flR nm ma ri fa fs fc fn r ∧ e = .returned (.tuple #[.agg #[.int .i64 (y 0), .int .i64 (y 1), .int .i64 (y 2)], .int .i64 (y 3)]) ∧ New w w' :=
  (filter_any nm ma ri fa fs fc fn r w _ _ rfl rfl).mono fun _ _ ⟨he, hn⟩ => ⟨_, rfl, he, hn⟩
theorem rfilter_y (nm : ByteArray) (ma ri fa fs fc fn r : Int) (w : World) : Calls Try.prog 19 #[.agg #[.string nm, .int .i64 ma, .int .i64 ri, .int .i64 fa], .agg #[.int .i64 fs, .int .i64 fc, .int .i64 fn], .int .i64 r] w fun e w' => ∃ y : Nat → Int, y = flR nm ma ri fa fs fc fn r ∧ e = .returned (.tuple #[.agg #[.int .i64 (y 0), .int .i64 (y 1), .int .i64 (y 2)], .int .i64 (y 3)]) ∧ New w w' :=
  (rfilter_any nm ma ri fa fs fc fn r w _ _ rfl rfl).mono fun _ _ ⟨he, hn⟩ => ⟨_, rfl, he, hn⟩
set_option maxHeartbeats 3200000 in
theorem law_filter (nm : ByteArray) (ma ri fa fs fc fn r : Int) (w : World) : Calls Try.prog 4 #[.agg #[.string nm, .int .i64 ma, .int .i64 ri, .int .i64 fa], .agg #[.int .i64 fs, .int .i64 fc, .int .i64 fn], .int .i64 r] w fun e w' => e = .returned (.bool true) ∧ New w w' := by
  have A := Lib.hid ((blk_alloc' w #[.string nm, .int .i64 ma, .int .i64 ri, .int .i64 fa] 23 (w.heap.size) (by simp)).new ((new0 _).alloc (.cells #[.int .i64 fs, .int .i64 fc, .int .i64 fn] 34)))
  have B := Lib.hid ((blk_alloc' (w.alloc (.cells #[.string nm, .int .i64 ma, .int .i64 ri, .int .i64 fa] 23)) #[.int .i64 fs, .int .i64 fc, .int .i64 fn] 34 (w.heap.size + 1) (by simp)).new (new0 _))
  go_enter Try.func4, Try.ntmps4
  go_wp2_with fail
  refine (awake_any _).mono ?_
  rintro e w1 ⟨rfl, g1⟩
  have A := Lib.hid (A.out.new g1)
  have B := Lib.hid (B.out.new g1)
  have H1 := Lib.hid (show New w w1 from New.trans (by repeat (first | with_reducible exact new0 _ | with_reducible apply New.alloc | with_reducible apply New.drewN | with_reducible apply New.drew | (with_reducible refine New.setCell ?_ (by simp <;> omega) _))) g1)
  clear g1
  obtain ⟨k0, k1, k2, k3, kf, kz⟩ := A.out.c4
  obtain ⟨l0, l1, l2, lf, lz⟩ := B.out.c3
  by_cases hl : 60 < nm.size
  · have hl' : (60 : Int) < nm.size := by omega
    go_wp2_with fail
    refine (awake_any _).mono ?_
    rintro e w2 ⟨rfl, g2⟩
    have H2 := Lib.hid g2
    clear g2
    go_wp2_with fail
    go_ret
    exact ⟨rfl, by repeat (first | with_reducible exact new0 _ | with_reducible apply New.alloc | with_reducible apply New.drewN | with_reducible apply New.drew | (with_reducible refine New.setCell ?_ (by simp <;> omega) _) | (with_reducible refine New.trans ?_ H2.out) | (with_reducible refine New.trans ?_ H1.out))⟩
  have hl' : ¬ (60 : Int) < nm.size := by omega
  go_wp2_with fail
  refine (filter_y nm ma ri fa fs fc fn r _).mono ?_
  rintro e w2 ⟨y, hy, rfl, g2⟩
  have A := Lib.hid (A.out.new g2)
  have B := Lib.hid (B.out.new g2)
  have H2 := Lib.hid g2
  have HY := Lib.hid hy
  clear g2 hy
  clear k0 k1 k2 k3 kf kz l0 l1 l2 lf lz
  obtain ⟨k0, k1, k2, k3, kf, kz⟩ := A.out.c4
  obtain ⟨l0, l1, l2, lf, lz⟩ := B.out.c3
  go_wp2_with fail
  refine (rfilter_y nm ma ri fa fs fc fn r _).mono ?_
  rintro e w3 ⟨y', hy', rfl, g3⟩
  obtain rfl : y' = y := by rw [hy', HY.out]
  clear hy'
  have X := Lib.hid ((blk_alloc w2 #[.int .i64 (y' 0), .int .i64 (y' 1), .int .i64 (y' 2)] 34).new g3)
  have H3 := Lib.hid g3
  clear g3
  clear k0 k1 k2 k3 kf kz l0 l1 l2 lf lz
  obtain ⟨x0, x1, x2, xf, xz⟩ := X.out.c3
  go_wp2_with fail
  go_ret
  exact ⟨by simp, by repeat (first | with_reducible exact new0 _ | with_reducible apply New.alloc | with_reducible apply New.drewN | with_reducible apply New.drew | (with_reducible refine New.setCell ?_ (by simp <;> omega) _) | (with_reducible refine New.trans ?_ H3.out) | (with_reducible refine New.trans ?_ H2.out) | (with_reducible refine New.trans ?_ H1.out))⟩
end Go.Proofs.Ytjkfdmbhiooeiaa
