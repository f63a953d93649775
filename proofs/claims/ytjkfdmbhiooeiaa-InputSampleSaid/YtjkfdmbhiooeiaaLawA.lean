/-
  The walks of statements of layer 43.
-/
import Derived.Test.YtjkfdmbhiooeiaaAwake
namespace Go.Proofs.Ytjkfdmbhiooeiaa
open Go.RowKit
set_option maxHeartbeats 3200000 in
theorem law_masked (nm : ByteArray) (ma ri fa k : Int) (w : World) : Calls Try.prog 7 #[.agg #[.string nm, .int .i64 ma, .int .i64 ri, .int .i64 fa], .int .i64 k] w fun e w' => e = .returned (.bool true) ∧ New w w' := by
  have A := Lib.hid ((blk_alloc' w #[.string nm, .int .i64 ma, .int .i64 ri, .int .i64 fa] 23 (w.heap.size) (by simp)).new (new0 _))
  go_enter Try.func7, Try.ntmps7
  go_wp2_with fail
  refine (awake_any _).mono ?_
  rintro e w1 ⟨rfl, g1⟩
  have A := Lib.hid (A.out.new g1)
  have H1 := Lib.hid (show New w w1 from New.trans (by repeat (first | with_reducible exact new0 _ | with_reducible apply New.alloc | with_reducible apply New.drewN | with_reducible apply New.drew | (with_reducible refine New.setCell ?_ (by simp <;> omega) _))) g1)
  clear g1
  obtain ⟨k0, k1, k2, k3, kf, kz⟩ := A.out.c4
  by_cases hl : 60 < nm.size
  · have hl' : (60 : Int) < nm.size := by omega
    go_wp2_with fail
    refine (awake_any _).mono ?_
    rintro e w2 ⟨rfl, g2⟩
    have H2 := Lib.hid g2
    clear g2
    go_wp2_with fail
    go_ret
    exact ⟨rfl, by repeat (first | with_reducible exact new0 _ | with_reducible apply New.alloc | with_reducible apply New.drewN | with_reducible apply New.drew | (with_reducible refine New.setCell ?_ (by simp <;> omega) _) | (with_reducible refine New.trans ?_ H2.out) | (with_reducible refine New.trans ?_ H1.out))⟩
  have hl' : ¬ (60 : Int) < nm.size := by omega
  go_wp2_with fail
  refine (masked_any nm ma ri fa k _).mono ?_
  rintro e w2 ⟨rfl, g2⟩
  have A := Lib.hid (A.out.new g2)
  have H2 := Lib.hid g2
  clear g2
  clear k0 k1 k2 k3 kf kz
  obtain ⟨k0, k1, k2, k3, kf, kz⟩ := A.out.c4
  go_wp2_with fail
  refine (rmasked_any nm ma ri fa k _).mono ?_
  rintro e w3 ⟨rfl, g3⟩
  have A := Lib.hid (A.out.new g3)
  have H3 := Lib.hid g3
  clear g3
  clear k0 k1 k2 k3 kf kz
  obtain ⟨k0, k1, k2, k3, kf, kz⟩ := A.out.c4
  go_wp2_with fail
  go_ret
  exact ⟨by simp, by repeat (first | with_reducible exact new0 _ | with_reducible apply New.alloc | with_reducible apply New.drewN | with_reducible apply New.drew | (with_reducible refine New.setCell ?_ (by simp <;> omega) _) | (with_reducible refine New.trans ?_ H3.out) | (with_reducible refine New.trans ?_ H2.out) | (with_reducible refine New.trans ?_ H1.out))⟩
theorem keep4 {W W' : World} {p : Nat} {a0 a1 a2 a3 : Value} (h1 : Blk W p #[a0, a1, a2, a3]) (hn : New W W') :
    W'.cell? ⟨p, 0, none⟩ = some a0 ∧ W'.cell? ⟨p, 1, none⟩ = some a1 ∧ W'.cell? ⟨p, 2, none⟩ = some a2 ∧ W'.cell? ⟨p, 3, none⟩ = some a3 := by
  obtain ⟨k0, k1, k2, k3, _⟩ := (h1.new hn).c4
  exact ⟨k0, k1, k2, k3⟩
set_option maxHeartbeats 3200000 in
theorem law_sample (nm : ByteArray) (ma ri fa : Int) (a b : Bool) (ag : Int) (va : Bool) (w : World) : Calls Try.prog 3 #[.agg #[.string nm, .int .i64 ma, .int .i64 ri, .int .i64 fa], .agg #[.bool a, .bool b, .int .i64 ag, .bool va]] w fun e w' => e = .returned (.bool true) ∧ New w w' := by
  have A := Lib.hid ((blk_alloc' w #[.string nm, .int .i64 ma, .int .i64 ri, .int .i64 fa] 23 (w.heap.size) (by simp)).new ((new0 _).alloc (.cells #[.bool a, .bool b, .int .i64 ag, .bool va] 25)))
  have S := Lib.hid ((blk_alloc' (w.alloc (.cells #[.string nm, .int .i64 ma, .int .i64 ri, .int .i64 fa] 23)) #[.bool a, .bool b, .int .i64 ag, .bool va] 25 (w.heap.size + 1) (by simp)).new (new0 _))
  go_enter Try.func3, Try.ntmps3
  go_wp2_with fail
  refine (awake_any _).mono ?_
  rintro e w1 ⟨rfl, g1⟩
  have A := Lib.hid (A.out.new g1)
  have S := Lib.hid (S.out.new g1)
  have H1 := Lib.hid (show New w w1 from New.trans (by repeat (first | with_reducible exact new0 _ | with_reducible apply New.alloc | with_reducible apply New.drewN | with_reducible apply New.drew | (with_reducible refine New.setCell ?_ (by simp <;> omega) _))) g1)
  clear g1
  obtain ⟨k0, k1, k2, k3, kf, kz⟩ := A.out.c4
  obtain ⟨m0, m1, m2, m3, mf, mz⟩ := S.out.c4
  by_cases hl : 60 < nm.size
  · have hl' : (60 : Int) < nm.size := by omega
    go_wp2_with fail
    refine (awake_any _).mono ?_
    rintro e w2 ⟨rfl, g2⟩
    have H2 := Lib.hid g2
    clear g2
    go_wp2_with fail
    go_ret
    exact ⟨rfl, by repeat (first | with_reducible exact new0 _ | with_reducible apply New.alloc | with_reducible apply New.drewN | with_reducible apply New.drew | (with_reducible refine New.setCell ?_ (by simp <;> omega) _) | (with_reducible refine New.trans ?_ H2.out) | (with_reducible refine New.trans ?_ H1.out))⟩
  have hl' : ¬ (60 : Int) < nm.size := by omega
  go_wp2_with fail
  refine (sample_any nm ma ri fa a b ag va _).mono ?_
  rintro e w2 ⟨rfl, g2⟩
  have A := Lib.hid (A.out.new g2)
  have S := Lib.hid (S.out.new g2)
  have H2 := Lib.hid g2
  clear g2
  clear k0 k1 k2 k3 kf kz m0 m1 m2 m3 mf mz
  obtain ⟨k0, k1, k2, k3, kf, kz⟩ := A.out.c4
  obtain ⟨m0, m1, m2, m3, mf, mz⟩ := S.out.c4
  go_wp2_with fail
  refine (rsample_any nm ma ri fa a b ag va _).mono ?_
  rintro e w3 ⟨rfl, g3⟩
  have A := Lib.hid (A.out.new g3)
  have S := Lib.hid (S.out.new g3)
  have H3 := Lib.hid g3
  clear g3
  clear k0 k1 k2 k3 kf kz m0 m1 m2 m3 mf mz
  obtain ⟨k0, k1, k2, k3, kf, kz⟩ := A.out.c4
  obtain ⟨m0, m1, m2, m3, mf, mz⟩ := S.out.c4
  go_wp2_with fail
  refine (delay_any nm ma ri fa _).mono ?_
  rintro e w4 ⟨rfl, g4⟩
  have A := Lib.hid (A.out.new g4)
  have S := Lib.hid (S.out.new g4)
  have H4 := Lib.hid g4
  clear g4
  clear k0 k1 k2 k3 kf kz m0 m1 m2 m3 mf mz
  obtain ⟨k0, k1, k2, k3, kf, kz⟩ := A.out.c4
  obtain ⟨m0, m1, m2, m3, mf, mz⟩ := S.out.c4
  go_wp2_with fail
  refine (rdelay_any nm ma ri fa _).mono ?_
  rintro e w5 ⟨rfl, g5⟩
  have A := Lib.hid (A.out.new g5)
  have S := Lib.hid (S.out.new g5)
  have H5 := Lib.hid g5
  clear g5
  clear k0 k1 k2 k3 kf kz m0 m1 m2 m3 mf mz
  obtain ⟨k0, k1, k2, k3, kf, kz⟩ := A.out.c4
  obtain ⟨m0, m1, m2, m3, mf, mz⟩ := S.out.c4
  go_wp2_with fail
  go_region_held3 (fun w' => w'.cell? ⟨w.heap.size, 0, none⟩ = some (.string nm) ∧ w'.cell? ⟨w.heap.size, 1, none⟩ = some (.int .i64 ma) ∧ w'.cell? ⟨w.heap.size, 2, none⟩ = some (.int .i64 ri) ∧ w'.cell? ⟨w.heap.size, 3, none⟩ = some (.int .i64 fa))
    (((with_reducible refine keep4 A.out ?_); repeat (first | with_reducible exact new0 _ | with_reducible apply New.alloc | with_reducible apply New.drewN | with_reducible apply New.drew | (with_reducible refine New.setCell ?_ (by simp <;> omega) _) | (with_reducible refine New.trans ?_ H7.out) | (with_reducible refine New.trans ?_ H6.out))))
    (first
      | (go_at_call 16; (with_reducible refine (valid_any nm ma ri fa _).mono ?_); rintro e w6 ⟨rfl, g6⟩; have H6 := Lib.hid g6; clear g6)
      | (go_at_call 17; (with_reducible refine (rvalid_any nm ma ri fa _).mono ?_); rintro e w7 ⟨rfl, g7⟩; have H7 := Lib.hid g7; clear g7))
  all_goals go_wp2
  all_goals go_ret
  all_goals exact ⟨by simp, by repeat (first | with_reducible exact new0 _ | with_reducible apply New.alloc | with_reducible apply New.drewN | with_reducible apply New.drew | (with_reducible refine New.setCell ?_ (by simp <;> omega) _) | (with_reducible refine New.trans ?_ H7.out) | (with_reducible refine New.trans ?_ H6.out) | (with_reducible refine New.trans ?_ H5.out) | (with_reducible refine New.trans ?_ H4.out) | (with_reducible refine New.trans ?_ H3.out) | (with_reducible refine New.trans ?_ H2.out) | (with_reducible refine New.trans ?_ H1.out))⟩
end Go.Proofs.Ytjkfdmbhiooeiaa
