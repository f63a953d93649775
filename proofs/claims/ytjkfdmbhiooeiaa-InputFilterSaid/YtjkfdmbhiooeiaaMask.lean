/-
  Masked, by the program and by the reference.
-/
import Derived.Test.YtjkfdmbhiooeiaaSamp
namespace Go.Proofs.Ytjkfdmbhiooeiaa
open Go.RowKit
set_option maxHeartbeats 1600000 in
theorem masked_bad (nm : ByteArray) (ma ri fa k : Int) (w : World) (v : Int) (hv : valE nm ma ri fa = v) (h0 : ¬ v = 0) : Calls Try.prog 27 #[.agg #[.string nm, .int .i64 ma, .int .i64 ri, .int .i64 fa], .int .i64 k] w fun e w' => e = .returned (.tuple #[.bool false, .int .i64 (masE v k)]) ∧ New w w' := by
  have HV := Lib.hid hv
  clear hv
  go_enter Try.func27, Try.ntmps27
  go_wp2_with fail
  refine (valid_any nm ma ri fa _).mono ?_
  rw [HV.out]
  rintro e w1 ⟨rfl, h1⟩
  have H1 := Lib.hid h1
  clear h1
  go_wp2_with fail
  go_ret2
  exact ⟨by simp [masE, h0], by repeat (first | with_reducible exact new0 _ | with_reducible apply New.alloc | with_reducible apply New.drewN | with_reducible apply New.drew | (with_reducible refine New.setCell ?_ (by simp <;> omega) _) | (with_reducible refine New.trans ?_ H1.out))⟩
set_option maxHeartbeats 1600000 in
theorem masked_out (nm : ByteArray) (ma ri fa k : Int) (w : World) (v : Int) (hv : valE nm ma ri fa = v) (h0 : v = 0) (h1 : ¬ k = 1) (h2 : ¬ k = 2) : Calls Try.prog 27 #[.agg #[.string nm, .int .i64 ma, .int .i64 ri, .int .i64 fa], .int .i64 k] w fun e w' => e = .returned (.tuple #[.bool false, .int .i64 (masE v k)]) ∧ New w w' := by
  subst h0
  have e1 : (k != 1) = true := by simpa using h1
  have e2 : (k != 2) = true := by simpa using h2
  have HV := Lib.hid hv
  clear hv
  have A := (blk_alloc w #[.string nm, .int .i64 ma, .int .i64 ri, .int .i64 fa] 23)
  go_enter Try.func27, Try.ntmps27
  go_wp2_with fail
  refine (valid_any nm ma ri fa _).mono ?_
  rw [HV.out]
  rintro e w1 ⟨rfl, g1⟩
  have H1 := Lib.hid g1
  obtain ⟨l0, l1, l2, l3, lf, lz⟩ := (A.new g1).c4
  clear g1 A
  go_wp2_with fail
  go_ret2
  exact ⟨by simp [masE, h1, h2], by repeat (first | with_reducible exact new0 _ | with_reducible apply New.alloc | with_reducible apply New.drewN | with_reducible apply New.drew | (with_reducible refine New.setCell ?_ (by simp <;> omega) _) | (with_reducible refine New.trans ?_ H1.out))⟩
set_option maxHeartbeats 1600000 in
theorem masked_one (nm : ByteArray) (ma ri fa k : Int) (w : World) (v : Int) (hv : valE nm ma ri fa = v) (h0 : v = 0) (hk : k = 1) : Calls Try.prog 27 #[.agg #[.string nm, .int .i64 ma, .int .i64 ri, .int .i64 fa], .int .i64 k] w fun e w' => e = .returned (.tuple #[.bool false, .int .i64 (masE v k)]) ∧ New w w' := by
  subst h0
  subst hk
  have HV := Lib.hid hv
  clear hv
  have A := (blk_alloc w #[.string nm, .int .i64 ma, .int .i64 ri, .int .i64 fa] 23)
  go_enter Try.func27, Try.ntmps27
  go_wp2_with fail
  refine (valid_any nm ma ri fa _).mono ?_
  rw [HV.out]
  rintro e w1 ⟨rfl, g1⟩
  have H1 := Lib.hid g1
  obtain ⟨l0, l1, l2, l3, lf, lz⟩ := (A.new g1).c4
  clear g1 A
  go_wp2_with fail
  refine (raw_any nm ma ri fa _ _ _ _ _).mono ?_
  rintro e w3 ⟨rfl, h3⟩
  have H3 := Lib.hid h3
  clear h3
  have hr : ¬ rawI ma true false 0 true = 1 := by unfold rawI; simp
  go_wp2_with fail
  go_ret2
  exact ⟨by simp [masE, hr], by repeat (first | with_reducible exact new0 _ | with_reducible apply New.alloc | with_reducible apply New.drewN | with_reducible apply New.drew | (with_reducible refine New.setCell ?_ (by simp <;> omega) _) | (with_reducible refine New.trans ?_ H3.out) | (with_reducible refine New.trans ?_ H1.out))⟩
set_option maxHeartbeats 1600000 in
theorem masked_two (nm : ByteArray) (ma ri fa k : Int) (w : World) (v : Int) (hv : valE nm ma ri fa = v) (h0 : v = 0) (hk : k = 2) : Calls Try.prog 27 #[.agg #[.string nm, .int .i64 ma, .int .i64 ri, .int .i64 fa], .int .i64 k] w fun e w' => e = .returned (.tuple #[.bool false, .int .i64 (masE v k)]) ∧ New w w' := by
  subst h0
  subst hk
  have HV := Lib.hid hv
  clear hv
  have A := (blk_alloc w #[.string nm, .int .i64 ma, .int .i64 ri, .int .i64 fa] 23)
  go_enter Try.func27, Try.ntmps27
  go_wp2_with fail
  refine (valid_any nm ma ri fa _).mono ?_
  rw [HV.out]
  rintro e w1 ⟨rfl, g1⟩
  have H1 := Lib.hid g1
  obtain ⟨l0, l1, l2, l3, lf, lz⟩ := (A.new g1).c4
  clear g1 A
  go_wp2_with fail
  refine (raw_any nm ma ri fa _ _ _ _ _).mono ?_
  rintro e w3 ⟨rfl, h3⟩
  have H3 := Lib.hid h3
  clear h3
  have hr : ¬ rawI ma false true 0 true = 1 := by unfold rawI; simp
  go_wp2_with fail
  go_ret2
  exact ⟨by simp [masE, hr], by repeat (first | with_reducible exact new0 _ | with_reducible apply New.alloc | with_reducible apply New.drewN | with_reducible apply New.drew | (with_reducible refine New.setCell ?_ (by simp <;> omega) _) | (with_reducible refine New.trans ?_ H3.out) | (with_reducible refine New.trans ?_ H1.out))⟩
theorem masked_any (nm : ByteArray) (ma ri fa k : Int) (w : World) : Calls Try.prog 27 #[.agg #[.string nm, .int .i64 ma, .int .i64 ri, .int .i64 fa], .int .i64 k] w fun e w' => e = .returned (.tuple #[.bool false, .int .i64 (masE (valE nm ma ri fa) k)]) ∧ New w w' := by
  by_cases h0 : valE nm ma ri fa = 0
  · by_cases h1 : k = 1
    · exact masked_one nm ma ri fa k w _ rfl h0 h1
    · by_cases h2 : k = 2
      · exact masked_two nm ma ri fa k w _ rfl h0 h2
      · exact masked_out nm ma ri fa k w _ rfl h0 h1 h2
  · exact masked_bad nm ma ri fa k w _ rfl h0
set_option maxHeartbeats 1600000 in
theorem rmasked_bad (nm : ByteArray) (ma ri fa k : Int) (w : World) (v : Int) (hv : valE nm ma ri fa = v) (h0 : ¬ v = 0) : Calls Try.prog 28 #[.agg #[.string nm, .int .i64 ma, .int .i64 ri, .int .i64 fa], .int .i64 k] w fun e w' => e = .returned (.tuple #[.bool false, .int .i64 (masE v k)]) ∧ New w w' := by
  have HV := Lib.hid hv
  clear hv
  go_enter Try.func28, Try.ntmps28
  go_wp2_with fail
  refine (rvalid_any nm ma ri fa _).mono ?_
  rw [HV.out]
  rintro e w1 ⟨rfl, h1⟩
  have H1 := Lib.hid h1
  clear h1
  go_wp2_with fail
  go_ret2
  exact ⟨by simp [masE, h0], by repeat (first | with_reducible exact new0 _ | with_reducible apply New.alloc | with_reducible apply New.drewN | with_reducible apply New.drew | (with_reducible refine New.setCell ?_ (by simp <;> omega) _) | (with_reducible refine New.trans ?_ H1.out))⟩
set_option maxHeartbeats 1600000 in
theorem rmasked_out (nm : ByteArray) (ma ri fa k : Int) (w : World) (v : Int) (hv : valE nm ma ri fa = v) (h0 : v = 0) (h1 : ¬ k = 1) (h2 : ¬ k = 2) : Calls Try.prog 28 #[.agg #[.string nm, .int .i64 ma, .int .i64 ri, .int .i64 fa], .int .i64 k] w fun e w' => e = .returned (.tuple #[.bool false, .int .i64 (masE v k)]) ∧ New w w' := by
  subst h0
  have e1 : (k != 1) = true := by simpa using h1
  have e2 : (k != 2) = true := by simpa using h2
  have HV := Lib.hid hv
  clear hv
  have A := (blk_alloc w #[.string nm, .int .i64 ma, .int .i64 ri, .int .i64 fa] 23)
  go_enter Try.func28, Try.ntmps28
  go_wp2_with fail
  refine (rvalid_any nm ma ri fa _).mono ?_
  rw [HV.out]
  rintro e w1 ⟨rfl, g1⟩
  have H1 := Lib.hid g1
  obtain ⟨l0, l1, l2, l3, lf, lz⟩ := (A.new g1).c4
  clear g1 A
  go_wp2_with fail
  go_ret2
  exact ⟨by simp [masE, h1, h2], by repeat (first | with_reducible exact new0 _ | with_reducible apply New.alloc | with_reducible apply New.drewN | with_reducible apply New.drew | (with_reducible refine New.setCell ?_ (by simp <;> omega) _) | (with_reducible refine New.trans ?_ H1.out))⟩
set_option maxHeartbeats 1600000 in
theorem rmasked_one (nm : ByteArray) (ma ri fa k : Int) (w : World) (v : Int) (hv : valE nm ma ri fa = v) (h0 : v = 0) (hk : k = 1) : Calls Try.prog 28 #[.agg #[.string nm, .int .i64 ma, .int .i64 ri, .int .i64 fa], .int .i64 k] w fun e w' => e = .returned (.tuple #[.bool false, .int .i64 (masE v k)]) ∧ New w w' := by
  subst h0
  subst hk
  have HV := Lib.hid hv
  clear hv
  have A := (blk_alloc w #[.string nm, .int .i64 ma, .int .i64 ri, .int .i64 fa] 23)
  go_enter Try.func28, Try.ntmps28
  go_wp2_with fail
  refine (rvalid_any nm ma ri fa _).mono ?_
  rw [HV.out]
  rintro e w1 ⟨rfl, g1⟩
  have H1 := Lib.hid g1
  obtain ⟨l0, l1, l2, l3, lf, lz⟩ := (A.new g1).c4
  clear g1 A
  go_wp2_with fail
  refine (rraw_any nm ma ri fa _ _ _ _ _).mono ?_
  rintro e w3 ⟨rfl, h3⟩
  have H3 := Lib.hid h3
  clear h3
  have hr : ¬ rawI ma true false 0 true = 1 := by unfold rawI; simp
  go_wp2_with fail
  go_ret2
  exact ⟨by simp [masE, hr], by repeat (first | with_reducible exact new0 _ | with_reducible apply New.alloc | with_reducible apply New.drewN | with_reducible apply New.drew | (with_reducible refine New.setCell ?_ (by simp <;> omega) _) | (with_reducible refine New.trans ?_ H3.out) | (with_reducible refine New.trans ?_ H1.out))⟩
set_option maxHeartbeats 1600000 in
theorem rmasked_two (nm : ByteArray) (ma ri fa k : Int) (w : World) (v : Int) (hv : valE nm ma ri fa = v) (h0 : v = 0) (hk : k = 2) : Calls Try.prog 28 #[.agg #[.string nm, .int .i64 ma, .int .i64 ri, .int .i64 fa], .int .i64 k] w fun e w' => e = .returned (.tuple #[.bool false, .int .i64 (masE v k)]) ∧ New w w' := by
  subst h0
  subst hk
  have HV := Lib.hid hv
  clear hv
  have A := (blk_alloc w #[.string nm, .int .i64 ma, .int .i64 ri, .int .i64 fa] 23)
  go_enter Try.func28, Try.ntmps28
  go_wp2_with fail
  refine (rvalid_any nm ma ri fa _).mono ?_
  rw [HV.out]
  rintro e w1 ⟨rfl, g1⟩
  have H1 := Lib.hid g1
  obtain ⟨l0, l1, l2, l3, lf, lz⟩ := (A.new g1).c4
  clear g1 A
  go_wp2_with fail
  refine (rraw_any nm ma ri fa _ _ _ _ _).mono ?_
  rintro e w3 ⟨rfl, h3⟩
  have H3 := Lib.hid h3
  clear h3
  have hr : ¬ rawI ma false true 0 true = 1 := by unfold rawI; simp
  go_wp2_with fail
  go_ret2
  exact ⟨by simp [masE, hr], by repeat (first | with_reducible exact new0 _ | with_reducible apply New.alloc | with_reducible apply New.drewN | with_reducible apply New.drew | (with_reducible refine New.setCell ?_ (by simp <;> omega) _) | (with_reducible refine New.trans ?_ H3.out) | (with_reducible refine New.trans ?_ H1.out))⟩
theorem rmasked_any (nm : ByteArray) (ma ri fa k : Int) (w : World) : Calls Try.prog 28 #[.agg #[.string nm, .int .i64 ma, .int .i64 ri, .int .i64 fa], .int .i64 k] w fun e w' => e = .returned (.tuple #[.bool false, .int .i64 (masE (valE nm ma ri fa) k)]) ∧ New w w' := by
  by_cases h0 : valE nm ma ri fa = 0
  · by_cases h1 : k = 1
    · exact rmasked_one nm ma ri fa k w _ rfl h0 h1
    · by_cases h2 : k = 2
      · exact rmasked_two nm ma ri fa k w _ rfl h0 h2
      · exact rmasked_out nm ma ri fa k w _ rfl h0 h1 h2
  · exact rmasked_bad nm ma ri fa k w _ rfl h0
end Go.Proofs.Ytjkfdmbhiooeiaa
