/-
  Sample, Delay and Masked, by the program and by the reference.
-/
import Derived.Test.YtjkfdmbhiooeiaaVals
namespace Go.Proofs.Ytjkfdmbhiooeiaa
open Go.RowKit
theorem ret_two {a b c d : Int} (h : a = b) (h' : c = d) : Ending.returned (.tuple #[.int .i64 a, .int .i64 c]) = .returned (.tuple #[.int .i64 b, .int .i64 d]) := by rw [h, h']
theorem ret_bi {a b : Bool} {c d : Int} (h : a = b) (h' : c = d) : Ending.returned (.tuple #[.bool a, .int .i64 c]) = .returned (.tuple #[.bool b, .int .i64 d]) := by rw [h, h']

def samE (v ag : Int) : Int := if v ≠ 0 then v else if insB ag 0 1099511627776 = false then 6 else 0
def samV (v ma : Int) (a b : Bool) (ag : Int) (va : Bool) : Int := if v ≠ 0 ∨ insB ag 0 1099511627776 = false then 0 else rawI ma a b ag va
def delV (v fa : Int) : Int := if v ≠ 0 then 0 else fa
def masE (v k : Int) : Int := if v ≠ 0 then v else if k ≠ 1 ∧ k ≠ 2 then 6 else 0
set_option maxHeartbeats 1600000 in
theorem sample_bad (nm : ByteArray) (ma ri fa : Int) (a b : Bool) (ag : Int) (va : Bool) (w : World) (v : Int) (hv : valE nm ma ri fa = v) (h0 : ¬ v = 0) : Calls Try.prog 12 #[.agg #[.string nm, .int .i64 ma, .int .i64 ri, .int .i64 fa], .agg #[.bool a, .bool b, .int .i64 ag, .bool va]] w fun e w' => e = .returned (.tuple #[.int .i64 (samV v ma a b ag va), .int .i64 (samE v ag)]) ∧ New w w' := by
  have HV := Lib.hid hv
  clear hv
  go_enter Try.func12, Try.ntmps12
  go_wp2_with fail
  refine (valid_any nm ma ri fa _).mono ?_
  rw [HV.out]
  rintro e w1 ⟨rfl, h1⟩
  have H1 := Lib.hid h1
  clear h1
  go_wp2_with fail
  go_ret2
  exact ⟨by simp [samV, samE, h0], by repeat (first | with_reducible exact new0 _ | with_reducible apply New.alloc | with_reducible apply New.drewN | with_reducible apply New.drew | (with_reducible refine New.setCell ?_ (by simp <;> omega) _) | (with_reducible refine New.trans ?_ H1.out))⟩
set_option maxHeartbeats 1600000 in
theorem sample_age (nm : ByteArray) (ma ri fa : Int) (a b : Bool) (ag : Int) (va : Bool) (w : World) (v : Int) (hv : valE nm ma ri fa = v) (h0 : v = 0) (ha : insB ag 0 1099511627776 = false) : Calls Try.prog 12 #[.agg #[.string nm, .int .i64 ma, .int .i64 ri, .int .i64 fa], .agg #[.bool a, .bool b, .int .i64 ag, .bool va]] w fun e w' => e = .returned (.tuple #[.int .i64 (samV v ma a b ag va), .int .i64 (samE v ag)]) ∧ New w w' := by
  subst h0
  have HV := Lib.hid hv
  clear hv
  have HA := Lib.hid ha
  clear ha
  have B := (blk_alloc' (w.alloc (.cells #[.string nm, .int .i64 ma, .int .i64 ri, .int .i64 fa] 23)) #[.bool a, .bool b, .int .i64 ag, .bool va] 25 (w.heap.size + 1) (by simp))
  go_enter Try.func12, Try.ntmps12
  go_wp2_with fail
  refine (valid_any nm ma ri fa _).mono ?_
  rw [HV.out]
  rintro e w1 ⟨rfl, h1⟩
  have H1 := Lib.hid h1
  obtain ⟨k0, k1, k2, k3, kf, kz⟩ := (B.new h1).c4
  clear h1 B
  go_wp2_with fail
  refine (samErr_any _ _ _ _ _).mono ?_
  rw [HA.out]
  rintro e w2 ⟨rfl, cs, rfl⟩
  go_wp2_with fail
  go_ret2
  exact ⟨by simp [samV, samE, HA.out], by repeat (first | with_reducible exact new0 _ | with_reducible apply New.alloc | with_reducible apply New.drewN | with_reducible apply New.drew | (with_reducible refine New.setCell ?_ (by simp <;> omega) _) | (with_reducible refine New.trans ?_ H1.out))⟩
set_option maxHeartbeats 1600000 in
theorem sample_ok (nm : ByteArray) (ma ri fa : Int) (a b : Bool) (ag : Int) (va : Bool) (w : World) (v : Int) (hv : valE nm ma ri fa = v) (h0 : v = 0) (ha : insB ag 0 1099511627776 = true) : Calls Try.prog 12 #[.agg #[.string nm, .int .i64 ma, .int .i64 ri, .int .i64 fa], .agg #[.bool a, .bool b, .int .i64 ag, .bool va]] w fun e w' => e = .returned (.tuple #[.int .i64 (samV v ma a b ag va), .int .i64 (samE v ag)]) ∧ New w w' := by
  subst h0
  have HV := Lib.hid hv
  clear hv
  have HA := Lib.hid ha
  clear ha
  have A := (blk_alloc w #[.string nm, .int .i64 ma, .int .i64 ri, .int .i64 fa] 23).new ((new0 _).alloc (.cells #[.bool a, .bool b, .int .i64 ag, .bool va] 25))
  have B := (blk_alloc' (w.alloc (.cells #[.string nm, .int .i64 ma, .int .i64 ri, .int .i64 fa] 23)) #[.bool a, .bool b, .int .i64 ag, .bool va] 25 (w.heap.size + 1) (by simp))
  go_enter Try.func12, Try.ntmps12
  go_wp2_with fail
  refine (valid_any nm ma ri fa _).mono ?_
  rw [HV.out]
  rintro e w1 ⟨rfl, h1⟩
  have H1 := Lib.hid h1
  obtain ⟨k0, k1, k2, k3, kf, kz⟩ := (B.new h1).c4
  obtain ⟨l0, l1, l2, l3, lf, lz⟩ := (A.new h1).c4
  clear h1 A B
  go_wp2_with fail
  refine (samErr_any _ _ _ _ _).mono ?_
  rw [HA.out]
  rintro e w2 ⟨rfl, cs, rfl⟩
  go_wp2_with fail
  refine (raw_any nm ma ri fa a b ag va _).mono ?_
  rintro e w3 ⟨rfl, h3⟩
  have H3 := Lib.hid h3
  clear h3
  go_wp2_with fail
  go_ret2
  exact ⟨by simp [samV, samE, HA.out], by repeat (first | with_reducible exact new0 _ | with_reducible apply New.alloc | with_reducible apply New.drewN | with_reducible apply New.drew | (with_reducible refine New.setCell ?_ (by simp <;> omega) _) | (with_reducible refine New.trans ?_ H3.out) | (with_reducible refine New.trans ?_ H1.out))⟩
theorem sample_any (nm : ByteArray) (ma ri fa : Int) (a b : Bool) (ag : Int) (va : Bool) (w : World) : Calls Try.prog 12 #[.agg #[.string nm, .int .i64 ma, .int .i64 ri, .int .i64 fa], .agg #[.bool a, .bool b, .int .i64 ag, .bool va]] w fun e w' => e = .returned (.tuple #[.int .i64 (samV (valE nm ma ri fa) ma a b ag va), .int .i64 (samE (valE nm ma ri fa) ag)]) ∧ New w w' := by
  by_cases h0 : valE nm ma ri fa = 0
  · by_cases ha : insB ag 0 1099511627776 = true
    · exact sample_ok nm ma ri fa a b ag va w _ rfl h0 ha
    · exact sample_age nm ma ri fa a b ag va w _ rfl h0 (by simpa using ha)
  · exact sample_bad nm ma ri fa a b ag va w _ rfl h0
set_option maxHeartbeats 1600000 in
theorem rsample_bad (nm : ByteArray) (ma ri fa : Int) (a b : Bool) (ag : Int) (va : Bool) (w : World) (v : Int) (hv : valE nm ma ri fa = v) (h0 : ¬ v = 0) : Calls Try.prog 13 #[.agg #[.string nm, .int .i64 ma, .int .i64 ri, .int .i64 fa], .agg #[.bool a, .bool b, .int .i64 ag, .bool va]] w fun e w' => e = .returned (.tuple #[.int .i64 (samV v ma a b ag va), .int .i64 (samE v ag)]) ∧ New w w' := by
  have HV := Lib.hid hv
  clear hv
  go_enter Try.func13, Try.ntmps13
  go_wp2_with fail
  refine (rvalid_any nm ma ri fa _).mono ?_
  rw [HV.out]
  rintro e w1 ⟨rfl, h1⟩
  have H1 := Lib.hid h1
  clear h1
  go_wp2_with fail
  go_ret2
  exact ⟨by simp [samV, samE, h0], by repeat (first | with_reducible exact new0 _ | with_reducible apply New.alloc | with_reducible apply New.drewN | with_reducible apply New.drew | (with_reducible refine New.setCell ?_ (by simp <;> omega) _) | (with_reducible refine New.trans ?_ H1.out))⟩
set_option maxHeartbeats 1600000 in
theorem rsample_age (nm : ByteArray) (ma ri fa : Int) (a b : Bool) (ag : Int) (va : Bool) (w : World) (v : Int) (hv : valE nm ma ri fa = v) (h0 : v = 0) (ha : insB ag 0 1099511627776 = false) : Calls Try.prog 13 #[.agg #[.string nm, .int .i64 ma, .int .i64 ri, .int .i64 fa], .agg #[.bool a, .bool b, .int .i64 ag, .bool va]] w fun e w' => e = .returned (.tuple #[.int .i64 (samV v ma a b ag va), .int .i64 (samE v ag)]) ∧ New w w' := by
  subst h0
  have HV := Lib.hid hv
  clear hv
  have HA := Lib.hid ha
  clear ha
  have B := (blk_alloc' (w.alloc (.cells #[.string nm, .int .i64 ma, .int .i64 ri, .int .i64 fa] 23)) #[.bool a, .bool b, .int .i64 ag, .bool va] 25 (w.heap.size + 1) (by simp))
  go_enter Try.func13, Try.ntmps13
  go_wp2_with fail
  refine (rvalid_any nm ma ri fa _).mono ?_
  rw [HV.out]
  rintro e w1 ⟨rfl, h1⟩
  have H1 := Lib.hid h1
  obtain ⟨k0, k1, k2, k3, kf, kz⟩ := (B.new h1).c4
  clear h1 B
  have ha : ¬ (0 ≤ ag ∧ ag ≤ 1099511627776) := by have := HA.out; unfold insB at this; simpa using this
  by_cases hg : ag < 0
  · go_wp2_with fail
    go_ret2
    exact ⟨by simp [samV, samE, HA.out], by repeat (first | with_reducible exact new0 _ | with_reducible apply New.alloc | with_reducible apply New.drewN | with_reducible apply New.drew | (with_reducible refine New.setCell ?_ (by simp <;> omega) _) | (with_reducible refine New.trans ?_ H1.out))⟩
  · have hg' : 1099511627776 < ag := by omega
    go_wp2_with fail
    go_ret2
    exact ⟨by simp [samV, samE, HA.out], by repeat (first | with_reducible exact new0 _ | with_reducible apply New.alloc | with_reducible apply New.drewN | with_reducible apply New.drew | (with_reducible refine New.setCell ?_ (by simp <;> omega) _) | (with_reducible refine New.trans ?_ H1.out))⟩
set_option maxHeartbeats 1600000 in
theorem rsample_ok (nm : ByteArray) (ma ri fa : Int) (a b : Bool) (ag : Int) (va : Bool) (w : World) (v : Int) (hv : valE nm ma ri fa = v) (h0 : v = 0) (ha : insB ag 0 1099511627776 = true) : Calls Try.prog 13 #[.agg #[.string nm, .int .i64 ma, .int .i64 ri, .int .i64 fa], .agg #[.bool a, .bool b, .int .i64 ag, .bool va]] w fun e w' => e = .returned (.tuple #[.int .i64 (samV v ma a b ag va), .int .i64 (samE v ag)]) ∧ New w w' := by
  subst h0
  have HV := Lib.hid hv
  clear hv
  have HA := Lib.hid ha
  clear ha
  have A := (blk_alloc w #[.string nm, .int .i64 ma, .int .i64 ri, .int .i64 fa] 23).new ((new0 _).alloc (.cells #[.bool a, .bool b, .int .i64 ag, .bool va] 25))
  have B := (blk_alloc' (w.alloc (.cells #[.string nm, .int .i64 ma, .int .i64 ri, .int .i64 fa] 23)) #[.bool a, .bool b, .int .i64 ag, .bool va] 25 (w.heap.size + 1) (by simp))
  go_enter Try.func13, Try.ntmps13
  go_wp2_with fail
  refine (rvalid_any nm ma ri fa _).mono ?_
  rw [HV.out]
  rintro e w1 ⟨rfl, h1⟩
  have H1 := Lib.hid h1
  obtain ⟨k0, k1, k2, k3, kf, kz⟩ := (B.new h1).c4
  obtain ⟨l0, l1, l2, l3, lf, lz⟩ := (A.new h1).c4
  clear h1 A B
  have ha : (0 ≤ ag ∧ ag ≤ 1099511627776) := by have := HA.out; unfold insB at this; simpa using this
  obtain ⟨hg, hg'⟩ := ha
  have hg1 : ¬ ag < 0 := by omega
  have hg2 : ¬ 1099511627776 < ag := by omega
  go_wp2_with fail
  refine (rraw_any nm ma ri fa a b ag va _).mono ?_
  rintro e w3 ⟨rfl, h3⟩
  have H3 := Lib.hid h3
  clear h3
  go_wp2_with fail
  go_ret2
  exact ⟨by simp [samV, samE, HA.out], by repeat (first | with_reducible exact new0 _ | with_reducible apply New.alloc | with_reducible apply New.drewN | with_reducible apply New.drew | (with_reducible refine New.setCell ?_ (by simp <;> omega) _) | (with_reducible refine New.trans ?_ H3.out) | (with_reducible refine New.trans ?_ H1.out))⟩
theorem rsample_any (nm : ByteArray) (ma ri fa : Int) (a b : Bool) (ag : Int) (va : Bool) (w : World) : Calls Try.prog 13 #[.agg #[.string nm, .int .i64 ma, .int .i64 ri, .int .i64 fa], .agg #[.bool a, .bool b, .int .i64 ag, .bool va]] w fun e w' => e = .returned (.tuple #[.int .i64 (samV (valE nm ma ri fa) ma a b ag va), .int .i64 (samE (valE nm ma ri fa) ag)]) ∧ New w w' := by
  by_cases h0 : valE nm ma ri fa = 0
  · by_cases ha : insB ag 0 1099511627776 = true
    · exact rsample_ok nm ma ri fa a b ag va w _ rfl h0 ha
    · exact rsample_age nm ma ri fa a b ag va w _ rfl h0 (by simpa using ha)
  · exact rsample_bad nm ma ri fa a b ag va w _ rfl h0
set_option maxHeartbeats 1600000 in
theorem delay_bad (nm : ByteArray) (ma ri fa : Int) (w : World) (v : Int) (hv : valE nm ma ri fa = v) (h0 : ¬ v = 0) : Calls Try.prog 14 #[.agg #[.string nm, .int .i64 ma, .int .i64 ri, .int .i64 fa]] w fun e w' => e = .returned (.tuple #[.int .i64 (delV v fa), .int .i64 v]) ∧ New w w' := by
  have HV := Lib.hid hv
  clear hv
  go_enter Try.func14, Try.ntmps14
  go_wp2_with fail
  refine (valid_any nm ma ri fa _).mono ?_
  rw [HV.out]
  rintro e w1 ⟨rfl, h1⟩
  have H1 := Lib.hid h1
  clear h1
  go_wp2_with fail
  go_ret2
  exact ⟨by simp [delV, h0], by repeat (first | with_reducible exact new0 _ | with_reducible apply New.alloc | with_reducible apply New.drewN | with_reducible apply New.drew | (with_reducible refine New.setCell ?_ (by simp <;> omega) _) | (with_reducible refine New.trans ?_ H1.out))⟩
set_option maxHeartbeats 1600000 in
theorem delay_ok (nm : ByteArray) (ma ri fa : Int) (w : World) (v : Int) (hv : valE nm ma ri fa = v) (h0 : v = 0) : Calls Try.prog 14 #[.agg #[.string nm, .int .i64 ma, .int .i64 ri, .int .i64 fa]] w fun e w' => e = .returned (.tuple #[.int .i64 (delV v fa), .int .i64 v]) ∧ New w w' := by
  subst h0
  have HV := Lib.hid hv
  clear hv
  have A := (blk_alloc w #[.string nm, .int .i64 ma, .int .i64 ri, .int .i64 fa] 23)
  go_enter Try.func14, Try.ntmps14
  go_wp2_with fail
  refine (valid_any nm ma ri fa _).mono ?_
  rw [HV.out]
  rintro e w1 ⟨rfl, h1⟩
  have H1 := Lib.hid h1
  obtain ⟨l0, l1, l2, l3, lf, lz⟩ := (A.new h1).c4
  clear h1 A
  go_wp2_with fail
  go_ret2
  exact ⟨by simp [delV], by repeat (first | with_reducible exact new0 _ | with_reducible apply New.alloc | with_reducible apply New.drewN | with_reducible apply New.drew | (with_reducible refine New.setCell ?_ (by simp <;> omega) _) | (with_reducible refine New.trans ?_ H1.out))⟩
theorem delay_any (nm : ByteArray) (ma ri fa : Int) (w : World) : Calls Try.prog 14 #[.agg #[.string nm, .int .i64 ma, .int .i64 ri, .int .i64 fa]] w fun e w' => e = .returned (.tuple #[.int .i64 (delV (valE nm ma ri fa) fa), .int .i64 (valE nm ma ri fa)]) ∧ New w w' := by
  by_cases h0 : valE nm ma ri fa = 0
  · exact delay_ok nm ma ri fa w _ rfl h0
  · exact delay_bad nm ma ri fa w _ rfl h0
set_option maxHeartbeats 1600000 in
theorem rdelay_bad (nm : ByteArray) (ma ri fa : Int) (w : World) (v : Int) (hv : valE nm ma ri fa = v) (h0 : ¬ v = 0) : Calls Try.prog 15 #[.agg #[.string nm, .int .i64 ma, .int .i64 ri, .int .i64 fa]] w fun e w' => e = .returned (.tuple #[.int .i64 (delV v fa), .int .i64 v]) ∧ New w w' := by
  have HV := Lib.hid hv
  clear hv
  go_enter Try.func15, Try.ntmps15
  go_wp2_with fail
  refine (rvalid_any nm ma ri fa _).mono ?_
  rw [HV.out]
  rintro e w1 ⟨rfl, h1⟩
  have H1 := Lib.hid h1
  clear h1
  go_wp2_with fail
  go_ret2
  exact ⟨by simp [delV, h0], by repeat (first | with_reducible exact new0 _ | with_reducible apply New.alloc | with_reducible apply New.drewN | with_reducible apply New.drew | (with_reducible refine New.setCell ?_ (by simp <;> omega) _) | (with_reducible refine New.trans ?_ H1.out))⟩
set_option maxHeartbeats 1600000 in
theorem rdelay_ok (nm : ByteArray) (ma ri fa : Int) (w : World) (v : Int) (hv : valE nm ma ri fa = v) (h0 : v = 0) : Calls Try.prog 15 #[.agg #[.string nm, .int .i64 ma, .int .i64 ri, .int .i64 fa]] w fun e w' => e = .returned (.tuple #[.int .i64 (delV v fa), .int .i64 v]) ∧ New w w' := by
  subst h0
  have HV := Lib.hid hv
  clear hv
  have A := (blk_alloc w #[.string nm, .int .i64 ma, .int .i64 ri, .int .i64 fa] 23)
  go_enter Try.func15, Try.ntmps15
  go_wp2_with fail
  refine (rvalid_any nm ma ri fa _).mono ?_
  rw [HV.out]
  rintro e w1 ⟨rfl, h1⟩
  have H1 := Lib.hid h1
  obtain ⟨l0, l1, l2, l3, lf, lz⟩ := (A.new h1).c4
  clear h1 A
  go_wp2_with fail
  go_ret2
  exact ⟨by simp [delV], by repeat (first | with_reducible exact new0 _ | with_reducible apply New.alloc | with_reducible apply New.drewN | with_reducible apply New.drew | (with_reducible refine New.setCell ?_ (by simp <;> omega) _) | (with_reducible refine New.trans ?_ H1.out))⟩
theorem rdelay_any (nm : ByteArray) (ma ri fa : Int) (w : World) : Calls Try.prog 15 #[.agg #[.string nm, .int .i64 ma, .int .i64 ri, .int .i64 fa]] w fun e w' => e = .returned (.tuple #[.int .i64 (delV (valE nm ma ri fa) fa), .int .i64 (valE nm ma ri fa)]) ∧ New w w' := by
  by_cases h0 : valE nm ma ri fa = 0
  · exact rdelay_ok nm ma ri fa w _ rfl h0
  · exact rdelay_bad nm ma ri fa w _ rfl h0
end Go.Proofs.Ytjkfdmbhiooeiaa
