/-
  Valid, by the program and by the reference.
-/
import Derived.Test.YtedbjnojogjnkaaSam
namespace Go.Proofs.Ytedbjnojogjnkaa
open Go.RowKit
def rngB (ca af ov re : Int) : Bool := fitB ca af && insB ov 0 1099511627776 && insB re (-1) af
/-- What is wrong behind the ranges and the samples. -/
def endE (ca : Int) (n : Nat) (ov re : Int) (fz : Bool) : Int := if ca < n then 3 else if fz ≠ decide (re = 0) ∨ (0 < ov ∧ (n : Int) < ca) then 1 else 0
def valE (ca af : Int) (n : Nat) (M : Nat → Ms) (ov re : Int) (fz : Bool) : Int := if rngB ca af ov re = false then 6 else if samE M n ≠ 0 then samE M n else endE ca n ov re fz
set_option maxHeartbeats 1600000 in
theorem valid_rng (ca af : Int) (A : Option Addr) (n cap : Nat) (M : Nat → Ms) (ov re : Int) (fz : Bool) (w : World) (h : rngB ca af ov re = false) : Calls Try.prog 19 #[.agg #[.int .i64 ca, .int .i64 af, .slice A n cap, .int .i64 ov, .int .i64 re, .bool fz]] w fun e w' => e = .returned (.int .i64 (valE ca af n M ov re fz)) ∧ New w w' := by
  go_enter Try.func19, Try.ntmps19
  go_wp2_with (first | (go_at_call 42; refine (fit_any _ _ _).mono ?_; rintro e w' ⟨rfl, rfl⟩) | (go_at_call 44; refine (inside_any _ _ _ _).mono ?_; rintro e w' ⟨rfl, rfl⟩) | (go_at_call 45; exfalso; unfold rngB at h; simp_all; done))
  all_goals (go_ret; exact ⟨ret_int (by go_light; simp_all [valE]), by repeat (first | with_reducible exact new0 _ | with_reducible apply New.alloc | with_reducible apply New.drewN | with_reducible apply New.drew | (with_reducible refine New.setCell ?_ (by simp <;> omega) _))⟩)
set_option maxHeartbeats 1600000 in
theorem valid_sam (ca af : Int) (A : Option Addr) (n cap : Nat) (M : Nat → Ms) (ov re : Int) (fz : Bool) (w : World) (hM : MsV w (.slice A n cap) n M) (hn : n ≤ 1000) (h : rngB ca af ov re = true) (s : Int) (hs : samE M n = s) (h1 : ¬ s = 0) : Calls Try.prog 19 #[.agg #[.int .i64 ca, .int .i64 af, .slice A n cap, .int .i64 ov, .int .i64 re, .bool fz]] w fun e w' => e = .returned (.int .i64 (valE ca af n M ov re fz)) ∧ New w w' := by
  have h0 := h
  unfold rngB at h0
  simp only [Bool.and_eq_true] at h0
  obtain ⟨⟨q1, q2⟩, q3⟩ := h0
  have HM := Lib.hid hM
  clear hM
  have HS := Lib.hid hs
  have hv : valE ca af n M ov re fz = s := by simp [valE, h, hs, h1]
  have HV := Lib.hid hv
  clear hs hv h
  go_enter Try.func19, Try.ntmps19
  go_wp2_with (first
    | (go_at_call 42; refine (fit_any _ _ _).mono ?_; rw [q1]; rintro e w' ⟨rfl, rfl⟩)
    | (go_at_call 44; refine (inside_any _ _ _ _).mono ?_; (first | rw [q2] | rw [q3]); rintro e w' ⟨rfl, rfl⟩))
  refine (sam_v _ n M _ hn (HM.out.new ((new0 w).alloc _))).mono ?_
  rw [HS.out]
  rintro e w2 ⟨rfl, g2⟩
  have Z2 := (blk_alloc w #[.int .i64 ca, .int .i64 af, .slice A n cap, .int .i64 ov, .int .i64 re, .bool fz] 24 _ rfl).new g2
  have H2 := Lib.hid g2
  clear g2
  obtain ⟨j0, j1, j2, j3, j4, j5, jf, jz⟩ := Z2.c6
  clear Z2
  go_wp2_with fail
  go_ret
  exact ⟨ret_int (by rw [HV.out]), by repeat (first | with_reducible exact new0 _ | with_reducible apply New.alloc | with_reducible apply New.drewN | with_reducible apply New.drew | (with_reducible refine New.setCell ?_ (by simp <;> omega) _) | (with_reducible refine New.trans ?_ H2.out))⟩
set_option maxHeartbeats 1600000 in
theorem valid_end (ca af : Int) (A : Option Addr) (n cap : Nat) (M : Nat → Ms) (ov re : Int) (fz : Bool) (w : World) (hM : MsV w (.slice A n cap) n M) (hn : n ≤ 1000) (h : rngB ca af ov re = true) (hs : samE M n = 0) : Calls Try.prog 19 #[.agg #[.int .i64 ca, .int .i64 af, .slice A n cap, .int .i64 ov, .int .i64 re, .bool fz]] w fun e w' => e = .returned (.int .i64 (valE ca af n M ov re fz)) ∧ New w w' := by
  have h0 := h
  unfold rngB at h0
  simp only [Bool.and_eq_true] at h0
  obtain ⟨⟨q1, q2⟩, q3⟩ := h0
  have HM := Lib.hid hM
  clear hM
  have HS := Lib.hid hs
  have hv : ∀ z, valE ca af n M ov re z = endE ca n ov re z := fun z => by simp [valE, h, hs]
  have HV := Lib.hid hv
  clear hs hv h
  go_enter Try.func19, Try.ntmps19
  go_wp2_with (first
    | (go_at_call 42; refine (fit_any _ _ _).mono ?_; rw [q1]; rintro e w' ⟨rfl, rfl⟩)
    | (go_at_call 44; refine (inside_any _ _ _ _).mono ?_; (first | rw [q2] | rw [q3]); rintro e w' ⟨rfl, rfl⟩))
  refine (sam_v _ n M _ hn (HM.out.new ((new0 w).alloc _))).mono ?_
  rw [HS.out]
  rintro e w2 ⟨rfl, g2⟩
  have Z2 := (blk_alloc w #[.int .i64 ca, .int .i64 af, .slice A n cap, .int .i64 ov, .int .i64 re, .bool fz] 24 _ rfl).new g2
  have H2 := Lib.hid g2
  clear g2
  obtain ⟨j0, j1, j2, j3, j4, j5, jf, jz⟩ := Z2.c6
  clear Z2
  go_wp2_with fail
  all_goals go_ret
  all_goals exact ⟨ret_int (by rw [HV.out]; go_light; unfold endE; first | (simp_all; done) | (simp_all; omega) | (cases fz <;> simp_all <;> omega)), by repeat (first | with_reducible exact new0 _ | with_reducible apply New.alloc | with_reducible apply New.drewN | with_reducible apply New.drew | (with_reducible refine New.setCell ?_ (by simp <;> omega) _) | (with_reducible refine New.trans ?_ H2.out))⟩
theorem valid_any (ca af : Int) (A : Option Addr) (n cap : Nat) (M : Nat → Ms) (ov re : Int) (fz : Bool) (w : World) (hM : MsV w (.slice A n cap) n M) (hn : n ≤ 1000) : Calls Try.prog 19 #[.agg #[.int .i64 ca, .int .i64 af, .slice A n cap, .int .i64 ov, .int .i64 re, .bool fz]] w fun e w' => e = .returned (.int .i64 (valE ca af n M ov re fz)) ∧ New w w' := by
  by_cases h : rngB ca af ov re = true
  · by_cases hs : samE M n = 0
    · exact valid_end ca af A n cap M ov re fz w hM hn h hs
    · exact valid_sam ca af A n cap M ov re fz w hM hn h _ rfl hs
  · exact valid_rng ca af A n cap M ov re fz w (by simpa using h)
set_option maxHeartbeats 1600000 in
theorem rvalid_rng1 (ca af : Int) (A : Option Addr) (n cap : Nat) (M : Nat → Ms) (ov re : Int) (fz : Bool) (w : World) (h : fitB ca af = false) : Calls Try.prog 20 #[.agg #[.int .i64 ca, .int .i64 af, .slice A n cap, .int .i64 ov, .int .i64 re, .bool fz]] w fun e w' => e = .returned (.int .i64 (valE ca af n M ov re fz)) ∧ New w w' := by
  have h' : ¬ fitB ca af = true := by simp [h]
  have hv : valE ca af n M ov re fz = 6 := by simp [valE, rngB, h]
  have HV := Lib.hid hv
  clear hv
  go_enter Try.func20, Try.ntmps20
  go_wp2_with fail
  refine (rnew_any ca af _).mono ?_
  rintro e w1 ⟨rfl, g1⟩
  have Z := Lib.hid ((blk_alloc w #[.int .i64 ca, .int .i64 af, .slice A n cap, .int .i64 ov, .int .i64 re, .bool fz] 24 _ rfl).new g1)
  have H1 := Lib.hid (New.trans ((new0 w).alloc _) g1)
  clear g1
  obtain ⟨k0, k1, k2, k3, k4, k5, kf, kz⟩ := Z.out.c6
  simp only [if_neg h']
  go_wp2_with fail
  go_ret
  exact ⟨ret_int (by rw [HV.out]), by repeat (first | with_reducible exact new0 _ | with_reducible apply New.alloc | with_reducible apply New.drewN | with_reducible apply New.drew | (with_reducible refine New.setCell ?_ (by simp <;> omega) _) | (with_reducible refine New.trans ?_ H1.out))⟩
set_option maxHeartbeats 1600000 in
theorem rvalid_rng2 (ca af : Int) (A : Option Addr) (n cap : Nat) (M : Nat → Ms) (ov re : Int) (fz : Bool) (w : World) (h : fitB ca af = true) (h2 : rngB ca af ov re = false) : Calls Try.prog 20 #[.agg #[.int .i64 ca, .int .i64 af, .slice A n cap, .int .i64 ov, .int .i64 re, .bool fz]] w fun e w' => e = .returned (.int .i64 (valE ca af n M ov re fz)) ∧ New w w' := by
  have hv : valE ca af n M ov re fz = 6 := by simp [valE, h2]
  have HV := Lib.hid hv
  have h3 : ov < 0 ∨ 1099511627776 < ov ∨ re < -1 ∨ af < re := by
    unfold rngB at h2
    rw [h] at h2
    unfold insB at h2
    simp only [Bool.true_and, Bool.and_eq_false_iff, decide_eq_false_iff_not] at h2
    omega
  clear hv h2
  go_enter Try.func20, Try.ntmps20
  go_wp2_with fail
  refine (rnew_any ca af _).mono ?_
  rintro e w1 ⟨rfl, g1⟩
  have Z := Lib.hid ((blk_alloc w #[.int .i64 ca, .int .i64 af, .slice A n cap, .int .i64 ov, .int .i64 re, .bool fz] 24 _ rfl).new g1)
  have H1 := Lib.hid (New.trans ((new0 w).alloc _) g1)
  clear g1
  obtain ⟨k0, k1, k2, k3, k4, k5, kf, kz⟩ := Z.out.c6
  simp only [if_pos h]
  go_wp2_with (go_at_call 46; exfalso; omega)
  all_goals (go_ret; exact ⟨ret_int (by rw [HV.out]), by repeat (first | with_reducible exact new0 _ | with_reducible apply New.alloc | with_reducible apply New.drewN | with_reducible apply New.drew | (with_reducible refine New.setCell ?_ (by simp <;> omega) _) | (with_reducible refine New.trans ?_ H1.out))⟩)
set_option maxHeartbeats 1600000 in
theorem rvalid_sam (ca af : Int) (A : Option Addr) (n cap : Nat) (M : Nat → Ms) (ov re : Int) (fz : Bool) (w : World) (hM : MsV w (.slice A n cap) n M) (hn : n ≤ 1000) (h : rngB ca af ov re = true) (s : Int) (hs : samE M n = s) (h1 : ¬ s = 0) : Calls Try.prog 20 #[.agg #[.int .i64 ca, .int .i64 af, .slice A n cap, .int .i64 ov, .int .i64 re, .bool fz]] w fun e w' => e = .returned (.int .i64 (valE ca af n M ov re fz)) ∧ New w w' := by
  have h0 := h
  unfold rngB at h0
  simp only [Bool.and_eq_true] at h0
  obtain ⟨⟨q1, q2⟩, q3⟩ := h0
  have HM := Lib.hid hM
  clear hM
  unfold insB at q2 q3
  simp only [decide_eq_true_eq] at q2 q3
  have u1 : ¬ ov < 0 := by omega
  have u2 : ¬ 1099511627776 < ov := by omega
  have u3 : ¬ re < -1 := by omega
  have u4 : ¬ af < re := by omega
  clear q2 q3
  have HS := Lib.hid hs
  have hv : valE ca af n M ov re fz = s := by simp [valE, h, hs, h1]
  have HV := Lib.hid hv
  clear hs hv h
  go_enter Try.func20, Try.ntmps20
  go_wp2_with fail
  refine (rnew_any ca af _).mono ?_
  rintro e w1 ⟨rfl, g1⟩
  have Z := Lib.hid ((blk_alloc w #[.int .i64 ca, .int .i64 af, .slice A n cap, .int .i64 ov, .int .i64 re, .bool fz] 24 _ rfl).new g1)
  have H1 := Lib.hid (New.trans ((new0 w).alloc _) g1)
  clear g1
  obtain ⟨k0, k1, k2, k3, k4, k5, kf, kz⟩ := Z.out.c6
  simp only [if_pos q1]
  go_wp2_with fail
  refine (rsam2_v _ n M _ hn ((HM.out.new H1.out).new ((new0 _).alloc _))).mono ?_
  rw [HS.out]
  rintro e w2 ⟨rfl, g2⟩
  have Z2 := (Z.out.new ((new0 _).alloc _)).new g2
  have H2 := Lib.hid g2
  clear g2
  clear k0 k1 k2 k3 k4 k5 kf kz
  obtain ⟨j0, j1, j2, j3, j4, j5, jf, jz⟩ := Z2.c6
  clear Z2
  go_wp2_with fail
  go_ret
  exact ⟨ret_int (by rw [HV.out]), by repeat (first | with_reducible exact new0 _ | with_reducible apply New.alloc | with_reducible apply New.drewN | with_reducible apply New.drew | (with_reducible refine New.setCell ?_ (by simp <;> omega) _) | (with_reducible refine New.trans ?_ H2.out) | (with_reducible refine New.trans ?_ H1.out))⟩
set_option maxHeartbeats 1600000 in
theorem rvalid_end (ca af : Int) (A : Option Addr) (n cap : Nat) (M : Nat → Ms) (ov re : Int) (fz : Bool) (w : World) (hM : MsV w (.slice A n cap) n M) (hn : n ≤ 1000) (h : rngB ca af ov re = true) (hs : samE M n = 0) : Calls Try.prog 20 #[.agg #[.int .i64 ca, .int .i64 af, .slice A n cap, .int .i64 ov, .int .i64 re, .bool fz]] w fun e w' => e = .returned (.int .i64 (valE ca af n M ov re fz)) ∧ New w w' := by
  have h0 := h
  unfold rngB at h0
  simp only [Bool.and_eq_true] at h0
  obtain ⟨⟨q1, q2⟩, q3⟩ := h0
  have HM := Lib.hid hM
  clear hM
  unfold insB at q2 q3
  simp only [decide_eq_true_eq] at q2 q3
  have u1 : ¬ ov < 0 := by omega
  have u2 : ¬ 1099511627776 < ov := by omega
  have u3 : ¬ re < -1 := by omega
  have u4 : ¬ af < re := by omega
  clear q2 q3
  have HS := Lib.hid hs
  have hv : ∀ z, valE ca af n M ov re z = endE ca n ov re z := fun z => by simp [valE, h, hs]
  have HV := Lib.hid hv
  clear hs hv h
  go_enter Try.func20, Try.ntmps20
  go_wp2_with fail
  refine (rnew_any ca af _).mono ?_
  rintro e w1 ⟨rfl, g1⟩
  have Z := Lib.hid ((blk_alloc w #[.int .i64 ca, .int .i64 af, .slice A n cap, .int .i64 ov, .int .i64 re, .bool fz] 24 _ rfl).new g1)
  have H1 := Lib.hid (New.trans ((new0 w).alloc _) g1)
  clear g1
  obtain ⟨k0, k1, k2, k3, k4, k5, kf, kz⟩ := Z.out.c6
  simp only [if_pos q1]
  go_wp2_with fail
  refine (rsam2_v _ n M _ hn ((HM.out.new H1.out).new ((new0 _).alloc _))).mono ?_
  rw [HS.out]
  rintro e w2 ⟨rfl, g2⟩
  have Z2 := (Z.out.new ((new0 _).alloc _)).new g2
  have H2 := Lib.hid g2
  clear g2
  clear k0 k1 k2 k3 k4 k5 kf kz
  obtain ⟨j0, j1, j2, j3, j4, j5, jf, jz⟩ := Z2.c6
  clear Z2
  go_wp2_with fail
  all_goals go_ret
  all_goals exact ⟨ret_int (by rw [HV.out]; go_light; unfold endE; first | (simp_all; done) | (simp_all; omega) | (cases fz <;> simp_all <;> omega)), by repeat (first | with_reducible exact new0 _ | with_reducible apply New.alloc | with_reducible apply New.drewN | with_reducible apply New.drew | (with_reducible refine New.setCell ?_ (by simp <;> omega) _) | (with_reducible refine New.trans ?_ H2.out) | (with_reducible refine New.trans ?_ H1.out))⟩
theorem rvalid_any (ca af : Int) (A : Option Addr) (n cap : Nat) (M : Nat → Ms) (ov re : Int) (fz : Bool) (w : World) (hM : MsV w (.slice A n cap) n M) (hn : n ≤ 1000) : Calls Try.prog 20 #[.agg #[.int .i64 ca, .int .i64 af, .slice A n cap, .int .i64 ov, .int .i64 re, .bool fz]] w fun e w' => e = .returned (.int .i64 (valE ca af n M ov re fz)) ∧ New w w' := by
  by_cases h : rngB ca af ov re = true
  · by_cases hs : samE M n = 0
    · exact rvalid_end ca af A n cap M ov re fz w hM hn h hs
    · exact rvalid_sam ca af A n cap M ov re fz w hM hn h _ rfl hs
  · by_cases hf : fitB ca af = true
    · exact rvalid_rng2 ca af A n cap M ov re fz w hf (by simpa using h)
    · exact rvalid_rng1 ca af A n cap M ov re fz w (by simpa using hf)
end Go.Proofs.Ytedbjnojogjnkaa
