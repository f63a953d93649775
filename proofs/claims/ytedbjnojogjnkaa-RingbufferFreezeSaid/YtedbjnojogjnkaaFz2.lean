/-
  Freeze and Rearm: all cases.
-/
import Derived.Test.YtedbjnojogjnkaaFok
namespace Go.Proofs.Ytedbjnojogjnkaa
open Go.RowKit
theorem vB_fit {x : Bf} (h : vB x = 0) : fitB x.ca x.af = true := by
  have := vB_zero h
  unfold fitB insB
  simp only [Bool.and_eq_true, decide_eq_true_eq]
  omega
theorem freeze_v (u : Value) (y : Bf) (k : Int) (w : World) (h : BufB w u y) (hn : y.n ≤ 1000) : Calls Try.prog 23 #[u, .int .i64 k] w (ResPost w (resB (frzE y k) (frzB y)) (frzE y k)) := by
  obtain ⟨ca, af, n, M, ov, re, fz⟩ := y
  obtain ⟨v, rfl, hM⟩ := h
  obtain ⟨A, cap, rfl⟩ := hM.len
  replace hM : MsV w (.slice A n cap) n M := hM
  replace hn : n ≤ 1000 := hn
  by_cases hv : vB ⟨ca, af, n, M, ov, re, fz⟩ = 0
  · by_cases hk : insB k 0 1099511627776 = true
    · have e : frzE ⟨ca, af, n, M, ov, re, fz⟩ k = 0 := by unfold frzE; rw [if_neg (by simpa using hv), if_neg (by simp [hk])]
      rw [e]
      exact freeze_ok ca af A n cap M ov re fz k w hM hn hv hk
    · have hk : insB k 0 1099511627776 = false := by simpa using hk
      have e : frzE ⟨ca, af, n, M, ov, re, fz⟩ k = 6 := by unfold frzE; rw [if_neg (by simpa using hv), if_pos hk]
      rw [e]
      exact freeze_rng ca af A n cap M ov re fz k w hM hn hv hk
  · have e : frzE ⟨ca, af, n, M, ov, re, fz⟩ k = vB ⟨ca, af, n, M, ov, re, fz⟩ := by unfold frzE; rw [if_pos hv]
    rw [e, show resB (vB ⟨ca, af, n, M, ov, re, fz⟩) (frzB ⟨ca, af, n, M, ov, re, fz⟩) = bz from if_neg hv]
    exact freeze_bad ca af A n cap M ov re fz k w hM hn _ rfl hv
set_option maxHeartbeats 3200000 in
theorem rearm_bad (ca af : Int) (A : Option Addr) (n cap : Nat) (M : Nat → Ms) (ov re : Int) (fz : Bool) (w : World) (hM : MsV w (.slice A n cap) n M) (hn : n ≤ 1000) (e : Int) (hv : vB ⟨ca, af, n, M, ov, re, fz⟩ = e) (h0 : ¬ e = 0) :
    Calls Try.prog 25 #[.agg #[.int .i64 ca, .int .i64 af, .slice A n cap, .int .i64 ov, .int .i64 re, .bool fz]] w (ResPost w bz e) := by
  have HM := Lib.hid hM
  have hvv : valE ca af n M ov re fz = e := hv
  have HV := Lib.hid hvv
  clear hM hv hvv
  have A1 := Lib.hid ((blk_alloc w #[.int .i64 ca, .int .i64 af, .slice A n cap, .int .i64 ov, .int .i64 re, .bool fz] 24 _ rfl).new ((new0 _).alloc (.cells #[.int .i64 0, .int .i64 0, .slice none 0 0, .int .i64 0, .int .i64 0, .bool false] 24)))
  have C1 := Lib.hid (blk_alloc (w.alloc (.cells #[.int .i64 ca, .int .i64 af, .slice A n cap, .int .i64 ov, .int .i64 re, .bool fz] 24)) #[.int .i64 0, .int .i64 0, .slice none 0 0, .int .i64 0, .int .i64 0, .bool false] 24 (w.heap.size + 1) (by simp))
  go_enter Try.func25, Try.ntmps25
  go_wp2_with fail
  refine (valid_any ca af A n cap M ov re fz _ (HM.out.new ((((new0 w).alloc _).alloc _))) hn).mono ?_
  rw [HV.out]
  rintro e w1 ⟨rfl, g1⟩
  have A1 := Lib.hid (A1.out.new g1)
  have C1 := Lib.hid (C1.out.new g1)
  obtain ⟨k0, k1, k2, k3, k4, k5, kf, kz⟩ := A1.out.c6
  obtain ⟨m0, m1, m2, m3, m4, m5, mf, mz⟩ := C1.out.c6
  have H1 := Lib.hid (show New w w1 from New.trans ((((new0 w).alloc _).alloc _)) g1)
  clear g1
  go_wp2_with fail
  refine bodyPost_ret (v := .tuple #[.agg #[.int .i64 0, .int .i64 0, .slice none 0 0, .int .i64 0, .int .i64 0, .bool false], .int .i64 e]) (by go_light; simp [results, Try.results25, go_sem, *]) rfl ?_
  exact ⟨_, rfl, bz_of _, by repeat (first | with_reducible exact new0 _ | with_reducible apply New.alloc | with_reducible apply New.drewN | with_reducible apply New.drew | (with_reducible refine New.setCell ?_ (by simp <;> omega) _) | (with_reducible refine New.trans ?_ H1.out))⟩
set_option maxHeartbeats 3200000 in
theorem rearm_run (ca af : Int) (A : Option Addr) (n cap : Nat) (M : Nat → Ms) (ov re : Int) (fz : Bool) (w : World) (hM : MsV w (.slice A n cap) n M) (hn : n ≤ 1000) (hv : vB ⟨ca, af, n, M, ov, re, fz⟩ = 0) (hf : fz = false) :
    Calls Try.prog 25 #[.agg #[.int .i64 ca, .int .i64 af, .slice A n cap, .int .i64 ov, .int .i64 re, .bool fz]] w (ResPost w bz 8) := by
  subst hf
  have HM := Lib.hid hM
  have hvv : valE ca af n M ov re false = 0 := hv
  have HV := Lib.hid hvv
  clear hM hv hvv
  have A1 := Lib.hid ((blk_alloc w #[.int .i64 ca, .int .i64 af, .slice A n cap, .int .i64 ov, .int .i64 re, .bool false] 24 _ rfl).new ((new0 _).alloc (.cells #[.int .i64 0, .int .i64 0, .slice none 0 0, .int .i64 0, .int .i64 0, .bool false] 24)))
  have C1 := Lib.hid (blk_alloc (w.alloc (.cells #[.int .i64 ca, .int .i64 af, .slice A n cap, .int .i64 ov, .int .i64 re, .bool false] 24)) #[.int .i64 0, .int .i64 0, .slice none 0 0, .int .i64 0, .int .i64 0, .bool false] 24 (w.heap.size + 1) (by simp))
  go_enter Try.func25, Try.ntmps25
  go_wp2_with fail
  refine (valid_any ca af A n cap M ov re false _ (HM.out.new ((((new0 w).alloc _).alloc _))) hn).mono ?_
  rw [HV.out]
  rintro e w1 ⟨rfl, g1⟩
  have A1 := Lib.hid (A1.out.new g1)
  have C1 := Lib.hid (C1.out.new g1)
  obtain ⟨k0, k1, k2, k3, k4, k5, kf, kz⟩ := A1.out.c6
  obtain ⟨m0, m1, m2, m3, m4, m5, mf, mz⟩ := C1.out.c6
  have H1 := Lib.hid (show New w w1 from New.trans ((((new0 w).alloc _).alloc _)) g1)
  clear g1
  go_wp2_with fail
  refine bodyPost_ret (v := .tuple #[.agg #[.int .i64 0, .int .i64 0, .slice none 0 0, .int .i64 0, .int .i64 0, .bool false], .int .i64 8]) (by go_light; simp [results, Try.results25, go_sem, *]) rfl ?_
  exact ⟨_, rfl, bz_of _, by repeat (first | with_reducible exact new0 _ | with_reducible apply New.alloc | with_reducible apply New.drewN | with_reducible apply New.drew | (with_reducible refine New.setCell ?_ (by simp <;> omega) _) | (with_reducible refine New.trans ?_ H1.out))⟩
set_option maxHeartbeats 3200000 in
theorem rearm_ok (ca af : Int) (A : Option Addr) (n cap : Nat) (M : Nat → Ms) (ov re : Int) (fz : Bool) (w : World) (hM : MsV w (.slice A n cap) n M) (hn : n ≤ 1000) (hv : vB ⟨ca, af, n, M, ov, re, fz⟩ = 0) (hf : fz = true) :
    Calls Try.prog 25 #[.agg #[.int .i64 ca, .int .i64 af, .slice A n cap, .int .i64 ov, .int .i64 re, .bool fz]] w (ResPost w (rearB (⟨ca, af, n, M, ov, re, fz⟩ : Bf)) 0) := by
  subst hf
  have HFT := Lib.hid (vB_fit hv)
  have HM := Lib.hid hM
  have hvv : valE ca af n M ov re true = 0 := hv
  have HV := Lib.hid hvv
  clear hM hv hvv
  have A1 := Lib.hid ((blk_alloc w #[.int .i64 ca, .int .i64 af, .slice A n cap, .int .i64 ov, .int .i64 re, .bool true] 24 _ rfl).new ((new0 _).alloc (.cells #[.int .i64 0, .int .i64 0, .slice none 0 0, .int .i64 0, .int .i64 0, .bool false] 24)))
  have C1 := Lib.hid (blk_alloc (w.alloc (.cells #[.int .i64 ca, .int .i64 af, .slice A n cap, .int .i64 ov, .int .i64 re, .bool true] 24)) #[.int .i64 0, .int .i64 0, .slice none 0 0, .int .i64 0, .int .i64 0, .bool false] 24 (w.heap.size + 1) (by simp))
  go_enter Try.func25, Try.ntmps25
  go_wp2_with fail
  refine (valid_any ca af A n cap M ov re true _ (HM.out.new ((((new0 w).alloc _).alloc _))) hn).mono ?_
  rw [HV.out]
  rintro e w1 ⟨rfl, g1⟩
  have A1 := Lib.hid (A1.out.new g1)
  have C1 := Lib.hid (C1.out.new g1)
  obtain ⟨k0, k1, k2, k3, k4, k5, kf, kz⟩ := A1.out.c6
  obtain ⟨m0, m1, m2, m3, m4, m5, mf, mz⟩ := C1.out.c6
  have H1 := Lib.hid (show New w w1 from New.trans ((((new0 w).alloc _).alloc _)) g1)
  clear g1
  go_wp2_with fail
  refine (fresh_any ca af _).mono ?_
  rintro e w2 ⟨rfl, g2⟩
  clear k0 k1 k2 k3 k4 k5 kf kz m0 m1 m2 m3 m4 m5 mf mz
  obtain ⟨k0, k1, k2, k3, k4, k5, kf, kz⟩ := (A1.out.new g2).c6
  obtain ⟨m0, m1, m2, m3, m4, m5, mf, mz⟩ := (C1.out.new g2).c6
  have H2 := Lib.hid (H1.out.trans g2)
  have hz1 : w.heap.size ≤ w2.heap.size := New.size (H1.out.trans g2)
  clear g2
  go_wp2_with fail
  refine bodyPost_ret (v := .tuple #[.agg #[.int .i64 ca, .int .i64 af, .slice none 0 0, .int .i64 0, .int .i64 (-1), .bool false], .int .i64 0]) (by go_light; simp [results, Try.results25, go_sem, *]) rfl ?_
  exact ⟨_, rfl, ⟨_, rfl, .inl ⟨rfl, none, 0, rfl⟩, fun _ _ _ _ h => absurd h (Nat.lt_irrefl 0)⟩, by repeat (first | with_reducible exact new0 _ | with_reducible apply New.alloc | with_reducible apply New.drewN | with_reducible apply New.drew | (with_reducible refine New.setCell ?_ (by simp <;> omega) _) | (with_reducible refine New.trans ?_ H2.out))⟩
theorem rearm_v (u : Value) (y : Bf) (w : World) (h : BufB w u y) (hn : y.n ≤ 1000) : Calls Try.prog 25 #[u] w (ResPost w (resB (rearE y) (rearB y)) (rearE y)) := by
  obtain ⟨ca, af, n, M, ov, re, fz⟩ := y
  obtain ⟨v, rfl, hM⟩ := h
  obtain ⟨A, cap, rfl⟩ := hM.len
  replace hM : MsV w (.slice A n cap) n M := hM
  replace hn : n ≤ 1000 := hn
  by_cases hv : vB ⟨ca, af, n, M, ov, re, fz⟩ = 0
  · by_cases hf : fz = true
    · have e : rearE ⟨ca, af, n, M, ov, re, fz⟩ = 0 := by unfold rearE; rw [if_neg (by simpa using hv), if_neg (by simp [hf])]
      rw [e]
      exact rearm_ok ca af A n cap M ov re fz w hM hn hv hf
    · have hf : fz = false := by simpa using hf
      have e : rearE ⟨ca, af, n, M, ov, re, fz⟩ = 8 := by unfold rearE; rw [if_neg (by simpa using hv), if_pos hf]
      rw [e]
      exact rearm_run ca af A n cap M ov re fz w hM hn hv hf
  · have e : rearE ⟨ca, af, n, M, ov, re, fz⟩ = vB ⟨ca, af, n, M, ov, re, fz⟩ := by unfold rearE; rw [if_pos hv]
    rw [e, show resB (vB ⟨ca, af, n, M, ov, re, fz⟩) (rearB ⟨ca, af, n, M, ov, re, fz⟩) = bz from if_neg hv]
    exact rearm_bad ca af A n cap M ov re fz w hM hn _ rfl hv
set_option maxHeartbeats 3200000 in
theorem rrearm_bad (ca af : Int) (A : Option Addr) (n cap : Nat) (M : Nat → Ms) (ov re : Int) (fz : Bool) (w : World) (hM : MsV w (.slice A n cap) n M) (hn : n ≤ 1000) (e : Int) (hv : vB ⟨ca, af, n, M, ov, re, fz⟩ = e) (h0 : ¬ e = 0) :
    Calls Try.prog 26 #[.agg #[.int .i64 ca, .int .i64 af, .slice A n cap, .int .i64 ov, .int .i64 re, .bool fz]] w (ResPost w bz e) := by
  have HM := Lib.hid hM
  have hvv : valE ca af n M ov re fz = e := hv
  have HV := Lib.hid hvv
  clear hM hv hvv
  have A1 := Lib.hid ((blk_alloc w #[.int .i64 ca, .int .i64 af, .slice A n cap, .int .i64 ov, .int .i64 re, .bool fz] 24 _ rfl).new ((new0 _).alloc (.cells #[.int .i64 0, .int .i64 0, .slice none 0 0, .int .i64 0, .int .i64 0, .bool false] 24)))
  have C1 := Lib.hid (blk_alloc (w.alloc (.cells #[.int .i64 ca, .int .i64 af, .slice A n cap, .int .i64 ov, .int .i64 re, .bool fz] 24)) #[.int .i64 0, .int .i64 0, .slice none 0 0, .int .i64 0, .int .i64 0, .bool false] 24 (w.heap.size + 1) (by simp))
  go_enter Try.func26, Try.ntmps26
  go_wp2_with fail
  refine (rvalid_any ca af A n cap M ov re fz _ (HM.out.new ((((new0 w).alloc _).alloc _))) hn).mono ?_
  rw [HV.out]
  rintro e w1 ⟨rfl, g1⟩
  have A1 := Lib.hid (A1.out.new g1)
  have C1 := Lib.hid (C1.out.new g1)
  obtain ⟨k0, k1, k2, k3, k4, k5, kf, kz⟩ := A1.out.c6
  obtain ⟨m0, m1, m2, m3, m4, m5, mf, mz⟩ := C1.out.c6
  have H1 := Lib.hid (show New w w1 from New.trans ((((new0 w).alloc _).alloc _)) g1)
  clear g1
  go_wp2_with fail
  refine bodyPost_ret (v := .tuple #[.agg #[.int .i64 0, .int .i64 0, .slice none 0 0, .int .i64 0, .int .i64 0, .bool false], .int .i64 e]) (by go_light; simp [results, Try.results26, go_sem, *]) rfl ?_
  exact ⟨_, rfl, bz_of _, by repeat (first | with_reducible exact new0 _ | with_reducible apply New.alloc | with_reducible apply New.drewN | with_reducible apply New.drew | (with_reducible refine New.setCell ?_ (by simp <;> omega) _) | (with_reducible refine New.trans ?_ H1.out))⟩
set_option maxHeartbeats 3200000 in
theorem rrearm_run (ca af : Int) (A : Option Addr) (n cap : Nat) (M : Nat → Ms) (ov re : Int) (fz : Bool) (w : World) (hM : MsV w (.slice A n cap) n M) (hn : n ≤ 1000) (hv : vB ⟨ca, af, n, M, ov, re, fz⟩ = 0) (hf : fz = false) :
    Calls Try.prog 26 #[.agg #[.int .i64 ca, .int .i64 af, .slice A n cap, .int .i64 ov, .int .i64 re, .bool fz]] w (ResPost w bz 8) := by
  subst hf
  have HM := Lib.hid hM
  have hvv : valE ca af n M ov re false = 0 := hv
  have HV := Lib.hid hvv
  clear hM hv hvv
  have A1 := Lib.hid ((blk_alloc w #[.int .i64 ca, .int .i64 af, .slice A n cap, .int .i64 ov, .int .i64 re, .bool false] 24 _ rfl).new ((new0 _).alloc (.cells #[.int .i64 0, .int .i64 0, .slice none 0 0, .int .i64 0, .int .i64 0, .bool false] 24)))
  have C1 := Lib.hid (blk_alloc (w.alloc (.cells #[.int .i64 ca, .int .i64 af, .slice A n cap, .int .i64 ov, .int .i64 re, .bool false] 24)) #[.int .i64 0, .int .i64 0, .slice none 0 0, .int .i64 0, .int .i64 0, .bool false] 24 (w.heap.size + 1) (by simp))
  go_enter Try.func26, Try.ntmps26
  go_wp2_with fail
  refine (rvalid_any ca af A n cap M ov re false _ (HM.out.new ((((new0 w).alloc _).alloc _))) hn).mono ?_
  rw [HV.out]
  rintro e w1 ⟨rfl, g1⟩
  have A1 := Lib.hid (A1.out.new g1)
  have C1 := Lib.hid (C1.out.new g1)
  obtain ⟨k0, k1, k2, k3, k4, k5, kf, kz⟩ := A1.out.c6
  obtain ⟨m0, m1, m2, m3, m4, m5, mf, mz⟩ := C1.out.c6
  have H1 := Lib.hid (show New w w1 from New.trans ((((new0 w).alloc _).alloc _)) g1)
  clear g1
  go_wp2_with fail
  refine bodyPost_ret (v := .tuple #[.agg #[.int .i64 0, .int .i64 0, .slice none 0 0, .int .i64 0, .int .i64 0, .bool false], .int .i64 8]) (by go_light; simp [results, Try.results26, go_sem, *]) rfl ?_
  exact ⟨_, rfl, bz_of _, by repeat (first | with_reducible exact new0 _ | with_reducible apply New.alloc | with_reducible apply New.drewN | with_reducible apply New.drew | (with_reducible refine New.setCell ?_ (by simp <;> omega) _) | (with_reducible refine New.trans ?_ H1.out))⟩
set_option maxHeartbeats 3200000 in
theorem rrearm_ok (ca af : Int) (A : Option Addr) (n cap : Nat) (M : Nat → Ms) (ov re : Int) (fz : Bool) (w : World) (hM : MsV w (.slice A n cap) n M) (hn : n ≤ 1000) (hv : vB ⟨ca, af, n, M, ov, re, fz⟩ = 0) (hf : fz = true) :
    Calls Try.prog 26 #[.agg #[.int .i64 ca, .int .i64 af, .slice A n cap, .int .i64 ov, .int .i64 re, .bool fz]] w (ResPost w (rearB (⟨ca, af, n, M, ov, re, fz⟩ : Bf)) 0) := by
  subst hf
  have HFT := Lib.hid (vB_fit hv)
  have HM := Lib.hid hM
  have hvv : valE ca af n M ov re true = 0 := hv
  have HV := Lib.hid hvv
  clear hM hv hvv
  have A1 := Lib.hid ((blk_alloc w #[.int .i64 ca, .int .i64 af, .slice A n cap, .int .i64 ov, .int .i64 re, .bool true] 24 _ rfl).new ((new0 _).alloc (.cells #[.int .i64 0, .int .i64 0, .slice none 0 0, .int .i64 0, .int .i64 0, .bool false] 24)))
  have C1 := Lib.hid (blk_alloc (w.alloc (.cells #[.int .i64 ca, .int .i64 af, .slice A n cap, .int .i64 ov, .int .i64 re, .bool true] 24)) #[.int .i64 0, .int .i64 0, .slice none 0 0, .int .i64 0, .int .i64 0, .bool false] 24 (w.heap.size + 1) (by simp))
  go_enter Try.func26, Try.ntmps26
  go_wp2_with fail
  refine (rvalid_any ca af A n cap M ov re true _ (HM.out.new ((((new0 w).alloc _).alloc _))) hn).mono ?_
  rw [HV.out]
  rintro e w1 ⟨rfl, g1⟩
  have A1 := Lib.hid (A1.out.new g1)
  have C1 := Lib.hid (C1.out.new g1)
  obtain ⟨k0, k1, k2, k3, k4, k5, kf, kz⟩ := A1.out.c6
  obtain ⟨m0, m1, m2, m3, m4, m5, mf, mz⟩ := C1.out.c6
  have H1 := Lib.hid (show New w w1 from New.trans ((((new0 w).alloc _).alloc _)) g1)
  clear g1
  go_wp2_with fail
  refine (rnew_any ca af _).mono ?_
  unfold NewPost
  rw [HFT.out]
  rintro e w2 ⟨rfl, g2⟩
  clear k0 k1 k2 k3 k4 k5 kf kz m0 m1 m2 m3 m4 m5 mf mz
  obtain ⟨k0, k1, k2, k3, k4, k5, kf, kz⟩ := (A1.out.new g2).c6
  obtain ⟨m0, m1, m2, m3, m4, m5, mf, mz⟩ := (C1.out.new g2).c6
  have H2 := Lib.hid (H1.out.trans g2)
  have hz1 : w.heap.size ≤ w2.heap.size := New.size (H1.out.trans g2)
  clear g2
  go_wp2_with fail
  refine bodyPost_ret (v := .tuple #[.agg #[.int .i64 ca, .int .i64 af, .slice none 0 0, .int .i64 0, .int .i64 (-1), .bool false], .int .i64 0]) (by go_light; simp [results, Try.results26, go_sem, *]) rfl ?_
  exact ⟨_, rfl, ⟨_, rfl, .inl ⟨rfl, none, 0, rfl⟩, fun _ _ _ _ h => absurd h (Nat.lt_irrefl 0)⟩, by repeat (first | with_reducible exact new0 _ | with_reducible apply New.alloc | with_reducible apply New.drewN | with_reducible apply New.drew | (with_reducible refine New.setCell ?_ (by simp <;> omega) _) | (with_reducible refine New.trans ?_ H2.out))⟩
theorem rrearm_v (u : Value) (y : Bf) (w : World) (h : BufB w u y) (hn : y.n ≤ 1000) : Calls Try.prog 26 #[u] w (ResPost w (resB (rearE y) (rearB y)) (rearE y)) := by
  obtain ⟨ca, af, n, M, ov, re, fz⟩ := y
  obtain ⟨v, rfl, hM⟩ := h
  obtain ⟨A, cap, rfl⟩ := hM.len
  replace hM : MsV w (.slice A n cap) n M := hM
  replace hn : n ≤ 1000 := hn
  by_cases hv : vB ⟨ca, af, n, M, ov, re, fz⟩ = 0
  · by_cases hf : fz = true
    · have e : rearE ⟨ca, af, n, M, ov, re, fz⟩ = 0 := by unfold rearE; rw [if_neg (by simpa using hv), if_neg (by simp [hf])]
      rw [e]
      exact rrearm_ok ca af A n cap M ov re fz w hM hn hv hf
    · have hf : fz = false := by simpa using hf
      have e : rearE ⟨ca, af, n, M, ov, re, fz⟩ = 8 := by unfold rearE; rw [if_neg (by simpa using hv), if_pos hf]
      rw [e]
      exact rrearm_run ca af A n cap M ov re fz w hM hn hv hf
  · have e : rearE ⟨ca, af, n, M, ov, re, fz⟩ = vB ⟨ca, af, n, M, ov, re, fz⟩ := by unfold rearE; rw [if_pos hv]
    rw [e, show resB (vB ⟨ca, af, n, M, ov, re, fz⟩) (rearB ⟨ca, af, n, M, ov, re, fz⟩) = bz from if_neg hv]
    exact rrearm_bad ca af A n cap M ov re fz w hM hn _ rfl hv
end Go.Proofs.Ytedbjnojogjnkaa
