/-
  Filter, by the program and by the reference.
-/
import Derived.Test.YtjkfdmbhiooeiaaStep
namespace Go.Proofs.Ytjkfdmbhiooeiaa
open Go.RowKit
theorem valE_zero {nm : ByteArray} {ma ri fa : Int} (h : valE nm ma ri fa = 0) : 1 ≤ ri ∧ ri ≤ 100 ∧ 1 ≤ fa ∧ fa ≤ 100 := by
  unfold valE insB at h
  by_cases hn : nmB nm = false
  · rw [if_pos hn] at h; simp at h
  · rw [if_neg hn] at h
    by_cases hx : decide (0 ≤ ma ∧ ma ≤ 1099511627776) = false ∨ decide (1 ≤ ri ∧ ri ≤ 100) = false ∨ decide (1 ≤ fa ∧ fa ≤ 100) = false
    · rw [if_pos hx] at h; simp at h
    · simp only [decide_eq_false_iff_not] at hx
      omega
theorem filE_zero {ri fa fs fc fn : Int} (h : filE ri fa fs fc fn = 0) (r2 : ri ≤ 100) (r4 : fa ≤ 100) : fn < 1000 ∧ 0 ≤ fn := by
  unfold filE insB nedI at h
  by_cases hx : (decide (1 ≤ fs ∧ fs ≤ 3) = true ∧ (fc = 0 ∧ fn = 0 ∨ decide (1 ≤ fc ∧ fc ≤ 3) = true ∧ fc ≠ fs ∧ decide (1 ≤ fn ∧ fn ≤ (if fc = 1 then ri else fa) - 1) = true))
  · obtain ⟨_, hx⟩ := hx
    rcases hx with hx | hx
    · omega
    · have := hx.2.2
      simp only [decide_eq_true_eq] at this
      split at this <;> omega
  · rw [if_neg hx] at h; simp at h
def fltE (v f r : Int) : Int := if v ≠ 0 then v else if f ≠ 0 then f else if insB r 1 3 = false then 6 else 0
def fltV (v f r x : Int) : Int := if fltE v f r ≠ 0 then 0 else x
theorem step_any (nm : ByteArray) (ma ri fa fs fc fn r : Int) (w : World) (hn : fn < 1000) (hn' : 0 ≤ fn) : Calls Try.prog 40 #[.agg #[.string nm, .int .i64 ma, .int .i64 ri, .int .i64 fa], .agg #[.int .i64 fs, .int .i64 fc, .int .i64 fn], .int .i64 r] w fun e w' => e = .returned (.agg #[.int .i64 (stpS ri fa fs fc fn r), .int .i64 (stpC ri fa fs fc fn r), .int .i64 (stpN ri fa fs fc fn r)]) ∧ New w w' := by
  by_cases h : r = fs
  · exact step_same nm ma ri fa fs fc fn r w h
  · exact step_diff nm ma ri fa fs fc fn r w h hn hn'
set_option maxHeartbeats 3200000 in
theorem filter_0 (nm : ByteArray) (ma ri fa fs fc fn r : Int) (w : World) (v f : Int) (hv : valE nm ma ri fa = v) (hf : filE ri fa fs fc fn = f) (h0 : ¬ v = 0) : Calls Try.prog 18 #[.agg #[.string nm, .int .i64 ma, .int .i64 ri, .int .i64 fa], .agg #[.int .i64 fs, .int .i64 fc, .int .i64 fn], .int .i64 r] w fun e w' => e = .returned (.tuple #[.agg #[.int .i64 (fltV v f r (stpS ri fa fs fc fn r)), .int .i64 (fltV v f r (stpC ri fa fs fc fn r)), .int .i64 (fltV v f r (stpN ri fa fs fc fn r))], .int .i64 (fltE v f r)]) ∧ New w w' := by
  have HV := Lib.hid hv
  have HF := Lib.hid hf
  clear hv hf
  have A := Lib.hid ((blk_alloc w #[.string nm, .int .i64 ma, .int .i64 ri, .int .i64 fa] 23).new (((new0 _).alloc (.cells #[.int .i64 fs, .int .i64 fc, .int .i64 fn] 34)).alloc (.cells #[.int .i64 0, .int .i64 0, .int .i64 0] 34)))
  have B := Lib.hid ((blk_alloc' (w.alloc (.cells #[.string nm, .int .i64 ma, .int .i64 ri, .int .i64 fa] 23)) #[.int .i64 fs, .int .i64 fc, .int .i64 fn] 34 (w.heap.size + 1) (by simp)).new ((new0 _).alloc (.cells #[.int .i64 0, .int .i64 0, .int .i64 0] 34)))
  have C := Lib.hid (blk_alloc' ((w.alloc (.cells #[.string nm, .int .i64 ma, .int .i64 ri, .int .i64 fa] 23)).alloc (.cells #[.int .i64 fs, .int .i64 fc, .int .i64 fn] 34)) #[.int .i64 0, .int .i64 0, .int .i64 0] 34 (w.heap.size + 1 + 1) (by simp))
  go_enter Try.func18, Try.ntmps18
  go_wp2_with fail
  refine (valid_any nm ma ri fa _).mono ?_
  rw [HV.out]
  rintro e w1 ⟨rfl, g1⟩
  have A := Lib.hid (A.out.new g1)
  have B := Lib.hid (B.out.new g1)
  have C := Lib.hid (C.out.new g1)
  obtain ⟨k0, k1, k2, k3, kf, kz⟩ := A.out.c4
  obtain ⟨l0, l1, l2, lf, lz⟩ := B.out.c3
  obtain ⟨m0, m1, m2, mf, mz⟩ := C.out.c3
  have H1 := Lib.hid g1
  clear g1
  go_wp2_with fail
  refine bodyPost_ret (v := .tuple #[.agg #[.int .i64 (fltV v f r (stpS ri fa fs fc fn r)), .int .i64 (fltV v f r (stpC ri fa fs fc fn r)), .int .i64 (fltV v f r (stpN ri fa fs fc fn r))], .int .i64 (fltE v f r)]) (by go_light; simp [results, Try.results18, go_sem, fltV, fltE, *]) rfl ?_
  exact ⟨rfl, by repeat (first | with_reducible exact new0 _ | with_reducible apply New.alloc | with_reducible apply New.drewN | with_reducible apply New.drew | (with_reducible refine New.setCell ?_ (by simp <;> omega) _) | (with_reducible refine New.trans ?_ H1.out))⟩
set_option maxHeartbeats 3200000 in
theorem filter_1 (nm : ByteArray) (ma ri fa fs fc fn r : Int) (w : World) (v f : Int) (hv : valE nm ma ri fa = v) (hf : filE ri fa fs fc fn = f) (h0 : v = 0) (h1 : ¬ f = 0) : Calls Try.prog 18 #[.agg #[.string nm, .int .i64 ma, .int .i64 ri, .int .i64 fa], .agg #[.int .i64 fs, .int .i64 fc, .int .i64 fn], .int .i64 r] w fun e w' => e = .returned (.tuple #[.agg #[.int .i64 (fltV v f r (stpS ri fa fs fc fn r)), .int .i64 (fltV v f r (stpC ri fa fs fc fn r)), .int .i64 (fltV v f r (stpN ri fa fs fc fn r))], .int .i64 (fltE v f r)]) ∧ New w w' := by
  subst h0
  obtain ⟨r1, r2, r3, r4⟩ := valE_zero hv
  have R := Lib.hid (And.intro r1 (And.intro r2 (And.intro r3 r4)))
  clear r1 r2 r3 r4
  have HV := Lib.hid hv
  have HF := Lib.hid hf
  clear hv hf
  have A := Lib.hid ((blk_alloc w #[.string nm, .int .i64 ma, .int .i64 ri, .int .i64 fa] 23).new (((new0 _).alloc (.cells #[.int .i64 fs, .int .i64 fc, .int .i64 fn] 34)).alloc (.cells #[.int .i64 0, .int .i64 0, .int .i64 0] 34)))
  have B := Lib.hid ((blk_alloc' (w.alloc (.cells #[.string nm, .int .i64 ma, .int .i64 ri, .int .i64 fa] 23)) #[.int .i64 fs, .int .i64 fc, .int .i64 fn] 34 (w.heap.size + 1) (by simp)).new ((new0 _).alloc (.cells #[.int .i64 0, .int .i64 0, .int .i64 0] 34)))
  have C := Lib.hid (blk_alloc' ((w.alloc (.cells #[.string nm, .int .i64 ma, .int .i64 ri, .int .i64 fa] 23)).alloc (.cells #[.int .i64 fs, .int .i64 fc, .int .i64 fn] 34)) #[.int .i64 0, .int .i64 0, .int .i64 0] 34 (w.heap.size + 1 + 1) (by simp))
  go_enter Try.func18, Try.ntmps18
  go_wp2_with fail
  refine (valid_any nm ma ri fa _).mono ?_
  rw [HV.out]
  rintro e w1 ⟨rfl, g1⟩
  have A := Lib.hid (A.out.new g1)
  have B := Lib.hid (B.out.new g1)
  have C := Lib.hid (C.out.new g1)
  obtain ⟨k0, k1, k2, k3, kf, kz⟩ := A.out.c4
  obtain ⟨l0, l1, l2, lf, lz⟩ := B.out.c3
  obtain ⟨m0, m1, m2, mf, mz⟩ := C.out.c3
  have H1 := Lib.hid g1
  clear g1
  go_wp2_with fail
  refine (filErr_any nm ma ri fa fs fc fn _ R.out.1 R.out.2.1 R.out.2.2.1 R.out.2.2.2).mono ?_
  rw [HF.out]
  rintro e w2 ⟨rfl, g2⟩
  clear k0 k1 k2 k3 kf kz l0 l1 l2 lf lz m0 m1 m2 mf mz
  have A := Lib.hid (A.out.new g2)
  have B := Lib.hid (B.out.new g2)
  have C := Lib.hid (C.out.new g2)
  obtain ⟨k0, k1, k2, k3, kf, kz⟩ := A.out.c4
  obtain ⟨l0, l1, l2, lf, lz⟩ := B.out.c3
  obtain ⟨m0, m1, m2, mf, mz⟩ := C.out.c3
  have H2 := Lib.hid g2
  clear g2
  go_wp2_with fail
  refine bodyPost_ret (v := .tuple #[.agg #[.int .i64 (fltV 0 f r (stpS ri fa fs fc fn r)), .int .i64 (fltV 0 f r (stpC ri fa fs fc fn r)), .int .i64 (fltV 0 f r (stpN ri fa fs fc fn r))], .int .i64 (fltE 0 f r)]) (by go_light; simp [results, Try.results18, go_sem, fltV, fltE, *]) rfl ?_
  exact ⟨rfl, by repeat (first | with_reducible exact new0 _ | with_reducible apply New.alloc | with_reducible apply New.drewN | with_reducible apply New.drew | (with_reducible refine New.setCell ?_ (by simp <;> omega) _) | (with_reducible refine New.trans ?_ H2.out) | (with_reducible refine New.trans ?_ H1.out))⟩
set_option maxHeartbeats 3200000 in
theorem filter_2 (nm : ByteArray) (ma ri fa fs fc fn r : Int) (w : World) (v f : Int) (hv : valE nm ma ri fa = v) (hf : filE ri fa fs fc fn = f) (h0 : v = 0) (h1 : f = 0) (h2 : insB r 1 3 = false) : Calls Try.prog 18 #[.agg #[.string nm, .int .i64 ma, .int .i64 ri, .int .i64 fa], .agg #[.int .i64 fs, .int .i64 fc, .int .i64 fn], .int .i64 r] w fun e w' => e = .returned (.tuple #[.agg #[.int .i64 (fltV v f r (stpS ri fa fs fc fn r)), .int .i64 (fltV v f r (stpC ri fa fs fc fn r)), .int .i64 (fltV v f r (stpN ri fa fs fc fn r))], .int .i64 (fltE v f r)]) ∧ New w w' := by
  subst h0
  obtain ⟨r1, r2, r3, r4⟩ := valE_zero hv
  have R := Lib.hid (And.intro r1 (And.intro r2 (And.intro r3 r4)))
  subst h1
  clear r1 r2 r3 r4
  have HV := Lib.hid hv
  have HF := Lib.hid hf
  clear hv hf
  have A := Lib.hid ((blk_alloc w #[.string nm, .int .i64 ma, .int .i64 ri, .int .i64 fa] 23).new (((new0 _).alloc (.cells #[.int .i64 fs, .int .i64 fc, .int .i64 fn] 34)).alloc (.cells #[.int .i64 0, .int .i64 0, .int .i64 0] 34)))
  have B := Lib.hid ((blk_alloc' (w.alloc (.cells #[.string nm, .int .i64 ma, .int .i64 ri, .int .i64 fa] 23)) #[.int .i64 fs, .int .i64 fc, .int .i64 fn] 34 (w.heap.size + 1) (by simp)).new ((new0 _).alloc (.cells #[.int .i64 0, .int .i64 0, .int .i64 0] 34)))
  have C := Lib.hid (blk_alloc' ((w.alloc (.cells #[.string nm, .int .i64 ma, .int .i64 ri, .int .i64 fa] 23)).alloc (.cells #[.int .i64 fs, .int .i64 fc, .int .i64 fn] 34)) #[.int .i64 0, .int .i64 0, .int .i64 0] 34 (w.heap.size + 1 + 1) (by simp))
  have HS := Lib.hid h2
  clear h2
  go_enter Try.func18, Try.ntmps18
  go_wp2_with fail
  refine (valid_any nm ma ri fa _).mono ?_
  rw [HV.out]
  rintro e w1 ⟨rfl, g1⟩
  have A := Lib.hid (A.out.new g1)
  have B := Lib.hid (B.out.new g1)
  have C := Lib.hid (C.out.new g1)
  obtain ⟨k0, k1, k2, k3, kf, kz⟩ := A.out.c4
  obtain ⟨l0, l1, l2, lf, lz⟩ := B.out.c3
  obtain ⟨m0, m1, m2, mf, mz⟩ := C.out.c3
  have H1 := Lib.hid g1
  clear g1
  go_wp2_with fail
  refine (filErr_any nm ma ri fa fs fc fn _ R.out.1 R.out.2.1 R.out.2.2.1 R.out.2.2.2).mono ?_
  rw [HF.out]
  rintro e w2 ⟨rfl, g2⟩
  clear k0 k1 k2 k3 kf kz l0 l1 l2 lf lz m0 m1 m2 mf mz
  have A := Lib.hid (A.out.new g2)
  have B := Lib.hid (B.out.new g2)
  have C := Lib.hid (C.out.new g2)
  obtain ⟨k0, k1, k2, k3, kf, kz⟩ := A.out.c4
  obtain ⟨l0, l1, l2, lf, lz⟩ := B.out.c3
  obtain ⟨m0, m1, m2, mf, mz⟩ := C.out.c3
  have H2 := Lib.hid g2
  clear g2
  go_wp2_with fail
  refine (isState_is _ _ _ HS.out).mono ?_
  rintro e w3 ⟨rfl, rfl⟩
  go_wp2_with fail
  refine bodyPost_ret (v := .tuple #[.agg #[.int .i64 (fltV 0 0 r (stpS ri fa fs fc fn r)), .int .i64 (fltV 0 0 r (stpC ri fa fs fc fn r)), .int .i64 (fltV 0 0 r (stpN ri fa fs fc fn r))], .int .i64 (fltE 0 0 r)]) (by go_light; simp [results, Try.results18, go_sem, fltV, fltE, HS.out, *]) rfl ?_
  exact ⟨rfl, by repeat (first | with_reducible exact new0 _ | with_reducible apply New.alloc | with_reducible apply New.drewN | with_reducible apply New.drew | (with_reducible refine New.setCell ?_ (by simp <;> omega) _) | (with_reducible refine New.trans ?_ H2.out) | (with_reducible refine New.trans ?_ H1.out))⟩
set_option maxHeartbeats 3200000 in
theorem filter_3 (nm : ByteArray) (ma ri fa fs fc fn r : Int) (w : World) (v f : Int) (hv : valE nm ma ri fa = v) (hf : filE ri fa fs fc fn = f) (h0 : v = 0) (h1 : f = 0) (h2 : insB r 1 3 = true) : Calls Try.prog 18 #[.agg #[.string nm, .int .i64 ma, .int .i64 ri, .int .i64 fa], .agg #[.int .i64 fs, .int .i64 fc, .int .i64 fn], .int .i64 r] w fun e w' => e = .returned (.tuple #[.agg #[.int .i64 (fltV v f r (stpS ri fa fs fc fn r)), .int .i64 (fltV v f r (stpC ri fa fs fc fn r)), .int .i64 (fltV v f r (stpN ri fa fs fc fn r))], .int .i64 (fltE v f r)]) ∧ New w w' := by
  subst h0
  obtain ⟨r1, r2, r3, r4⟩ := valE_zero hv
  have R := Lib.hid (And.intro r1 (And.intro r2 (And.intro r3 r4)))
  obtain ⟨n1, n2⟩ := filE_zero (hf.trans h1) r2 r4
  have N1 := Lib.hid n1
  have N2 := Lib.hid n2
  clear n1 n2
  subst h1
  clear r1 r2 r3 r4
  have HV := Lib.hid hv
  have HF := Lib.hid hf
  clear hv hf
  have A := Lib.hid ((blk_alloc w #[.string nm, .int .i64 ma, .int .i64 ri, .int .i64 fa] 23).new (((new0 _).alloc (.cells #[.int .i64 fs, .int .i64 fc, .int .i64 fn] 34)).alloc (.cells #[.int .i64 0, .int .i64 0, .int .i64 0] 34)))
  have B := Lib.hid ((blk_alloc' (w.alloc (.cells #[.string nm, .int .i64 ma, .int .i64 ri, .int .i64 fa] 23)) #[.int .i64 fs, .int .i64 fc, .int .i64 fn] 34 (w.heap.size + 1) (by simp)).new ((new0 _).alloc (.cells #[.int .i64 0, .int .i64 0, .int .i64 0] 34)))
  have C := Lib.hid (blk_alloc' ((w.alloc (.cells #[.string nm, .int .i64 ma, .int .i64 ri, .int .i64 fa] 23)).alloc (.cells #[.int .i64 fs, .int .i64 fc, .int .i64 fn] 34)) #[.int .i64 0, .int .i64 0, .int .i64 0] 34 (w.heap.size + 1 + 1) (by simp))
  have HS := Lib.hid h2
  clear h2
  go_enter Try.func18, Try.ntmps18
  go_wp2_with fail
  refine (valid_any nm ma ri fa _).mono ?_
  rw [HV.out]
  rintro e w1 ⟨rfl, g1⟩
  have A := Lib.hid (A.out.new g1)
  have B := Lib.hid (B.out.new g1)
  have C := Lib.hid (C.out.new g1)
  obtain ⟨k0, k1, k2, k3, kf, kz⟩ := A.out.c4
  obtain ⟨l0, l1, l2, lf, lz⟩ := B.out.c3
  obtain ⟨m0, m1, m2, mf, mz⟩ := C.out.c3
  have H1 := Lib.hid g1
  clear g1
  go_wp2_with fail
  refine (filErr_any nm ma ri fa fs fc fn _ R.out.1 R.out.2.1 R.out.2.2.1 R.out.2.2.2).mono ?_
  rw [HF.out]
  rintro e w2 ⟨rfl, g2⟩
  clear k0 k1 k2 k3 kf kz l0 l1 l2 lf lz m0 m1 m2 mf mz
  have A := Lib.hid (A.out.new g2)
  have B := Lib.hid (B.out.new g2)
  have C := Lib.hid (C.out.new g2)
  obtain ⟨k0, k1, k2, k3, kf, kz⟩ := A.out.c4
  obtain ⟨l0, l1, l2, lf, lz⟩ := B.out.c3
  obtain ⟨m0, m1, m2, mf, mz⟩ := C.out.c3
  have H2 := Lib.hid g2
  clear g2
  go_wp2_with fail
  refine (isState_is _ _ _ HS.out).mono ?_
  rintro e w3 ⟨rfl, rfl⟩
  go_wp2_with fail
  refine (step_any nm ma ri fa fs fc fn r _ N1.out N2.out).mono ?_
  rintro e w4 ⟨rfl, g4⟩
  clear k0 k1 k2 k3 kf kz l0 l1 l2 lf lz m0 m1 m2 mf mz
  have A := Lib.hid (A.out.new g4)
  have B := Lib.hid (B.out.new g4)
  have C := Lib.hid (C.out.new g4)
  obtain ⟨k0, k1, k2, k3, kf, kz⟩ := A.out.c4
  obtain ⟨l0, l1, l2, lf, lz⟩ := B.out.c3
  obtain ⟨m0, m1, m2, mf, mz⟩ := C.out.c3
  have H4 := Lib.hid g4
  clear g4
  go_wp2_with fail
  refine bodyPost_ret (v := .tuple #[.agg #[.int .i64 (fltV 0 0 r (stpS ri fa fs fc fn r)), .int .i64 (fltV 0 0 r (stpC ri fa fs fc fn r)), .int .i64 (fltV 0 0 r (stpN ri fa fs fc fn r))], .int .i64 (fltE 0 0 r)]) (by go_light; simp [results, Try.results18, go_sem, fltV, fltE, HS.out, *]) rfl ?_
  exact ⟨rfl, by repeat (first | with_reducible exact new0 _ | with_reducible apply New.alloc | with_reducible apply New.drewN | with_reducible apply New.drew | (with_reducible refine New.setCell ?_ (by simp <;> omega) _) | (with_reducible refine New.trans ?_ H4.out) | (with_reducible refine New.trans ?_ H2.out) | (with_reducible refine New.trans ?_ H1.out))⟩
theorem filter_any (nm : ByteArray) (ma ri fa fs fc fn r : Int) (w : World) (v f : Int) (hv : valE nm ma ri fa = v) (hf : filE ri fa fs fc fn = f) : Calls Try.prog 18 #[.agg #[.string nm, .int .i64 ma, .int .i64 ri, .int .i64 fa], .agg #[.int .i64 fs, .int .i64 fc, .int .i64 fn], .int .i64 r] w fun e w' => e = .returned (.tuple #[.agg #[.int .i64 (fltV v f r (stpS ri fa fs fc fn r)), .int .i64 (fltV v f r (stpC ri fa fs fc fn r)), .int .i64 (fltV v f r (stpN ri fa fs fc fn r))], .int .i64 (fltE v f r)]) ∧ New w w' := by
  by_cases h0 : v = 0
  · by_cases h1 : f = 0
    · by_cases h2 : insB r 1 3 = true
      · exact filter_3 nm ma ri fa fs fc fn r w v f hv hf h0 h1 h2
      · exact filter_2 nm ma ri fa fs fc fn r w v f hv hf h0 h1 (by simpa using h2)
    · exact filter_1 nm ma ri fa fs fc fn r w v f hv hf h0 h1
  · exact filter_0 nm ma ri fa fs fc fn r w v f hv hf h0
theorem rstep_any (nm : ByteArray) (ma ri fa fs fc fn r : Int) (w : World) (hn : fn < 1000) (hn' : 0 ≤ fn) : Calls Try.prog 43 #[.agg #[.string nm, .int .i64 ma, .int .i64 ri, .int .i64 fa], .agg #[.int .i64 fs, .int .i64 fc, .int .i64 fn], .int .i64 r] w fun e w' => e = .returned (.agg #[.int .i64 (stpS ri fa fs fc fn r), .int .i64 (stpC ri fa fs fc fn r), .int .i64 (stpN ri fa fs fc fn r)]) ∧ New w w' := by
  by_cases h : r = fs
  · exact rstep_same nm ma ri fa fs fc fn r w h
  · exact rstep_diff nm ma ri fa fs fc fn r w h hn hn'
set_option maxHeartbeats 3200000 in
theorem rfilter_0 (nm : ByteArray) (ma ri fa fs fc fn r : Int) (w : World) (v f : Int) (hv : valE nm ma ri fa = v) (hf : filE ri fa fs fc fn = f) (h0 : ¬ v = 0) : Calls Try.prog 19 #[.agg #[.string nm, .int .i64 ma, .int .i64 ri, .int .i64 fa], .agg #[.int .i64 fs, .int .i64 fc, .int .i64 fn], .int .i64 r] w fun e w' => e = .returned (.tuple #[.agg #[.int .i64 (fltV v f r (stpS ri fa fs fc fn r)), .int .i64 (fltV v f r (stpC ri fa fs fc fn r)), .int .i64 (fltV v f r (stpN ri fa fs fc fn r))], .int .i64 (fltE v f r)]) ∧ New w w' := by
  have HV := Lib.hid hv
  have HF := Lib.hid hf
  clear hv hf
  have A := Lib.hid ((blk_alloc w #[.string nm, .int .i64 ma, .int .i64 ri, .int .i64 fa] 23).new (((new0 _).alloc (.cells #[.int .i64 fs, .int .i64 fc, .int .i64 fn] 34)).alloc (.cells #[.int .i64 0, .int .i64 0, .int .i64 0] 34)))
  have B := Lib.hid ((blk_alloc' (w.alloc (.cells #[.string nm, .int .i64 ma, .int .i64 ri, .int .i64 fa] 23)) #[.int .i64 fs, .int .i64 fc, .int .i64 fn] 34 (w.heap.size + 1) (by simp)).new ((new0 _).alloc (.cells #[.int .i64 0, .int .i64 0, .int .i64 0] 34)))
  have C := Lib.hid (blk_alloc' ((w.alloc (.cells #[.string nm, .int .i64 ma, .int .i64 ri, .int .i64 fa] 23)).alloc (.cells #[.int .i64 fs, .int .i64 fc, .int .i64 fn] 34)) #[.int .i64 0, .int .i64 0, .int .i64 0] 34 (w.heap.size + 1 + 1) (by simp))
  go_enter Try.func19, Try.ntmps19
  go_wp2_with fail
  refine (rvalid_any nm ma ri fa _).mono ?_
  rw [HV.out]
  rintro e w1 ⟨rfl, g1⟩
  have A := Lib.hid (A.out.new g1)
  have B := Lib.hid (B.out.new g1)
  have C := Lib.hid (C.out.new g1)
  obtain ⟨k0, k1, k2, k3, kf, kz⟩ := A.out.c4
  obtain ⟨l0, l1, l2, lf, lz⟩ := B.out.c3
  obtain ⟨m0, m1, m2, mf, mz⟩ := C.out.c3
  have H1 := Lib.hid g1
  clear g1
  go_wp2_with fail
  refine bodyPost_ret (v := .tuple #[.agg #[.int .i64 (fltV v f r (stpS ri fa fs fc fn r)), .int .i64 (fltV v f r (stpC ri fa fs fc fn r)), .int .i64 (fltV v f r (stpN ri fa fs fc fn r))], .int .i64 (fltE v f r)]) (by go_light; simp [results, Try.results19, go_sem, fltV, fltE, *]) rfl ?_
  exact ⟨rfl, by repeat (first | with_reducible exact new0 _ | with_reducible apply New.alloc | with_reducible apply New.drewN | with_reducible apply New.drew | (with_reducible refine New.setCell ?_ (by simp <;> omega) _) | (with_reducible refine New.trans ?_ H1.out))⟩
set_option maxHeartbeats 3200000 in
theorem rfilter_1 (nm : ByteArray) (ma ri fa fs fc fn r : Int) (w : World) (v f : Int) (hv : valE nm ma ri fa = v) (hf : filE ri fa fs fc fn = f) (h0 : v = 0) (h1 : ¬ f = 0) : Calls Try.prog 19 #[.agg #[.string nm, .int .i64 ma, .int .i64 ri, .int .i64 fa], .agg #[.int .i64 fs, .int .i64 fc, .int .i64 fn], .int .i64 r] w fun e w' => e = .returned (.tuple #[.agg #[.int .i64 (fltV v f r (stpS ri fa fs fc fn r)), .int .i64 (fltV v f r (stpC ri fa fs fc fn r)), .int .i64 (fltV v f r (stpN ri fa fs fc fn r))], .int .i64 (fltE v f r)]) ∧ New w w' := by
  subst h0
  obtain ⟨r1, r2, r3, r4⟩ := valE_zero hv
  have R := Lib.hid (And.intro r1 (And.intro r2 (And.intro r3 r4)))
  clear r1 r2 r3 r4
  have HV := Lib.hid hv
  have HF := Lib.hid hf
  clear hv hf
  have A := Lib.hid ((blk_alloc w #[.string nm, .int .i64 ma, .int .i64 ri, .int .i64 fa] 23).new (((new0 _).alloc (.cells #[.int .i64 fs, .int .i64 fc, .int .i64 fn] 34)).alloc (.cells #[.int .i64 0, .int .i64 0, .int .i64 0] 34)))
  have B := Lib.hid ((blk_alloc' (w.alloc (.cells #[.string nm, .int .i64 ma, .int .i64 ri, .int .i64 fa] 23)) #[.int .i64 fs, .int .i64 fc, .int .i64 fn] 34 (w.heap.size + 1) (by simp)).new ((new0 _).alloc (.cells #[.int .i64 0, .int .i64 0, .int .i64 0] 34)))
  have C := Lib.hid (blk_alloc' ((w.alloc (.cells #[.string nm, .int .i64 ma, .int .i64 ri, .int .i64 fa] 23)).alloc (.cells #[.int .i64 fs, .int .i64 fc, .int .i64 fn] 34)) #[.int .i64 0, .int .i64 0, .int .i64 0] 34 (w.heap.size + 1 + 1) (by simp))
  go_enter Try.func19, Try.ntmps19
  go_wp2_with fail
  refine (rvalid_any nm ma ri fa _).mono ?_
  rw [HV.out]
  rintro e w1 ⟨rfl, g1⟩
  have A := Lib.hid (A.out.new g1)
  have B := Lib.hid (B.out.new g1)
  have C := Lib.hid (C.out.new g1)
  obtain ⟨k0, k1, k2, k3, kf, kz⟩ := A.out.c4
  obtain ⟨l0, l1, l2, lf, lz⟩ := B.out.c3
  obtain ⟨m0, m1, m2, mf, mz⟩ := C.out.c3
  have H1 := Lib.hid g1
  clear g1
  go_wp2_with fail
  refine (rfilErr_any nm ma ri fa fs fc fn _ ).mono ?_
  rw [HF.out]
  rintro e w2 ⟨rfl, g2⟩
  clear k0 k1 k2 k3 kf kz l0 l1 l2 lf lz m0 m1 m2 mf mz
  have A := Lib.hid (A.out.new g2)
  have B := Lib.hid (B.out.new g2)
  have C := Lib.hid (C.out.new g2)
  obtain ⟨k0, k1, k2, k3, kf, kz⟩ := A.out.c4
  obtain ⟨l0, l1, l2, lf, lz⟩ := B.out.c3
  obtain ⟨m0, m1, m2, mf, mz⟩ := C.out.c3
  have H2 := Lib.hid g2
  clear g2
  go_wp2_with fail
  refine bodyPost_ret (v := .tuple #[.agg #[.int .i64 (fltV 0 f r (stpS ri fa fs fc fn r)), .int .i64 (fltV 0 f r (stpC ri fa fs fc fn r)), .int .i64 (fltV 0 f r (stpN ri fa fs fc fn r))], .int .i64 (fltE 0 f r)]) (by go_light; simp [results, Try.results19, go_sem, fltV, fltE, *]) rfl ?_
  exact ⟨rfl, by repeat (first | with_reducible exact new0 _ | with_reducible apply New.alloc | with_reducible apply New.drewN | with_reducible apply New.drew | (with_reducible refine New.setCell ?_ (by simp <;> omega) _) | (with_reducible refine New.trans ?_ H2.out) | (with_reducible refine New.trans ?_ H1.out))⟩
set_option maxHeartbeats 3200000 in
theorem rfilter_2 (nm : ByteArray) (ma ri fa fs fc fn r : Int) (w : World) (v f : Int) (hv : valE nm ma ri fa = v) (hf : filE ri fa fs fc fn = f) (h0 : v = 0) (h1 : f = 0) (h2 : insB r 1 3 = false) : Calls Try.prog 19 #[.agg #[.string nm, .int .i64 ma, .int .i64 ri, .int .i64 fa], .agg #[.int .i64 fs, .int .i64 fc, .int .i64 fn], .int .i64 r] w fun e w' => e = .returned (.tuple #[.agg #[.int .i64 (fltV v f r (stpS ri fa fs fc fn r)), .int .i64 (fltV v f r (stpC ri fa fs fc fn r)), .int .i64 (fltV v f r (stpN ri fa fs fc fn r))], .int .i64 (fltE v f r)]) ∧ New w w' := by
  subst h0
  obtain ⟨r1, r2, r3, r4⟩ := valE_zero hv
  have R := Lib.hid (And.intro r1 (And.intro r2 (And.intro r3 r4)))
  subst h1
  clear r1 r2 r3 r4
  have HV := Lib.hid hv
  have HF := Lib.hid hf
  clear hv hf
  have A := Lib.hid ((blk_alloc w #[.string nm, .int .i64 ma, .int .i64 ri, .int .i64 fa] 23).new (((new0 _).alloc (.cells #[.int .i64 fs, .int .i64 fc, .int .i64 fn] 34)).alloc (.cells #[.int .i64 0, .int .i64 0, .int .i64 0] 34)))
  have B := Lib.hid ((blk_alloc' (w.alloc (.cells #[.string nm, .int .i64 ma, .int .i64 ri, .int .i64 fa] 23)) #[.int .i64 fs, .int .i64 fc, .int .i64 fn] 34 (w.heap.size + 1) (by simp)).new ((new0 _).alloc (.cells #[.int .i64 0, .int .i64 0, .int .i64 0] 34)))
  have C := Lib.hid (blk_alloc' ((w.alloc (.cells #[.string nm, .int .i64 ma, .int .i64 ri, .int .i64 fa] 23)).alloc (.cells #[.int .i64 fs, .int .i64 fc, .int .i64 fn] 34)) #[.int .i64 0, .int .i64 0, .int .i64 0] 34 (w.heap.size + 1 + 1) (by simp))
  have HS := Lib.hid h2
  clear h2
  go_enter Try.func19, Try.ntmps19
  go_wp2_with fail
  refine (rvalid_any nm ma ri fa _).mono ?_
  rw [HV.out]
  rintro e w1 ⟨rfl, g1⟩
  have A := Lib.hid (A.out.new g1)
  have B := Lib.hid (B.out.new g1)
  have C := Lib.hid (C.out.new g1)
  obtain ⟨k0, k1, k2, k3, kf, kz⟩ := A.out.c4
  obtain ⟨l0, l1, l2, lf, lz⟩ := B.out.c3
  obtain ⟨m0, m1, m2, mf, mz⟩ := C.out.c3
  have H1 := Lib.hid g1
  clear g1
  go_wp2_with fail
  refine (rfilErr_any nm ma ri fa fs fc fn _ ).mono ?_
  rw [HF.out]
  rintro e w2 ⟨rfl, g2⟩
  clear k0 k1 k2 k3 kf kz l0 l1 l2 lf lz m0 m1 m2 mf mz
  have A := Lib.hid (A.out.new g2)
  have B := Lib.hid (B.out.new g2)
  have C := Lib.hid (C.out.new g2)
  obtain ⟨k0, k1, k2, k3, kf, kz⟩ := A.out.c4
  obtain ⟨l0, l1, l2, lf, lz⟩ := B.out.c3
  obtain ⟨m0, m1, m2, mf, mz⟩ := C.out.c3
  have H2 := Lib.hid g2
  clear g2
  go_wp2_with fail
  refine (known_is _ _ _ HS.out).mono ?_
  rintro e w3 ⟨rfl, rfl⟩
  go_wp2_with fail
  refine bodyPost_ret (v := .tuple #[.agg #[.int .i64 (fltV 0 0 r (stpS ri fa fs fc fn r)), .int .i64 (fltV 0 0 r (stpC ri fa fs fc fn r)), .int .i64 (fltV 0 0 r (stpN ri fa fs fc fn r))], .int .i64 (fltE 0 0 r)]) (by go_light; simp [results, Try.results19, go_sem, fltV, fltE, HS.out, *]) rfl ?_
  exact ⟨rfl, by repeat (first | with_reducible exact new0 _ | with_reducible apply New.alloc | with_reducible apply New.drewN | with_reducible apply New.drew | (with_reducible refine New.setCell ?_ (by simp <;> omega) _) | (with_reducible refine New.trans ?_ H2.out) | (with_reducible refine New.trans ?_ H1.out))⟩
set_option maxHeartbeats 3200000 in
theorem rfilter_3 (nm : ByteArray) (ma ri fa fs fc fn r : Int) (w : World) (v f : Int) (hv : valE nm ma ri fa = v) (hf : filE ri fa fs fc fn = f) (h0 : v = 0) (h1 : f = 0) (h2 : insB r 1 3 = true) : Calls Try.prog 19 #[.agg #[.string nm, .int .i64 ma, .int .i64 ri, .int .i64 fa], .agg #[.int .i64 fs, .int .i64 fc, .int .i64 fn], .int .i64 r] w fun e w' => e = .returned (.tuple #[.agg #[.int .i64 (fltV v f r (stpS ri fa fs fc fn r)), .int .i64 (fltV v f r (stpC ri fa fs fc fn r)), .int .i64 (fltV v f r (stpN ri fa fs fc fn r))], .int .i64 (fltE v f r)]) ∧ New w w' := by
  subst h0
  obtain ⟨r1, r2, r3, r4⟩ := valE_zero hv
  have R := Lib.hid (And.intro r1 (And.intro r2 (And.intro r3 r4)))
  obtain ⟨n1, n2⟩ := filE_zero (hf.trans h1) r2 r4
  have N1 := Lib.hid n1
  have N2 := Lib.hid n2
  clear n1 n2
  subst h1
  clear r1 r2 r3 r4
  have HV := Lib.hid hv
  have HF := Lib.hid hf
  clear hv hf
  have A := Lib.hid ((blk_alloc w #[.string nm, .int .i64 ma, .int .i64 ri, .int .i64 fa] 23).new (((new0 _).alloc (.cells #[.int .i64 fs, .int .i64 fc, .int .i64 fn] 34)).alloc (.cells #[.int .i64 0, .int .i64 0, .int .i64 0] 34)))
  have B := Lib.hid ((blk_alloc' (w.alloc (.cells #[.string nm, .int .i64 ma, .int .i64 ri, .int .i64 fa] 23)) #[.int .i64 fs, .int .i64 fc, .int .i64 fn] 34 (w.heap.size + 1) (by simp)).new ((new0 _).alloc (.cells #[.int .i64 0, .int .i64 0, .int .i64 0] 34)))
  have C := Lib.hid (blk_alloc' ((w.alloc (.cells #[.string nm, .int .i64 ma, .int .i64 ri, .int .i64 fa] 23)).alloc (.cells #[.int .i64 fs, .int .i64 fc, .int .i64 fn] 34)) #[.int .i64 0, .int .i64 0, .int .i64 0] 34 (w.heap.size + 1 + 1) (by simp))
  have HS := Lib.hid h2
  clear h2
  go_enter Try.func19, Try.ntmps19
  go_wp2_with fail
  refine (rvalid_any nm ma ri fa _).mono ?_
  rw [HV.out]
  rintro e w1 ⟨rfl, g1⟩
  have A := Lib.hid (A.out.new g1)
  have B := Lib.hid (B.out.new g1)
  have C := Lib.hid (C.out.new g1)
  obtain ⟨k0, k1, k2, k3, kf, kz⟩ := A.out.c4
  obtain ⟨l0, l1, l2, lf, lz⟩ := B.out.c3
  obtain ⟨m0, m1, m2, mf, mz⟩ := C.out.c3
  have H1 := Lib.hid g1
  clear g1
  go_wp2_with fail
  refine (rfilErr_any nm ma ri fa fs fc fn _ ).mono ?_
  rw [HF.out]
  rintro e w2 ⟨rfl, g2⟩
  clear k0 k1 k2 k3 kf kz l0 l1 l2 lf lz m0 m1 m2 mf mz
  have A := Lib.hid (A.out.new g2)
  have B := Lib.hid (B.out.new g2)
  have C := Lib.hid (C.out.new g2)
  obtain ⟨k0, k1, k2, k3, kf, kz⟩ := A.out.c4
  obtain ⟨l0, l1, l2, lf, lz⟩ := B.out.c3
  obtain ⟨m0, m1, m2, mf, mz⟩ := C.out.c3
  have H2 := Lib.hid g2
  clear g2
  go_wp2_with fail
  refine (known_is _ _ _ HS.out).mono ?_
  rintro e w3 ⟨rfl, rfl⟩
  go_wp2_with fail
  refine (rstep_any nm ma ri fa fs fc fn r _ N1.out N2.out).mono ?_
  rintro e w4 ⟨rfl, g4⟩
  clear k0 k1 k2 k3 kf kz l0 l1 l2 lf lz m0 m1 m2 mf mz
  have A := Lib.hid (A.out.new g4)
  have B := Lib.hid (B.out.new g4)
  have C := Lib.hid (C.out.new g4)
  obtain ⟨k0, k1, k2, k3, kf, kz⟩ := A.out.c4
  obtain ⟨l0, l1, l2, lf, lz⟩ := B.out.c3
  obtain ⟨m0, m1, m2, mf, mz⟩ := C.out.c3
  have H4 := Lib.hid g4
  clear g4
  go_wp2_with fail
  refine bodyPost_ret (v := .tuple #[.agg #[.int .i64 (fltV 0 0 r (stpS ri fa fs fc fn r)), .int .i64 (fltV 0 0 r (stpC ri fa fs fc fn r)), .int .i64 (fltV 0 0 r (stpN ri fa fs fc fn r))], .int .i64 (fltE 0 0 r)]) (by go_light; simp [results, Try.results19, go_sem, fltV, fltE, HS.out, *]) rfl ?_
  exact ⟨rfl, by repeat (first | with_reducible exact new0 _ | with_reducible apply New.alloc | with_reducible apply New.drewN | with_reducible apply New.drew | (with_reducible refine New.setCell ?_ (by simp <;> omega) _) | (with_reducible refine New.trans ?_ H4.out) | (with_reducible refine New.trans ?_ H2.out) | (with_reducible refine New.trans ?_ H1.out))⟩
theorem rfilter_any (nm : ByteArray) (ma ri fa fs fc fn r : Int) (w : World) (v f : Int) (hv : valE nm ma ri fa = v) (hf : filE ri fa fs fc fn = f) : Calls Try.prog 19 #[.agg #[.string nm, .int .i64 ma, .int .i64 ri, .int .i64 fa], .agg #[.int .i64 fs, .int .i64 fc, .int .i64 fn], .int .i64 r] w fun e w' => e = .returned (.tuple #[.agg #[.int .i64 (fltV v f r (stpS ri fa fs fc fn r)), .int .i64 (fltV v f r (stpC ri fa fs fc fn r)), .int .i64 (fltV v f r (stpN ri fa fs fc fn r))], .int .i64 (fltE v f r)]) ∧ New w w' := by
  by_cases h0 : v = 0
  · by_cases h1 : f = 0
    · by_cases h2 : insB r 1 3 = true
      · exact rfilter_3 nm ma ri fa fs fc fn r w v f hv hf h0 h1 h2
      · exact rfilter_2 nm ma ri fa fs fc fn r w v f hv hf h0 h1 (by simpa using h2)
    · exact rfilter_1 nm ma ri fa fs fc fn r w v f hv hf h0 h1
  · exact rfilter_0 nm ma ri fa fs fc fn r w v f hv hf h0
end Go.Proofs.Ytjkfdmbhiooeiaa
