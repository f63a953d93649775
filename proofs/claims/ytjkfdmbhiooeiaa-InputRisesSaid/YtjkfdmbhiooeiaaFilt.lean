/-
  The error of a filter's state, by the program and by the reference.
-/
import Derived.Test.YtjkfdmbhiooeiaaMask
import Derived.Deep.RegionHeld3
import Derived.IntWalk
namespace Go.Proofs.Ytjkfdmbhiooeiaa
open Go.RowKit
def filE (ri fa fs fc fn : Int) : Int := if insB fs 1 3 = true ∧ ((fc = 0 ∧ fn = 0) ∨ (insB fc 1 3 = true ∧ fc ≠ fs ∧ insB fn 1 (nedI ri fa fc - 1) = true)) then 0 else 1
theorem keep7 {W W' : World} {p q : Nat} {a0 a1 a2 a3 b0 b1 b2 : Value} (h1 : Blk W p #[a0, a1, a2, a3]) (h2 : Blk W q #[b0, b1, b2]) (hn : New W W') :
    W'.cell? ⟨p, 0, none⟩ = some a0 ∧ W'.cell? ⟨p, 1, none⟩ = some a1 ∧ W'.cell? ⟨p, 2, none⟩ = some a2 ∧ W'.cell? ⟨p, 3, none⟩ = some a3 ∧ W'.cell? ⟨q, 0, none⟩ = some b0 ∧ W'.cell? ⟨q, 1, none⟩ = some b1 ∧ W'.cell? ⟨q, 2, none⟩ = some b2 := by
  obtain ⟨k0, k1, k2, k3, _⟩ := (h1.new hn).c4
  obtain ⟨l0, l1, l2, _⟩ := (h2.new hn).c3
  exact ⟨k0, k1, k2, k3, l0, l1, l2⟩
theorem isState_same (n : Int) (w : World) : Calls Try.prog 39 #[.int .i64 n] w fun e w' => e = .returned (.bool (insB n 1 3)) ∧ w' = w := (isState_any n w).mono fun _ _ ⟨h1, h2⟩ => ⟨h1, h2.symm⟩
theorem isState_is (n : Int) (w : World) (b : Bool) (h : insB n 1 3 = b) : Calls Try.prog 39 #[.int .i64 n] w fun e w' => e = .returned (.bool b) ∧ w' = w := by rw [← h]; exact isState_same n w
theorem known_same (n : Int) (w : World) : Calls Try.prog 42 #[.int .i64 n] w fun e w' => e = .returned (.bool (insB n 1 3)) ∧ w' = w := (known_any n w).mono fun _ _ ⟨h1, h2⟩ => ⟨h1, h2.symm⟩
theorem known_is (n : Int) (w : World) (b : Bool) (h : insB n 1 3 = b) : Calls Try.prog 42 #[.int .i64 n] w fun e w' => e = .returned (.bool b) ∧ w' = w := by rw [← h]; exact known_same n w
set_option maxHeartbeats 1600000 in
theorem filErr_n1 (nm : ByteArray) (ma ri fa fs fc fn : Int) (w : World) (h1 : insB fc 1 3 = false) (h2 : fc = 0) (h3 : fn = 0) : Calls Try.prog 38 #[.agg #[.string nm, .int .i64 ma, .int .i64 ri, .int .i64 fa], .agg #[.int .i64 fs, .int .i64 fc, .int .i64 fn]] w fun e w' => e = .returned (.int .i64 (filE ri fa fs fc fn)) ∧ New w w' := by
  subst h2 h3
  go_enter Try.func38, Try.ntmps38
  go_wp2_with fail
  go_quiet ((go_at_call 39; exact Calls.quiet_of_same (isState_is _ _ _ h1)))
  go_wp2_with (go_at_call 39; (with_reducible refine (isState_any _ _).mono ?_); rintro e w' ⟨rfl, rfl⟩)
  all_goals go_ret
  all_goals exact ⟨ret_int (by go_light; first | (simp_all [filE]; done) | trace_state), by repeat (first | with_reducible exact new0 _ | with_reducible apply New.alloc | with_reducible apply New.drewN | with_reducible apply New.drew | (with_reducible refine New.setCell ?_ (by simp <;> omega) _))⟩
set_option maxHeartbeats 1600000 in
theorem filErr_n2 (nm : ByteArray) (ma ri fa fs fc fn : Int) (w : World) (h1 : insB fc 1 3 = false) (h2 : fc = 0) (h3 : ¬ fn = 0) : Calls Try.prog 38 #[.agg #[.string nm, .int .i64 ma, .int .i64 ri, .int .i64 fa], .agg #[.int .i64 fs, .int .i64 fc, .int .i64 fn]] w fun e w' => e = .returned (.int .i64 (filE ri fa fs fc fn)) ∧ New w w' := by
  subst h2
  have e1 : (fn != 0) = true := by simpa using h3
  have e2 : (fn == 0) = false := by simpa using h3
  go_enter Try.func38, Try.ntmps38
  go_wp2_with fail
  go_quiet ((go_at_call 39; exact Calls.quiet_of_same (isState_is _ _ _ h1)))
  go_wp2_with (go_at_call 39; (with_reducible refine (isState_any _ _).mono ?_); rintro e w' ⟨rfl, rfl⟩)
  all_goals go_ret
  all_goals exact ⟨ret_int (by go_light; first | (simp_all [filE]; done) | trace_state), by repeat (first | with_reducible exact new0 _ | with_reducible apply New.alloc | with_reducible apply New.drewN | with_reducible apply New.drew | (with_reducible refine New.setCell ?_ (by simp <;> omega) _))⟩
set_option maxHeartbeats 1600000 in
theorem filErr_n3 (nm : ByteArray) (ma ri fa fs fc fn : Int) (w : World) (h1 : insB fc 1 3 = false) (h2 : ¬ fc = 0) : Calls Try.prog 38 #[.agg #[.string nm, .int .i64 ma, .int .i64 ri, .int .i64 fa], .agg #[.int .i64 fs, .int .i64 fc, .int .i64 fn]] w fun e w' => e = .returned (.int .i64 (filE ri fa fs fc fn)) ∧ New w w' := by
  have e1 : (fc != 0) = true := by simpa using h2
  have e2 : (fc == 0) = false := by simpa using h2
  go_enter Try.func38, Try.ntmps38
  go_wp2_with fail
  go_quiet ((go_at_call 39; exact Calls.quiet_of_same (isState_is _ _ _ h1)))
  go_wp2_with (go_at_call 39; (with_reducible refine (isState_any _ _).mono ?_); rintro e w' ⟨rfl, rfl⟩)
  all_goals go_ret
  all_goals exact ⟨ret_int (by go_light; first | (simp_all [filE]; done) | trace_state), by repeat (first | with_reducible exact new0 _ | with_reducible apply New.alloc | with_reducible apply New.drewN | with_reducible apply New.drew | (with_reducible refine New.setCell ?_ (by simp <;> omega) _))⟩
set_option maxHeartbeats 1600000 in
theorem filErr_n4 (nm : ByteArray) (ma ri fa fs fc fn : Int) (w : World) (h1 : insB fc 1 3 = true) (h2 : fs = fc) : Calls Try.prog 38 #[.agg #[.string nm, .int .i64 ma, .int .i64 ri, .int .i64 fa], .agg #[.int .i64 fs, .int .i64 fc, .int .i64 fn]] w fun e w' => e = .returned (.int .i64 (filE ri fa fs fc fn)) ∧ New w w' := by
  subst h2
  have h0 : ¬ fs = 0 := by intro h; subst h; simp [insB] at h1
  have e1 : (fs != 0) = true := by simpa using h0
  have e2 : (fs == 0) = false := by simpa using h0
  have e3 : (fs != fs) = false := by simp
  go_enter Try.func38, Try.ntmps38
  go_wp2_with fail
  go_quiet ((go_at_call 39; exact Calls.quiet_of_same (isState_is _ _ _ h1)))
  go_wp2_with (go_at_call 39; (with_reducible refine (isState_any _ _).mono ?_); rintro e w' ⟨rfl, rfl⟩)
  all_goals go_ret
  all_goals exact ⟨ret_int (by go_light; first | (simp_all [filE]; done) | trace_state), by repeat (first | with_reducible exact new0 _ | with_reducible apply New.alloc | with_reducible apply New.drewN | with_reducible apply New.drew | (with_reducible refine New.setCell ?_ (by simp <;> omega) _))⟩
set_option maxHeartbeats 3200000 in
theorem filErr_deep (nm : ByteArray) (ma ri fa fs fc fn : Int) (w : World) (r1 : 1 ≤ ri) (r2 : ri ≤ 100) (r3 : 1 ≤ fa) (r4 : fa ≤ 100) (h1 : insB fc 1 3 = true) (h2 : ¬ fc = fs) : Calls Try.prog 38 #[.agg #[.string nm, .int .i64 ma, .int .i64 ri, .int .i64 fa], .agg #[.int .i64 fs, .int .i64 fc, .int .i64 fn]] w fun e w' => e = .returned (.int .i64 (filE ri fa fs fc fn)) ∧ New w w' := by
  have h0 : ¬ fc = 0 := by intro h; subst h; simp [insB] at h1
  have e1 : (fc != fs) = true := by simpa using h2
  have e2 : (fc == fs) = false := by simpa using h2
  have e3 : decide (fc = fs) = false := by simpa using h2
  have hw : IntKind.i64.wrap (nedI ri fa fc - 1) = nedI ri fa fc - 1 := IntWalk.i64_in _ (by unfold nedI; split <;> omega)
  clear r1 r2 r3 r4
  have A := Lib.hid ((blk_alloc w #[.string nm, .int .i64 ma, .int .i64 ri, .int .i64 fa] 23).new ((new0 _).alloc (.cells #[.int .i64 fs, .int .i64 fc, .int .i64 fn] 34)))
  have B := Lib.hid (blk_alloc' (w.alloc (.cells #[.string nm, .int .i64 ma, .int .i64 ri, .int .i64 fa] 23)) #[.int .i64 fs, .int .i64 fc, .int .i64 fn] 34 (w.heap.size + 1) (by simp))
  go_enter Try.func38, Try.ntmps38
  go_wp2_with fail
  have hW : ∃ W : World, W = (w.alloc (.cells #[.string nm, .int .i64 ma, .int .i64 ri, .int .i64 fa] 23)).alloc (.cells #[.int .i64 fs, .int .i64 fc, .int .i64 fn] 34) := ⟨_, rfl⟩
  obtain ⟨W, hW⟩ := hW
  have HW : New w W := by rw [hW]; repeat (first | with_reducible exact new0 _ | with_reducible apply New.alloc | with_reducible apply New.drewN | with_reducible apply New.drew | (with_reducible refine New.setCell ?_ (by simp <;> omega) _))
  have HW := Lib.hid HW
  rw [← hW] at A B
  rw [← hW]
  obtain ⟨k0, k1, k2, k3, kf, kz⟩ := A.out.c4
  obtain ⟨l0, l1, l2, lf, lz⟩ := B.out.c3
  clear hW
  go_region_held3 (fun w' => w'.cell? ⟨w.heap.size, 0, none⟩ = some (.string nm) ∧ w'.cell? ⟨w.heap.size, 1, none⟩ = some (.int .i64 ma) ∧ w'.cell? ⟨w.heap.size, 2, none⟩ = some (.int .i64 ri) ∧ w'.cell? ⟨w.heap.size, 3, none⟩ = some (.int .i64 fa) ∧ w'.cell? ⟨w.heap.size + 1, 0, none⟩ = some (.int .i64 fs) ∧ w'.cell? ⟨w.heap.size + 1, 1, none⟩ = some (.int .i64 fc) ∧ w'.cell? ⟨w.heap.size + 1, 2, none⟩ = some (.int .i64 fn))
    (((with_reducible refine keep7 A.out B.out ?_); repeat (first | with_reducible exact new0 _ | with_reducible apply New.alloc | with_reducible apply New.drewN | with_reducible apply New.drew | (with_reducible refine New.setCell ?_ (by simp <;> omega) _))))
    (first
      | (go_at_call 39; (with_reducible refine (isState_any _ _).mono ?_); rintro e w' ⟨rfl, rfl⟩; (try rw [h1]))
      | (go_at_call 49; (with_reducible refine (needed_any _ _ _ _ _ _).mono ?_); rintro e w' ⟨rfl, cs, rfl⟩)
      | (go_at_call 36; (with_reducible refine (inside_any _ _ _ _).mono ?_); rintro e w' ⟨rfl, rfl⟩))
  go_wp2_with (go_at_call 39; (with_reducible refine (isState_any _ _).mono ?_); rintro e w' ⟨rfl, rfl⟩)
  all_goals go_ret
  all_goals exact ⟨ret_int (by go_light; simp_all [filE]), by repeat (first | with_reducible exact new0 _ | with_reducible apply New.alloc | with_reducible apply New.drewN | with_reducible apply New.drew | (with_reducible refine New.setCell ?_ (by simp <;> omega) _) | (with_reducible refine New.trans ?_ HW.out))⟩
set_option maxHeartbeats 1600000 in
theorem rfilErr_n0 (nm : ByteArray) (ma ri fa fs fc fn : Int) (w : World) (hs : insB fs 1 3 = false) : Calls Try.prog 41 #[.agg #[.string nm, .int .i64 ma, .int .i64 ri, .int .i64 fa], .agg #[.int .i64 fs, .int .i64 fc, .int .i64 fn]] w fun e w' => e = .returned (.int .i64 (filE ri fa fs fc fn)) ∧ New w w' := by
  go_enter Try.func41, Try.ntmps41
  go_wp2_with (go_at_call 42; refine (known_is _ _ _ hs).mono ?_; rintro e w' ⟨rfl, rfl⟩)
  all_goals go_ret
  all_goals exact ⟨ret_int (by go_light; simp_all [filE]), by repeat (first | with_reducible exact new0 _ | with_reducible apply New.alloc | with_reducible apply New.drewN | with_reducible apply New.drew | (with_reducible refine New.setCell ?_ (by simp <;> omega) _))⟩
set_option maxHeartbeats 1600000 in
theorem rfilErr_n1 (nm : ByteArray) (ma ri fa fs fc fn : Int) (w : World) (hs : insB fs 1 3 = true) (h2 : fc = 0) (h3 : fn = 0) : Calls Try.prog 41 #[.agg #[.string nm, .int .i64 ma, .int .i64 ri, .int .i64 fa], .agg #[.int .i64 fs, .int .i64 fc, .int .i64 fn]] w fun e w' => e = .returned (.int .i64 (filE ri fa fs fc fn)) ∧ New w w' := by
  subst h2 h3
  go_enter Try.func41, Try.ntmps41
  go_wp2_with (go_at_call 42; refine (known_is _ _ _ hs).mono ?_; rintro e w' ⟨rfl, rfl⟩)
  all_goals go_ret
  all_goals exact ⟨ret_int (by go_light; simp_all [filE]), by repeat (first | with_reducible exact new0 _ | with_reducible apply New.alloc | with_reducible apply New.drewN | with_reducible apply New.drew | (with_reducible refine New.setCell ?_ (by simp <;> omega) _))⟩
set_option maxHeartbeats 1600000 in
theorem rfilErr_n2 (nm : ByteArray) (ma ri fa fs fc fn : Int) (w : World) (hs : insB fs 1 3 = true) (h1 : insB fc 1 3 = false) (h2 : fc = 0) (h3 : ¬ fn = 0) : Calls Try.prog 41 #[.agg #[.string nm, .int .i64 ma, .int .i64 ri, .int .i64 fa], .agg #[.int .i64 fs, .int .i64 fc, .int .i64 fn]] w fun e w' => e = .returned (.int .i64 (filE ri fa fs fc fn)) ∧ New w w' := by
  subst h2
  have e1 : (fn != 0) = true := by simpa using h3
  have e2 : (fn == 0) = false := by simpa using h3
  go_enter Try.func41, Try.ntmps41
  go_wp2_with (go_at_call 42; refine (known_is _ _ _ hs).mono ?_; rintro e w' ⟨rfl, rfl⟩)
  go_quiet ((go_at_call 42; exact Calls.quiet_of_same (known_is _ _ _ h1)))
  go_wp2_with fail
  all_goals go_ret
  all_goals exact ⟨ret_int (by go_light; simp_all [filE]), by repeat (first | with_reducible exact new0 _ | with_reducible apply New.alloc | with_reducible apply New.drewN | with_reducible apply New.drew | (with_reducible refine New.setCell ?_ (by simp <;> omega) _))⟩
set_option maxHeartbeats 1600000 in
theorem rfilErr_n3 (nm : ByteArray) (ma ri fa fs fc fn : Int) (w : World) (hs : insB fs 1 3 = true) (h1 : insB fc 1 3 = false) (h2 : ¬ fc = 0) : Calls Try.prog 41 #[.agg #[.string nm, .int .i64 ma, .int .i64 ri, .int .i64 fa], .agg #[.int .i64 fs, .int .i64 fc, .int .i64 fn]] w fun e w' => e = .returned (.int .i64 (filE ri fa fs fc fn)) ∧ New w w' := by
  have e1 : (fc != 0) = true := by simpa using h2
  have e2 : (fc == 0) = false := by simpa using h2
  go_enter Try.func41, Try.ntmps41
  go_wp2_with (go_at_call 42; refine (known_is _ _ _ hs).mono ?_; rintro e w' ⟨rfl, rfl⟩)
  go_quiet ((go_at_call 42; exact Calls.quiet_of_same (known_is _ _ _ h1)))
  go_wp2_with fail
  all_goals go_ret
  all_goals exact ⟨ret_int (by go_light; simp_all [filE]), by repeat (first | with_reducible exact new0 _ | with_reducible apply New.alloc | with_reducible apply New.drewN | with_reducible apply New.drew | (with_reducible refine New.setCell ?_ (by simp <;> omega) _))⟩
set_option maxHeartbeats 1600000 in
theorem rfilErr_n4 (nm : ByteArray) (ma ri fa fs fc fn : Int) (w : World) (hs : insB fs 1 3 = true) (h1 : insB fc 1 3 = true) (h2 : fs = fc) : Calls Try.prog 41 #[.agg #[.string nm, .int .i64 ma, .int .i64 ri, .int .i64 fa], .agg #[.int .i64 fs, .int .i64 fc, .int .i64 fn]] w fun e w' => e = .returned (.int .i64 (filE ri fa fs fc fn)) ∧ New w w' := by
  subst h2
  have h0 : ¬ fs = 0 := by intro h; subst h; simp [insB] at h1
  have e1 : (fs != 0) = true := by simpa using h0
  have e2 : (fs == 0) = false := by simpa using h0
  have e3 : (fs == fs) = true := by simp
  go_enter Try.func41, Try.ntmps41
  go_wp2_with (go_at_call 42; refine (known_is _ _ _ hs).mono ?_; rintro e w' ⟨rfl, rfl⟩)
  go_quiet ((go_at_call 42; exact Calls.quiet_of_same (known_is _ _ _ h1)))
  go_wp2_with fail
  all_goals go_ret
  all_goals exact ⟨ret_int (by go_light; simp_all [filE]), by repeat (first | with_reducible exact new0 _ | with_reducible apply New.alloc | with_reducible apply New.drewN | with_reducible apply New.drew | (with_reducible refine New.setCell ?_ (by simp <;> omega) _))⟩
set_option maxHeartbeats 1600000 in
theorem rfilErr_n5 (nm : ByteArray) (ma ri fa fs fc fn : Int) (w : World) (hs : insB fs 1 3 = true) (h1 : insB fc 1 3 = true) (h2 : ¬ fc = fs) (h3 : fn < 1) : Calls Try.prog 41 #[.agg #[.string nm, .int .i64 ma, .int .i64 ri, .int .i64 fa], .agg #[.int .i64 fs, .int .i64 fc, .int .i64 fn]] w fun e w' => e = .returned (.int .i64 (filE ri fa fs fc fn)) ∧ New w w' := by
  have h0 : ¬ fc = 0 := by intro h; subst h; simp [insB] at h1
  have e1 : (fc != 0) = true := by simpa using h0
  have e2 : (fc == 0) = false := by simpa using h0
  have e3 : (fc == fs) = false := by simpa using h2
  have e4 : decide (fn < 1) = true := by simpa using h3
  have e5 : insB fn 1 (nedI ri fa fc - 1) = false := by unfold insB; simp; omega
  go_enter Try.func41, Try.ntmps41
  go_wp2_with (go_at_call 42; refine (known_is _ _ _ hs).mono ?_; rintro e w' ⟨rfl, rfl⟩)
  go_quiet ((go_at_call 42; exact Calls.quiet_of_same (known_is _ _ _ h1)))
  go_wp2_with fail
  all_goals go_ret
  all_goals exact ⟨ret_int (by go_light; simp_all [filE]), by repeat (first | with_reducible exact new0 _ | with_reducible apply New.alloc | with_reducible apply New.drewN | with_reducible apply New.drew | (with_reducible refine New.setCell ?_ (by simp <;> omega) _))⟩
set_option maxHeartbeats 3200000 in
theorem rfilErr_deep (nm : ByteArray) (ma ri fa fs fc fn : Int) (w : World) (hs : insB fs 1 3 = true) (h1 : insB fc 1 3 = true) (h2 : ¬ fc = fs) (h3 : ¬ fn < 1) : Calls Try.prog 41 #[.agg #[.string nm, .int .i64 ma, .int .i64 ri, .int .i64 fa], .agg #[.int .i64 fs, .int .i64 fc, .int .i64 fn]] w fun e w' => e = .returned (.int .i64 (filE ri fa fs fc fn)) ∧ New w w' := by
  have h0 : ¬ fc = 0 := by intro h; subst h; simp [insB] at h1
  have e1 : (fc != fs) = true := by simpa using h2
  have e2 : (fc == fs) = false := by simpa using h2
  have e3 : decide (fc = fs) = false := by simpa using h2
  have e4 : decide (fn < 1) = false := by simpa using h3
  have e5 : insB fn 1 (nedI ri fa fc - 1) = !decide (nedI ri fa fc ≤ fn) := by unfold insB; rw [Bool.eq_iff_iff]; simp; omega
  have E5 := Lib.hid e5
  clear e5
  have A := Lib.hid ((blk_alloc w #[.string nm, .int .i64 ma, .int .i64 ri, .int .i64 fa] 23).new ((new0 _).alloc (.cells #[.int .i64 fs, .int .i64 fc, .int .i64 fn] 34)))
  have B := Lib.hid (blk_alloc' (w.alloc (.cells #[.string nm, .int .i64 ma, .int .i64 ri, .int .i64 fa] 23)) #[.int .i64 fs, .int .i64 fc, .int .i64 fn] 34 (w.heap.size + 1) (by simp))
  go_enter Try.func41, Try.ntmps41
  go_wp2_with (go_at_call 42; refine (known_is _ _ _ hs).mono ?_; rintro e w' ⟨rfl, rfl⟩)
  have hW : ∃ W : World, W = (w.alloc (.cells #[.string nm, .int .i64 ma, .int .i64 ri, .int .i64 fa] 23)).alloc (.cells #[.int .i64 fs, .int .i64 fc, .int .i64 fn] 34) := ⟨_, rfl⟩
  obtain ⟨W, hW⟩ := hW
  have HW : New w W := by rw [hW]; repeat (first | with_reducible exact new0 _ | with_reducible apply New.alloc | with_reducible apply New.drewN | with_reducible apply New.drew | (with_reducible refine New.setCell ?_ (by simp <;> omega) _))
  have HW := Lib.hid HW
  rw [← hW] at A B
  rw [← hW]
  obtain ⟨k0, k1, k2, k3, kf, kz⟩ := A.out.c4
  obtain ⟨l0, l1, l2, lf, lz⟩ := B.out.c3
  clear hW
  go_region_held3 (fun w' => w'.cell? ⟨w.heap.size, 0, none⟩ = some (.string nm) ∧ w'.cell? ⟨w.heap.size, 1, none⟩ = some (.int .i64 ma) ∧ w'.cell? ⟨w.heap.size, 2, none⟩ = some (.int .i64 ri) ∧ w'.cell? ⟨w.heap.size, 3, none⟩ = some (.int .i64 fa) ∧ w'.cell? ⟨w.heap.size + 1, 0, none⟩ = some (.int .i64 fs) ∧ w'.cell? ⟨w.heap.size + 1, 1, none⟩ = some (.int .i64 fc) ∧ w'.cell? ⟨w.heap.size + 1, 2, none⟩ = some (.int .i64 fn))
    (((with_reducible refine keep7 A.out B.out ?_); repeat (first | with_reducible exact new0 _ | with_reducible apply New.alloc | with_reducible apply New.drewN | with_reducible apply New.drew | (with_reducible refine New.setCell ?_ (by simp <;> omega) _))))
    (first
      | (go_at_call 42; (with_reducible refine (known_any _ _).mono ?_); rintro e w' ⟨rfl, rfl⟩; (try rw [h1]))
      | (go_at_call 50; (with_reducible refine (rneeded_any _ _ _ _ _ _).mono ?_); rintro e w' ⟨rfl, cs, rfl⟩))
  go_wp2_with fail
  all_goals go_ret
  all_goals exact ⟨ret_int (by go_light; simp_all [filE, E5.out]; try omega), by repeat (first | with_reducible exact new0 _ | with_reducible apply New.alloc | with_reducible apply New.drewN | with_reducible apply New.drew | (with_reducible refine New.setCell ?_ (by simp <;> omega) _) | (with_reducible refine New.trans ?_ HW.out))⟩
end Go.Proofs.Ytjkfdmbhiooeiaa
