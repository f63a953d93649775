/-
  The error of a filter's state, all cases; the filter's step; by the program and by the reference.
-/
import Derived.Test.YtjkfdmbhiooeiaaFilt
import Derived.Stop.Joined
namespace Go.Proofs.Ytjkfdmbhiooeiaa
open Go.RowKit
theorem filErr_any (nm : ByteArray) (ma ri fa fs fc fn : Int) (w : World) (r1 : 1 ≤ ri) (r2 : ri ≤ 100) (r3 : 1 ≤ fa) (r4 : fa ≤ 100) : Calls Try.prog 38 #[.agg #[.string nm, .int .i64 ma, .int .i64 ri, .int .i64 fa], .agg #[.int .i64 fs, .int .i64 fc, .int .i64 fn]] w fun e w' => e = .returned (.int .i64 (filE ri fa fs fc fn)) ∧ New w w' := by
  by_cases h1 : insB fc 1 3 = true
  · by_cases h2 : fc = fs
    · exact filErr_n4 nm ma ri fa fs fc fn w h1 h2.symm
    · exact filErr_deep nm ma ri fa fs fc fn w r1 r2 r3 r4 h1 h2
  · have h1 : insB fc 1 3 = false := by simpa using h1
    by_cases h2 : fc = 0
    · by_cases h3 : fn = 0
      · exact filErr_n1 nm ma ri fa fs fc fn w h1 h2 h3
      · exact filErr_n2 nm ma ri fa fs fc fn w h1 h2 h3
    · exact filErr_n3 nm ma ri fa fs fc fn w h1 h2
theorem rfilErr_any (nm : ByteArray) (ma ri fa fs fc fn : Int) (w : World) : Calls Try.prog 41 #[.agg #[.string nm, .int .i64 ma, .int .i64 ri, .int .i64 fa], .agg #[.int .i64 fs, .int .i64 fc, .int .i64 fn]] w fun e w' => e = .returned (.int .i64 (filE ri fa fs fc fn)) ∧ New w w' := by
  by_cases hs : insB fs 1 3 = true
  · by_cases h1 : insB fc 1 3 = true
    · by_cases h2 : fc = fs
      · exact rfilErr_n4 nm ma ri fa fs fc fn w hs h1 h2.symm
      · by_cases h3 : fn < 1
        · exact rfilErr_n5 nm ma ri fa fs fc fn w hs h1 h2 h3
        · exact rfilErr_deep nm ma ri fa fs fc fn w hs h1 h2 h3
    · have h1 : insB fc 1 3 = false := by simpa using h1
      by_cases h2 : fc = 0
      · by_cases h3 : fn = 0
        · exact rfilErr_n1 nm ma ri fa fs fc fn w hs h2 h3
        · exact rfilErr_n2 nm ma ri fa fs fc fn w hs h1 h2 h3
      · exact rfilErr_n3 nm ma ri fa fs fc fn w hs h1 h2
  · exact rfilErr_n0 nm ma ri fa fs fc fn w (by simpa using hs)

/-- The count behind another raw state that is not the filter's own. -/
def cntI (fs fc fn r : Int) : Int := if r = fc ∨ (fs = 1 ∧ fc ≠ 0) then fn + 1 else 1
def stpS (ri fa fs fc fn r : Int) : Int := if r = fs then fs else if nedI ri fa r ≤ cntI fs fc fn r then r else fs
def stpC (ri fa fs fc fn r : Int) : Int := if r = fs then 0 else if nedI ri fa r ≤ cntI fs fc fn r then 0 else r
def stpN (ri fa fs fc fn r : Int) : Int := if r = fs then 0 else if nedI ri fa r ≤ cntI fs fc fn r then 0 else cntI fs fc fn r
theorem keep10 {W W' : World} {p q r : Nat} {a0 a1 a2 a3 b0 b1 b2 c0 c1 c2 : Value} (h1 : Blk W p #[a0, a1, a2, a3]) (h2 : Blk W q #[b0, b1, b2]) (h3 : Blk W r #[c0, c1, c2]) (hn : New W W') :
    W'.cell? ⟨p, 0, none⟩ = some a0 ∧ W'.cell? ⟨p, 1, none⟩ = some a1 ∧ W'.cell? ⟨p, 2, none⟩ = some a2 ∧ W'.cell? ⟨p, 3, none⟩ = some a3 ∧ W'.cell? ⟨q, 0, none⟩ = some b0 ∧ W'.cell? ⟨q, 1, none⟩ = some b1 ∧ W'.cell? ⟨q, 2, none⟩ = some b2 ∧ W'.cell? ⟨r, 0, none⟩ = some c0 ∧ W'.cell? ⟨r, 1, none⟩ = some c1 ∧ W'.cell? ⟨r, 2, none⟩ = some c2 ∧ ∀ o, W'.frozen? ⟨r, o, none⟩ = false := by
  obtain ⟨k0, k1, k2, k3, _⟩ := (h1.new hn).c4
  obtain ⟨l0, l1, l2, _⟩ := (h2.new hn).c3
  obtain ⟨m0, m1, m2, mf, _⟩ := (h3.new hn).c3
  exact ⟨k0, k1, k2, k3, l0, l1, l2, m0, m1, m2, mf⟩
set_option maxHeartbeats 1600000 in
theorem step_same (nm : ByteArray) (ma ri fa fs fc fn r : Int) (w : World) (h : r = fs) : Calls Try.prog 40 #[.agg #[.string nm, .int .i64 ma, .int .i64 ri, .int .i64 fa], .agg #[.int .i64 fs, .int .i64 fc, .int .i64 fn], .int .i64 r] w fun e w' => e = .returned (.agg #[.int .i64 (stpS ri fa fs fc fn r), .int .i64 (stpC ri fa fs fc fn r), .int .i64 (stpN ri fa fs fc fn r)]) ∧ New w w' := by
  subst h
  have e1 : (r == r) = true := by simp
  go_enter Try.func40, Try.ntmps40
  go_wp2_with fail
  refine bodyPost_ret (v := .agg #[.int .i64 r, .int .i64 0, .int .i64 0]) (by go_light; simp [results, Try.results40, go_sem, *]) rfl ?_
  exact ⟨by simp [stpS, stpC, stpN], by repeat (first | with_reducible exact new0 _ | with_reducible apply New.alloc | with_reducible apply New.drewN | with_reducible apply New.drew | (with_reducible refine New.setCell ?_ (by simp <;> omega) _))⟩
set_option maxHeartbeats 6400000 in
theorem step_diff (nm : ByteArray) (ma ri fa fs fc fn r : Int) (w : World) (h : ¬ r = fs) (hn : fn < 1000) (hn' : 0 ≤ fn) : Calls Try.prog 40 #[.agg #[.string nm, .int .i64 ma, .int .i64 ri, .int .i64 fa], .agg #[.int .i64 fs, .int .i64 fc, .int .i64 fn], .int .i64 r] w fun e w' => e = .returned (.agg #[.int .i64 (stpS ri fa fs fc fn r), .int .i64 (stpC ri fa fs fc fn r), .int .i64 (stpN ri fa fs fc fn r)]) ∧ New w w' := by
  have e1 : (r == fs) = false := by simpa using h
  have e2 : (r != fs) = true := by simpa using h
  have hw : IntKind.i64.wrap (fn + 1) = fn + 1 := IntWalk.i64_in _ (by omega)
  clear hn hn'
  go_enter Try.func40, Try.ntmps40
  go_wp2_with fail
  all_goals (refine wp_abs (fun W => New w W ∧ Blk W w.heap.size #[.string nm, .int .i64 ma, .int .i64 ri, .int .i64 fa] ∧ Blk W (w.heap.size + 1) #[.int .i64 fs, .int .i64 r, .int .i64 (cntI fs fc fn r)] ∧ Blk W (w.heap.size + 1 + 1) #[.int .i64 0, .int .i64 0, .int .i64 0]) ?_ ?_)
  all_goals first
    | (refine ⟨by repeat (first | with_reducible exact new0 _ | with_reducible apply New.alloc | with_reducible apply New.drewN | with_reducible apply New.drew | (with_reducible refine New.setCell ?_ (by simp <;> omega) _)), Blk.mk4 (by simp; omega) ?_ ?_ ?_ ?_ (fun o => ?_), Blk.mk3 (by simp) ?_ ?_ ?_ (fun o => ?_), Blk.mk3 (by simp) ?_ ?_ ?_ (fun o => ?_)⟩ <;> (go_light; simp_all [go_sem, cntI]; done))
    | (intro W hWW
       obtain ⟨HW_, A_, B_, C_⟩ := hWW
       have HW := Lib.hid HW_
       obtain ⟨k0, k1, k2, k3, kf, kz⟩ := A_.c4
       obtain ⟨l0, l1, l2, lf, lz⟩ := B_.c3
       obtain ⟨m0, m1, m2, mf, mz⟩ := C_.c3
       have A := Lib.hid A_
       have B := Lib.hid B_
       have C := Lib.hid C_
       clear HW_ A_ B_ C_
       go_region_held3 (fun w' => w'.cell? ⟨w.heap.size, 0, none⟩ = some (.string nm) ∧ w'.cell? ⟨w.heap.size, 1, none⟩ = some (.int .i64 ma) ∧ w'.cell? ⟨w.heap.size, 2, none⟩ = some (.int .i64 ri) ∧ w'.cell? ⟨w.heap.size, 3, none⟩ = some (.int .i64 fa) ∧ w'.cell? ⟨w.heap.size + 1, 0, none⟩ = some (.int .i64 fs) ∧ w'.cell? ⟨w.heap.size + 1, 1, none⟩ = some (.int .i64 r) ∧ w'.cell? ⟨w.heap.size + 1, 2, none⟩ = some (.int .i64 (cntI fs fc fn r)) ∧ w'.cell? ⟨w.heap.size + 1 + 1, 0, none⟩ = some (.int .i64 0) ∧ w'.cell? ⟨w.heap.size + 1 + 1, 1, none⟩ = some (.int .i64 0) ∧ w'.cell? ⟨w.heap.size + 1 + 1, 2, none⟩ = some (.int .i64 0) ∧ (∀ o, w'.frozen? ⟨w.heap.size + 1 + 1, o, none⟩ = false))
         (((with_reducible refine keep10 A.out B.out C.out ?_); repeat (first | with_reducible exact new0 _ | with_reducible apply New.alloc | with_reducible apply New.drewN | with_reducible apply New.drew | (with_reducible refine New.setCell ?_ (by simp <;> omega) _))))
         ((go_at_call 49; (with_reducible refine (needed_any _ _ _ _ _ _).mono ?_); rintro e w' ⟨rfl, cs, rfl⟩))
       all_goals go_wp2_with fail
       all_goals (refine bodyPost_ret (v := .agg #[.int .i64 (stpS ri fa fs fc fn r), .int .i64 (stpC ri fa fs fc fn r), .int .i64 (stpN ri fa fs fc fn r)]) (by go_light; simp_all [results, Try.results40, go_sem, stpS, stpC, stpN]; try omega) rfl ?_)
       all_goals exact ⟨rfl, by repeat (first | with_reducible exact new0 _ | with_reducible apply New.alloc | with_reducible apply New.drewN | with_reducible apply New.drew | (with_reducible refine New.setCell ?_ (by simp <;> omega) _) | (with_reducible refine New.trans ?_ HW.out))⟩)
set_option maxHeartbeats 1600000 in
theorem rstep_same (nm : ByteArray) (ma ri fa fs fc fn r : Int) (w : World) (h : r = fs) : Calls Try.prog 43 #[.agg #[.string nm, .int .i64 ma, .int .i64 ri, .int .i64 fa], .agg #[.int .i64 fs, .int .i64 fc, .int .i64 fn], .int .i64 r] w fun e w' => e = .returned (.agg #[.int .i64 (stpS ri fa fs fc fn r), .int .i64 (stpC ri fa fs fc fn r), .int .i64 (stpN ri fa fs fc fn r)]) ∧ New w w' := by
  subst h
  have e1 : (r == r) = true := by simp
  go_enter Try.func43, Try.ntmps43
  go_wp2_with fail
  refine bodyPost_ret (v := .agg #[.int .i64 r, .int .i64 0, .int .i64 0]) (by go_light; simp [results, Try.results43, go_sem, *]) rfl ?_
  exact ⟨by simp [stpS, stpC, stpN], by repeat (first | with_reducible exact new0 _ | with_reducible apply New.alloc | with_reducible apply New.drewN | with_reducible apply New.drew | (with_reducible refine New.setCell ?_ (by simp <;> omega) _))⟩
set_option maxHeartbeats 6400000 in
theorem rstep_diff (nm : ByteArray) (ma ri fa fs fc fn r : Int) (w : World) (h : ¬ r = fs) (hn : fn < 1000) (hn' : 0 ≤ fn) : Calls Try.prog 43 #[.agg #[.string nm, .int .i64 ma, .int .i64 ri, .int .i64 fa], .agg #[.int .i64 fs, .int .i64 fc, .int .i64 fn], .int .i64 r] w fun e w' => e = .returned (.agg #[.int .i64 (stpS ri fa fs fc fn r), .int .i64 (stpC ri fa fs fc fn r), .int .i64 (stpN ri fa fs fc fn r)]) ∧ New w w' := by
  have e1 : (r == fs) = false := by simpa using h
  have e2 : (r != fs) = true := by simpa using h
  have hw : IntKind.i64.wrap (fn + 1) = fn + 1 := IntWalk.i64_in _ (by omega)
  clear hn hn'
  go_enter Try.func43, Try.ntmps43
  go_wp2_with fail
  all_goals (refine wp_abs (fun W => New w W ∧ Blk W w.heap.size #[.string nm, .int .i64 ma, .int .i64 ri, .int .i64 fa] ∧ Blk W (w.heap.size + 1) #[.int .i64 fs, .int .i64 r, .int .i64 (cntI fs fc fn r)] ∧ Blk W (w.heap.size + 1 + 1) #[.int .i64 0, .int .i64 0, .int .i64 0]) ?_ ?_)
  all_goals first
    | (refine ⟨by repeat (first | with_reducible exact new0 _ | with_reducible apply New.alloc | with_reducible apply New.drewN | with_reducible apply New.drew | (with_reducible refine New.setCell ?_ (by simp <;> omega) _)), Blk.mk4 (by simp; omega) ?_ ?_ ?_ ?_ (fun o => ?_), Blk.mk3 (by simp) ?_ ?_ ?_ (fun o => ?_), Blk.mk3 (by simp) ?_ ?_ ?_ (fun o => ?_)⟩ <;> (go_light; simp_all [go_sem, cntI]; done))
    | (intro W hWW
       obtain ⟨HW_, A_, B_, C_⟩ := hWW
       have HW := Lib.hid HW_
       obtain ⟨k0, k1, k2, k3, kf, kz⟩ := A_.c4
       obtain ⟨l0, l1, l2, lf, lz⟩ := B_.c3
       obtain ⟨m0, m1, m2, mf, mz⟩ := C_.c3
       have A := Lib.hid A_
       have B := Lib.hid B_
       have C := Lib.hid C_
       clear HW_ A_ B_ C_
       go_region_held3 (fun w' => w'.cell? ⟨w.heap.size, 0, none⟩ = some (.string nm) ∧ w'.cell? ⟨w.heap.size, 1, none⟩ = some (.int .i64 ma) ∧ w'.cell? ⟨w.heap.size, 2, none⟩ = some (.int .i64 ri) ∧ w'.cell? ⟨w.heap.size, 3, none⟩ = some (.int .i64 fa) ∧ w'.cell? ⟨w.heap.size + 1, 0, none⟩ = some (.int .i64 fs) ∧ w'.cell? ⟨w.heap.size + 1, 1, none⟩ = some (.int .i64 r) ∧ w'.cell? ⟨w.heap.size + 1, 2, none⟩ = some (.int .i64 (cntI fs fc fn r)) ∧ w'.cell? ⟨w.heap.size + 1 + 1, 0, none⟩ = some (.int .i64 0) ∧ w'.cell? ⟨w.heap.size + 1 + 1, 1, none⟩ = some (.int .i64 0) ∧ w'.cell? ⟨w.heap.size + 1 + 1, 2, none⟩ = some (.int .i64 0) ∧ (∀ o, w'.frozen? ⟨w.heap.size + 1 + 1, o, none⟩ = false))
         (((with_reducible refine keep10 A.out B.out C.out ?_); repeat (first | with_reducible exact new0 _ | with_reducible apply New.alloc | with_reducible apply New.drewN | with_reducible apply New.drew | (with_reducible refine New.setCell ?_ (by simp <;> omega) _))))
         ((go_at_call 50; (with_reducible refine (rneeded_any _ _ _ _ _ _).mono ?_); rintro e w' ⟨rfl, cs, rfl⟩))
       all_goals go_wp2_with fail
       all_goals (refine bodyPost_ret (v := .agg #[.int .i64 (stpS ri fa fs fc fn r), .int .i64 (stpC ri fa fs fc fn r), .int .i64 (stpN ri fa fs fc fn r)]) (by go_light; simp_all [results, Try.results43, go_sem, stpS, stpC, stpN]; try omega) rfl ?_)
       all_goals exact ⟨rfl, by repeat (first | with_reducible exact new0 _ | with_reducible apply New.alloc | with_reducible apply New.drewN | with_reducible apply New.drew | (with_reducible refine New.setCell ?_ (by simp <;> omega) _) | (with_reducible refine New.trans ?_ HW.out))⟩)
end Go.Proofs.Ytjkfdmbhiooeiaa
