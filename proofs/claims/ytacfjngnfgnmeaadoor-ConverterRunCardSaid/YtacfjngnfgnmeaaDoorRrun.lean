/-
  The reference's Run, and both at scripts that cannot run.
-/
import Derived.Test.YtacfjngnfgnmeaaDoorRun
import Derived.Deep.RegionHeld3
import Derived.StillTailTactics
namespace Go.Proofs.YtacfjngnfgnmeaaDoor
open Go.RowKit

theorem keepS {W W' : World} {p b o : Nat} {a0 a1 a2 a3 a4 a5 x y : Value} (h : W.cell? ⟨p, 0, none⟩ = some a0 ∧ W.cell? ⟨p, 1, none⟩ = some a1 ∧ W.cell? ⟨p, 2, none⟩ = some a2 ∧ W.cell? ⟨p, 3, none⟩ = some a3 ∧ W.cell? ⟨p, 4, none⟩ = some a4 ∧ W.cell? ⟨p, 5, none⟩ = some a5 ∧ W.cell? ⟨b, o, none⟩ = some x ∧ W.cell? ⟨b, o + 1, none⟩ = some y) (hn : New W W') (hp : p < W.heap.size) (hb : b < W.heap.size) :
    W'.cell? ⟨p, 0, none⟩ = some a0 ∧ W'.cell? ⟨p, 1, none⟩ = some a1 ∧ W'.cell? ⟨p, 2, none⟩ = some a2 ∧ W'.cell? ⟨p, 3, none⟩ = some a3 ∧ W'.cell? ⟨p, 4, none⟩ = some a4 ∧ W'.cell? ⟨p, 5, none⟩ = some a5 ∧ W'.cell? ⟨b, o, none⟩ = some x ∧ W'.cell? ⟨b, o + 1, none⟩ = some y := by
  obtain ⟨h0, h1, h2, h3, h4, h5, h6, h7⟩ := h
  obtain ⟨hc, _⟩ := ncell hn
  exact ⟨(hc _ _ hp).trans h0, (hc _ _ hp).trans h1, (hc _ _ hp).trans h2, (hc _ _ hp).trans h3, (hc _ _ hp).trans h4, (hc _ _ hp).trans h5, (hc _ _ hb).trans h6, (hc _ _ hb).trans h7⟩
theorem frozen1 {w w' : World} {cs : Array Value} (hb : New (w.alloc (.cells cs 23)) w') : ∀ o, w'.frozen? ⟨w.heap.size, o, none⟩ = false := fun o => by
  rw [(ncell hb).2 _ _ (by simp)]; simp [go_sem]
theorem New.drew {W w' : World} (h : New W w') : New W w'.drew := Below.drew h

set_option maxHeartbeats 800000 in
theorem rrun_any (c : Cv) (mn mx st : Int) (b off n cap : Nat) (K V : Nat → Int) (w : World) (hv : valE c.s c.cu c.tg mn mx st = 0) (hn : n ≤ 200) (hS : Stps w b off n K V) :
    Calls Tryd.prog 26 #[.agg #[.int .i64 c.s, .int .i64 c.cu, .int .i64 c.tg, .int .i64 mn, .int .i64 mx, .int .i64 st], .slice (some ⟨b, off, none⟩) n cap] w fun e w' =>
      e = .returned (.tuple #[.agg #[.int .i64 (runC mn mx st K V c n).s, .int .i64 (runC mn mx st K V c n).cu, .int .i64 (runC mn mx st K V c n).tg, .int .i64 mn, .int .i64 mx, .int .i64 st], .int .i64 (runI mn mx st K V c n), .int .i64 0]) ∧ New w w' := by
  have HS := Lib.hid hS
  clear hS
  go_enter Tryd.func26, Tryd.ntmps26
  go_wp2_with (first | (go_at_call 15; refine (rvalid_any _ _ _ _ _ _ _).mono ?_; rintro e w' ⟨rfl, hw1⟩))
  have HW := Lib.hid hw1
  clear hw1
  go_loopw [8] (fun i wr => ∃ k : Nat, k ≤ n ∧ i = .int .i64 k ∧ Rel w mn mx st K V c k wr) (fun i _ => n - (intOf i).toNat)
  case atStart =>
    refine ⟨0, by omega, rfl, fun j hj => absurd hj (by omega), ((new0 w).alloc _ |>.alloc _).trans HW.out, by have := New.size HW.out; simp at this; omega, ?_, ?_⟩
    · exact (((Blk.alloc w _ _ _ _ _ _).new ((new0 _).alloc _) (by simp)).new HW.out (by simp; omega))
    · have h := Blk.alloc (w.alloc (.cells #[.int .i64 c.s, .int .i64 c.cu, .int .i64 c.tg, .int .i64 mn, .int .i64 mx, .int .i64 st] 23)) 0 0 0 0 0 0
      have e : (w.alloc (.cells #[.int .i64 c.s, .int .i64 c.cu, .int .i64 c.tg, .int .i64 mn, .int .i64 mx, .int .i64 st] 23)).heap.size = w.heap.size + 1 := by simp
      rw [e] at h
      exact h.new HW.out (by simp)
  case round =>
    obtain ⟨k, hk, rfl, hG, hNw, hz1, hB1, hB2⟩ := hrel
    have hNw' : New w wr := hNw
    have hz0 : w.heap.size < wr.heap.size := by omega
    by_cases hlt : k < n
    · obtain ⟨c0, c1⟩ := (HS.out.new hNw').2 k hlt
      have hbz : b < wr.heap.size := (HS.out.new hNw').1
      have HB1 := Lib.hid hB1
      have HB2 := Lib.hid hB2
      obtain ⟨k0, k1, k2, k3, k4, k5, hf1⟩ := hB1
      have HG := Lib.hid hG
      have HNw := Lib.hid hNw
      clear hG hNw hNw'  hv hB2
      by_cases hE : cvE mn mx st (runN st K V c k) (K k) (V k) = 0
      · have HE := Lib.hid hE
        clear hE
        have HX : stE (runN st K V c k).s (runN st K V c k).cu (runN st K V c k).tg mn mx st (K k) (V k) = 0 := HE.out
        have HX := Lib.hid HX
        have KS := Lib.hid (And.intro k0 (And.intro k1 (And.intro k2 (And.intro k3 (And.intro k4 (And.intro k5 (And.intro c0 c1)))))))
        go_wp2_with fail
        go_region_held3 (fun w' => w'.cell? ⟨w.heap.size, 0, none⟩ = some (.int .i64 (runN st K V c k).s) ∧ w'.cell? ⟨w.heap.size, 1, none⟩ = some (.int .i64 (runN st K V c k).cu) ∧ w'.cell? ⟨w.heap.size, 2, none⟩ = some (.int .i64 (runN st K V c k).tg) ∧ w'.cell? ⟨w.heap.size, 3, none⟩ = some (.int .i64 mn) ∧ w'.cell? ⟨w.heap.size, 4, none⟩ = some (.int .i64 mx) ∧ w'.cell? ⟨w.heap.size, 5, none⟩ = some (.int .i64 st) ∧ w'.cell? ⟨b, off + k * 2, none⟩ = some (.int .i64 (K k)) ∧ w'.cell? ⟨b, off + k * 2 + 1, none⟩ = some (.int .i64 (V k)))
          (((with_reducible refine keepS KS.out ?_ hz0 hbz); repeat (first | with_reducible exact new0 _ | with_reducible exact HW2.out | with_reducible apply New.alloc | with_reducible apply New.drew | (with_reducible refine New.setCell ?_ (by simp <;> omega) _))))
          (first
            | (go_at_call 41; (with_reducible refine (rdo_ok _ _ _ _ _ _ _ _ _ HX.out).mono ?_); rintro e w2 ⟨rfl, hw2⟩; have hw2' : New wr w2 := New.trans (by repeat (first | with_reducible exact new0 _ | with_reducible apply New.alloc | with_reducible apply New.drew)) hw2; have hq : New (wr.alloc (.cells #[.int .i64 0, .int .i64 0, .int .i64 0, .int .i64 0, .int .i64 0, .int .i64 0] 23)) w2 := (by with_reducible exact New.trans (New.drew (new0 _)) hw2); obtain ⟨q0, q1, q2, q3, q4, q5⟩ := cells1 hq; have qf : ∀ o, w2.frozen? ⟨wr.heap.size, o, none⟩ = false := fun o => frozen1 hq o; have hy2 : wr.heap.size < w2.heap.size := (by have := New.size hq; simp at this; omega); clear hq; obtain ⟨m0, m1, m2, m3, m4, m5, mf1⟩ := HB1.out.new hw2' hz0; obtain ⟨n0, n1, n2, n3, n4, n5, nf2⟩ := HB2.out.new hw2' hz1; obtain ⟨p0, p1⟩ := (HS.out.new (HNw.out.trans hw2')).2 k hlt; have hy : wr.heap.size ≤ w2.heap.size := (New.size hw2'); have hy0 : w.heap.size < w2.heap.size := (by omega); have hy1 : w.heap.size + 1 < w2.heap.size := (by omega); have HW2 := Lib.hid hw2'; clear hw2 hw2')
            | (go_at_call 41; (with_reducible refine (rdo_ok _ _ _ _ _ _ _ _ _ HX.out).mono ?_); rintro e w2 ⟨rfl, hw2⟩; have hw2' : New wr w2 := New.trans (by repeat (first | with_reducible exact new0 _ | with_reducible apply New.alloc | with_reducible apply New.drew)) hw2; obtain ⟨m0, m1, m2, m3, m4, m5, mf1⟩ := HB1.out.new hw2' hz0; obtain ⟨n0, n1, n2, n3, n4, n5, nf2⟩ := HB2.out.new hw2' hz1; obtain ⟨p0, p1⟩ := (HS.out.new (HNw.out.trans hw2')).2 k hlt; have hy : wr.heap.size ≤ w2.heap.size := (New.size hw2'); have hy0 : w.heap.size < w2.heap.size := (by omega); have hy1 : w.heap.size + 1 < w2.heap.size := (by omega); have HW2 := Lib.hid hw2'; clear hw2 hw2'))
        all_goals go_wp2
        all_goals
          go_roundw
          case rel =>
            have hx0 : w.heap.size ≠ wr.heap.size := (by omega)
            have hx1 : wr.heap.size ≠ w.heap.size := (by omega)
            have hx2 : w.heap.size + 1 ≠ wr.heap.size := (by omega)
            have hx3 : wr.heap.size ≠ w.heap.size + 1 := (by omega)
            refine ⟨k + 1, by omega, by go_num, goes_snoc HG.out HE.out, (by repeat (first | with_reducible exact new0 _ | with_reducible exact HNw.out | with_reducible apply New.alloc | with_reducible apply New.drew | (with_reducible refine New.setCell ?_ (by simp <;> omega) _) | (with_reducible refine New.trans ?_ HW2.out))), by simp; omega, ?_, ?_⟩
            · refine ⟨?_, ?_, ?_, ?_, ?_, ?_, fun o => ?_⟩ <;> (go_light; simp [go_sem, runN, stp, *])
            · refine ⟨?_, ?_, ?_, ?_, ?_, ?_, fun o => ?_⟩ <;> (go_light; simp [go_sem, *])
          case measure => simp [intOf]; omega
      · have HE := Lib.hid hE
        have hE' : (cvE mn mx st (runN st K V c k) (K k) (V k) != 0) = true := by simpa using hE
        clear hE
        unfold cvE at hE'
        have HX : stE (runN st K V c k).s (runN st K V c k).cu (runN st K V c k).tg mn mx st (K k) (V k) ≠ 0 := HE.out
        have HX := Lib.hid HX
        have KS := Lib.hid (And.intro k0 (And.intro k1 (And.intro k2 (And.intro k3 (And.intro k4 (And.intro k5 (And.intro c0 c1)))))))
        go_wp2_with fail
        go_region_held3 (fun w' => w'.cell? ⟨w.heap.size, 0, none⟩ = some (.int .i64 (runN st K V c k).s) ∧ w'.cell? ⟨w.heap.size, 1, none⟩ = some (.int .i64 (runN st K V c k).cu) ∧ w'.cell? ⟨w.heap.size, 2, none⟩ = some (.int .i64 (runN st K V c k).tg) ∧ w'.cell? ⟨w.heap.size, 3, none⟩ = some (.int .i64 mn) ∧ w'.cell? ⟨w.heap.size, 4, none⟩ = some (.int .i64 mx) ∧ w'.cell? ⟨w.heap.size, 5, none⟩ = some (.int .i64 st) ∧ w'.cell? ⟨b, off + k * 2, none⟩ = some (.int .i64 (K k)) ∧ w'.cell? ⟨b, off + k * 2 + 1, none⟩ = some (.int .i64 (V k)))
          (((with_reducible refine keepS KS.out ?_ hz0 hbz); repeat (first | with_reducible exact new0 _ | with_reducible exact HW2.out | with_reducible apply New.alloc | with_reducible apply New.drew | (with_reducible refine New.setCell ?_ (by simp <;> omega) _))))
          (first
            | (go_at_call 41; (with_reducible refine (rdo_err _ _ _ _ _ _ _ _ _ HX.out).mono ?_); rintro e w2 ⟨rfl, hw2⟩; have hw2' : New wr w2 := New.trans (by repeat (first | with_reducible exact new0 _ | with_reducible apply New.alloc | with_reducible apply New.drew)) hw2; have hq : New (wr.alloc (.cells #[.int .i64 0, .int .i64 0, .int .i64 0, .int .i64 0, .int .i64 0, .int .i64 0] 23)) w2 := (by with_reducible exact New.trans (New.drew (new0 _)) hw2); obtain ⟨q0, q1, q2, q3, q4, q5⟩ := cells1 hq; have qf : ∀ o, w2.frozen? ⟨wr.heap.size, o, none⟩ = false := fun o => frozen1 hq o; have hy2 : wr.heap.size < w2.heap.size := (by have := New.size hq; simp at this; omega); clear hq; obtain ⟨m0, m1, m2, m3, m4, m5, mf1⟩ := HB1.out.new hw2' hz0; obtain ⟨n0, n1, n2, n3, n4, n5, nf2⟩ := HB2.out.new hw2' hz1; obtain ⟨p0, p1⟩ := (HS.out.new (HNw.out.trans hw2')).2 k hlt; have hy : wr.heap.size ≤ w2.heap.size := (New.size hw2'); have hy0 : w.heap.size < w2.heap.size := (by omega); have hy1 : w.heap.size + 1 < w2.heap.size := (by omega); have HW2 := Lib.hid hw2'; clear hw2 hw2')
            | (go_at_call 41; (with_reducible refine (rdo_err _ _ _ _ _ _ _ _ _ HX.out).mono ?_); rintro e w2 ⟨rfl, hw2⟩; have hw2' : New wr w2 := New.trans (by repeat (first | with_reducible exact new0 _ | with_reducible apply New.alloc | with_reducible apply New.drew)) hw2; obtain ⟨m0, m1, m2, m3, m4, m5, mf1⟩ := HB1.out.new hw2' hz0; obtain ⟨n0, n1, n2, n3, n4, n5, nf2⟩ := HB2.out.new hw2' hz1; obtain ⟨p0, p1⟩ := (HS.out.new (HNw.out.trans hw2')).2 k hlt; have hy : wr.heap.size ≤ w2.heap.size := (New.size hw2'); have hy0 : w.heap.size < w2.heap.size := (by omega); have hy1 : w.heap.size + 1 < w2.heap.size := (by omega); have HW2 := Lib.hid hw2'; clear hw2 hw2'))
        all_goals go_wp2
        all_goals
          have hJ := run_stops hlt HG.out HE.out
          refine bodyPost_ret (v := .tuple #[.agg #[.int .i64 (runN st K V c k).s, .int .i64 (runN st K V c k).cu, .int .i64 (runN st K V c k).tg, .int .i64 mn, .int .i64 mx, .int .i64 st], .int .i64 k, .int .i64 0]) (by clear hJ; go_light; simp [results, Tryd.results26, go_sem, *]) rfl ⟨?_, (by repeat (first | with_reducible exact new0 _ | with_reducible exact HNw.out | with_reducible apply New.alloc | with_reducible apply New.drew | (with_reducible refine New.setCell ?_ (by simp <;> omega) _) | (with_reducible refine New.trans ?_ HW2.out)))⟩
          rw [hJ.1, hJ.2]
    · have e : k = n := by omega
      subst e
      obtain ⟨k0, k1, k2, k3, k4, k5, hf1⟩ := hB1
      obtain ⟨l0, l1, l2, l3, l4, l5, hf2⟩ := hB2
      have HG := Lib.hid hG
      have HNw := Lib.hid hNw
      clear hG hNw hNw'  hv
      go_wp2
      have hJ := run_goes HG.out
      refine bodyPost_ret (v := .tuple #[.agg #[.int .i64 (runN st K V c k).s, .int .i64 (runN st K V c k).cu, .int .i64 (runN st K V c k).tg, .int .i64 mn, .int .i64 mx, .int .i64 st], .int .i64 (-1), .int .i64 0]) (by clear hJ; go_light; simp [results, Tryd.results26, go_sem, *]) rfl ⟨?_, (by repeat (first | with_reducible exact new0 _ | with_reducible exact HNw.out | with_reducible apply New.alloc | (with_reducible refine New.setCell ?_ (by simp <;> omega) _)))⟩
      rw [hJ.1, hJ.2]
end Go.Proofs.YtacfjngnfgnmeaaDoor
