/-
  The walk of the statement RingbufferFreeze.
-/
import Derived.Test.YtedbjnojogjnkaaRfs
import Derived.Test.YtedbjnojogjnkaaAw
namespace Go.Proofs.Ytedbjnojogjnkaa
open Go.RowKit
theorem resB_n (e : Int) (x : Bf) : (resB e x).n ≤ x.n := by
  unfold resB
  split
  · exact Nat.le_refl _
  · exact Nat.zero_le _
theorem rfreeze_v (u : Value) (y : Bf) (k : Int) (w : World) (h : BufB w u y) (hn : y.n ≤ 1000) : Calls Try.prog 24 #[u, .int .i64 k] w (ResPost w (resB (frzE y k) (frzB y)) (frzE y k)) := by
  obtain ⟨ca, af, n, M, ov, re, fz⟩ := y
  obtain ⟨v, rfl, hM⟩ := h
  obtain ⟨A, cap, rfl⟩ := hM.len
  replace hM : MsV w (.slice A n cap) n M := hM
  replace hn : n ≤ 1000 := hn
  by_cases hv : vB ⟨ca, af, n, M, ov, re, fz⟩ = 0
  · by_cases hk : insB k 0 1099511627776 = true
    · have e : frzE ⟨ca, af, n, M, ov, re, fz⟩ k = 0 := by unfold frzE; rw [if_neg (by simpa using hv), if_neg (by simp [hk])]
      rw [e]
      have hM2 := hM
      rcases hM with ⟨rfl, A', cap', e1⟩ | ⟨b, off, c, e1, hc, hs⟩
      · cases A with
        | none => exact rfreeze_nil ca af cap M ov re fz k w hM2 (by decide) hv hk
        | some ad => exact rfreeze_some ca af ad 0 cap M ov re fz k w hM2 (by decide) (fun j u hu => by simp [flat] at hu) hv hk
      · cases e1
        exact rfreeze_some ca af ⟨b, off, none⟩ n cap M ov re fz k w hM2 hn (flat_cells (by decide) (mss_row hs)) hv hk
    · have hk : insB k 0 1099511627776 = false := by simpa using hk
      have e : frzE ⟨ca, af, n, M, ov, re, fz⟩ k = 6 := by unfold frzE; rw [if_neg (by simpa using hv), if_pos hk]
      rw [e]
      exact rfreeze_rng ca af A n cap M ov re fz k w hM hn hv hk
  · have e : frzE ⟨ca, af, n, M, ov, re, fz⟩ k = vB ⟨ca, af, n, M, ov, re, fz⟩ := by unfold frzE; rw [if_pos hv]
    rw [e, show resB (vB ⟨ca, af, n, M, ov, re, fz⟩) (frzB ⟨ca, af, n, M, ov, re, fz⟩) = bz from if_neg hv]
    exact rfreeze_bad ca af A n cap M ov re fz k w hM hn _ rfl hv
theorem calls_abs {P : Program} {f : Nat} {args : Array Value} {Q : Ending → World → Prop} {w : World} (S : World → Prop) (h : S w) (k : ∀ W, S W → Calls P f args W Q) : Calls P f args w Q := k w h
set_option maxHeartbeats 6400000 in
theorem law_freeze (ca af : Int) (A : Option Addr) (n cap : Nat) (M : Nat → Ms) (ov re : Int) (fz : Bool) (t : Int) (w : World) (hM : MsV w (.slice A n cap) n M) : Calls Try.prog 4 #[.agg #[.int .i64 ca, .int .i64 af, .slice A n cap, .int .i64 ov, .int .i64 re, .bool fz], .int .i64 t] w fun e w' => e = .returned (.bool true) ∧ New w w' := by
  have HM := Lib.hid hM
  clear hM
  have B0 := Lib.hid (blk_alloc w #[.int .i64 ca, .int .i64 af, .slice A n cap, .int .i64 ov, .int .i64 re, .bool fz] 24 _ rfl)
  go_enter Try.func4, Try.ntmps4
  go_wp2_with fail
  refine (awake_any _).mono ?_
  rintro e w1 ⟨rfl, g1⟩
  have B1 := Lib.hid (B0.out.new g1)
  have M1 := Lib.hid (HM.out.new (New.trans ((new0 w).alloc _) g1))
  have H1 := Lib.hid (show New w w1 from New.trans ((new0 w).alloc _) g1)
  clear g1
  obtain ⟨k0, k1, k2, k3, k4, k5, kf, kz⟩ := B1.out.c6
  by_cases hl : 210 < n
  · have hl' : (210 : Int) < n := by omega
    go_wp2_with fail
    refine (awake_any _).mono ?_
    rintro e w2 ⟨rfl, g2⟩
    have H2 := Lib.hid g2
    clear g2
    go_wp2_with fail
    go_ret
    exact ⟨rfl, by repeat (first | with_reducible exact new0 _ | with_reducible apply New.alloc | with_reducible apply New.drewN | with_reducible apply New.drew | (with_reducible refine New.setCell ?_ (by simp <;> omega) _) | (with_reducible refine New.trans ?_ H2.out) | (with_reducible refine New.trans ?_ H1.out))⟩
  have hl' : ¬ (210 : Int) < n := by omega
  have hn : n ≤ 1000 := by omega
  go_wp2_with fail
  obtain ⟨Y1, hY1⟩ : ∃ z, z = resB (frzE (⟨ca, af, n, M, ov, re, fz⟩ : Bf) t) (frzB (⟨ca, af, n, M, ov, re, fz⟩ : Bf)) := ⟨_, rfl⟩
  obtain ⟨Y2, hY2⟩ : ∃ z, z = resB (rearE (⟨ca, af, n, M, ov, re, fz⟩ : Bf)) (rearB (⟨ca, af, n, M, ov, re, fz⟩ : Bf)) := ⟨_, rfl⟩
  have hn1 : Y1.n ≤ 1000 := by rw [hY1]; exact Nat.le_trans (resB_n _ _) hn
  have hn2 : Y2.n ≤ 1000 := by rw [hY2]; exact Nat.le_trans (resB_n _ _) (Nat.zero_le _)
  have HY1 := Lib.hid hY1
  have HY2 := Lib.hid hY2
  clear hY1 hY2
  refine (copied_any ca af A n cap M ov re fz _ M1.out hn).mono ?_
  rintro e w2 ⟨x2, rfl, b2, g2⟩
  go_wp2_with fail
  have F := freeze_v x2 (⟨ca, af, n, M, ov, re, fz⟩ : Bf) t _ b2 hn
  rw [← HY1.out] at F
  refine F.mono ?_
  clear F
  rintro e w3 ⟨x3, rfl, ⟨v3, rfl, b3⟩, g3⟩
  have Q3 := Lib.hid (g2.trans g3)
  clear g2 g3 b2
  obtain ⟨A3, c3, rfl⟩ := b3.1.len
  have M3 := Lib.hid b3.1
  clear b3
  clear k0 k1 k2 k3 k4 k5 kf kz
  obtain ⟨k0, k1, k2, k3, k4, k5, kf, kz⟩ := (B1.out.new Q3.out).c6
  go_wp2_with fail
  refine calls_abs (fun X => New w3 X ∧ Blk X w3.heap.size #[.int .i64 Y1.ca, .int .i64 Y1.af, .slice A3 Y1.n c3, .int .i64 Y1.ov, .int .i64 Y1.re, .bool Y1.fz]) ⟨by repeat (first | with_reducible exact new0 _ | with_reducible apply New.alloc | with_reducible apply New.drewN | with_reducible apply New.drew | (with_reducible refine New.setCell ?_ (by simp <;> omega) _)), Blk.mk6 (by simp) (by go_light; simp [go_sem]) (by go_light; simp [go_sem]) (by go_light; simp [go_sem]) (by go_light; simp [go_sem]) (by go_light; simp [go_sem]) (by go_light; simp [go_sem]) (fun o => by go_light; simp [go_sem])⟩ ?_
  rintro X3 ⟨n3, s3⟩
  have N3 := Lib.hid (Q3.out.trans n3)
  have S3 := Lib.hid s3
  have M3 := Lib.hid (M3.out.new n3)
  clear n3 s3
  clear k0 k1 k2 k3 k4 k5 kf kz
  obtain ⟨k0, k1, k2, k3, k4, k5, kf, kz⟩ := (B1.out.new N3.out).c6
  have F := rfreeze_v _ (⟨ca, af, n, M, ov, re, fz⟩ : Bf) t X3 ⟨_, rfl, M1.out.new N3.out⟩ hn
  rw [← HY1.out] at F
  refine F.mono ?_
  clear F
  rintro e w4 ⟨x4, rfl, ⟨v4, rfl, b4⟩, g4⟩
  have Q4 := Lib.hid (N3.out.trans g4)
  have S3 := Lib.hid (S3.out.new g4)
  have M3 := Lib.hid (M3.out.new g4)
  clear g4
  obtain ⟨A4, c4, rfl⟩ := b4.1.len
  have M4 := Lib.hid b4.1
  clear b4
  clear k0 k1 k2 k3 k4 k5 kf kz
  obtain ⟨k0, k1, k2, k3, k4, k5, kf, kz⟩ := (B1.out.new Q4.out).c6
  go_wp2_with fail
  refine calls_abs (fun X => New w4 X ∧ Blk X w4.heap.size #[.int .i64 Y1.ca, .int .i64 Y1.af, .slice A4 Y1.n c4, .int .i64 Y1.ov, .int .i64 Y1.re, .bool Y1.fz]) ⟨by repeat (first | with_reducible exact new0 _ | with_reducible apply New.alloc | with_reducible apply New.drewN | with_reducible apply New.drew | (with_reducible refine New.setCell ?_ (by simp <;> omega) _)), Blk.mk6 (by simp) (by go_light; simp [go_sem]) (by go_light; simp [go_sem]) (by go_light; simp [go_sem]) (by go_light; simp [go_sem]) (by go_light; simp [go_sem]) (by go_light; simp [go_sem]) (fun o => by go_light; simp [go_sem])⟩ ?_
  rintro X4 ⟨n4, s4⟩
  have N4 := Lib.hid (Q4.out.trans n4)
  have S4 := Lib.hid s4
  have M4 := Lib.hid (M4.out.new n4)
  have S3 := Lib.hid (S3.out.new n4)
  have M3 := Lib.hid (M3.out.new n4)
  clear n4 s4
  clear k0 k1 k2 k3 k4 k5 kf kz
  obtain ⟨k0, k1, k2, k3, k4, k5, kf, kz⟩ := (B1.out.new N4.out).c6
  refine (copied_any ca af A n cap M ov re fz _ (M1.out.new N4.out) hn).mono ?_
  rintro e w5 ⟨x5, rfl, b5, g5⟩
  go_wp2_with fail
  have F := rearm_v x5 (⟨ca, af, n, M, ov, re, fz⟩ : Bf) _ b5 hn
  rw [← HY2.out] at F
  refine F.mono ?_
  clear F
  rintro e w6 ⟨x6, rfl, ⟨v6, rfl, b6⟩, g6⟩
  have q6 := g5.trans g6
  have Q6 := Lib.hid (N4.out.trans q6)
  have S3 := Lib.hid (S3.out.new q6)
  have M3 := Lib.hid (M3.out.new q6)
  have S4 := Lib.hid (S4.out.new q6)
  have M4 := Lib.hid (M4.out.new q6)
  clear q6 g5 g6 b5
  obtain ⟨A6, c6, rfl⟩ := b6.1.len
  have M6 := Lib.hid b6.1
  clear b6
  clear k0 k1 k2 k3 k4 k5 kf kz
  obtain ⟨k0, k1, k2, k3, k4, k5, kf, kz⟩ := (B1.out.new Q6.out).c6
  go_wp2_with fail
  refine calls_abs (fun X => New w6 X ∧ Blk X w6.heap.size #[.int .i64 Y2.ca, .int .i64 Y2.af, .slice A6 Y2.n c6, .int .i64 Y2.ov, .int .i64 Y2.re, .bool Y2.fz]) ⟨by repeat (first | with_reducible exact new0 _ | with_reducible apply New.alloc | with_reducible apply New.drewN | with_reducible apply New.drew | (with_reducible refine New.setCell ?_ (by simp <;> omega) _)), Blk.mk6 (by simp) (by go_light; simp [go_sem]) (by go_light; simp [go_sem]) (by go_light; simp [go_sem]) (by go_light; simp [go_sem]) (by go_light; simp [go_sem]) (by go_light; simp [go_sem]) (fun o => by go_light; simp [go_sem])⟩ ?_
  rintro X6 ⟨n6, s6⟩
  have N6 := Lib.hid (Q6.out.trans n6)
  have S6 := Lib.hid s6
  have M6 := Lib.hid (M6.out.new n6)
  have S3 := Lib.hid (S3.out.new n6)
  have M3 := Lib.hid (M3.out.new n6)
  have S4 := Lib.hid (S4.out.new n6)
  have M4 := Lib.hid (M4.out.new n6)
  clear n6 s6
  clear k0 k1 k2 k3 k4 k5 kf kz
  obtain ⟨k0, k1, k2, k3, k4, k5, kf, kz⟩ := (B1.out.new N6.out).c6
  have F := rrearm_v _ (⟨ca, af, n, M, ov, re, fz⟩ : Bf) X6 ⟨_, rfl, M1.out.new N6.out⟩ hn
  rw [← HY2.out] at F
  refine F.mono ?_
  clear F
  rintro e w7 ⟨x7, rfl, ⟨v7, rfl, b7⟩, g7⟩
  have Q7 := Lib.hid (N6.out.trans g7)
  have S3 := Lib.hid (S3.out.new g7)
  have M3 := Lib.hid (M3.out.new g7)
  have S4 := Lib.hid (S4.out.new g7)
  have M4 := Lib.hid (M4.out.new g7)
  have S6 := Lib.hid (S6.out.new g7)
  have M6 := Lib.hid (M6.out.new g7)
  clear g7
  obtain ⟨A7, c7, rfl⟩ := b7.1.len
  have M7 := Lib.hid b7.1
  clear b7
  clear k0 k1 k2 k3 k4 k5 kf kz
  obtain ⟨k0, k1, k2, k3, k4, k5, kf, kz⟩ := (B1.out.new Q7.out).c6
  obtain ⟨s0, s1, s2, s3, s4, s5, sf, sz⟩ := S3.out.c6
  obtain ⟨r0, r1, r2, r3, r4, r5, rf, rz⟩ := S4.out.c6
  go_wp2_with fail
  refine calls_abs (fun X => New w7 X ∧ Blk X w7.heap.size #[.int .i64 Y2.ca, .int .i64 Y2.af, .slice A7 Y2.n c7, .int .i64 Y2.ov, .int .i64 Y2.re, .bool Y2.fz]) ⟨by repeat (first | with_reducible exact new0 _ | with_reducible apply New.alloc | with_reducible apply New.drewN | with_reducible apply New.drew | (with_reducible refine New.setCell ?_ (by simp <;> omega) _)), Blk.mk6 (by simp) (by go_light; simp [go_sem]) (by go_light; simp [go_sem]) (by go_light; simp [go_sem]) (by go_light; simp [go_sem]) (by go_light; simp [go_sem]) (by go_light; simp [go_sem]) (fun o => by go_light; simp [go_sem])⟩ ?_
  rintro X7 ⟨n7, s7⟩
  have N7 := Lib.hid (Q7.out.trans n7)
  have S7 := Lib.hid s7
  have M7 := Lib.hid (M7.out.new n7)
  have S3 := Lib.hid (S3.out.new n7)
  have M3 := Lib.hid (M3.out.new n7)
  have S4 := Lib.hid (S4.out.new n7)
  have M4 := Lib.hid (M4.out.new n7)
  have S6 := Lib.hid (S6.out.new n7)
  have M6 := Lib.hid (M6.out.new n7)
  clear n7 s7
  clear k0 k1 k2 k3 k4 k5 kf kz
  obtain ⟨k0, k1, k2, k3, k4, k5, kf, kz⟩ := (B1.out.new N7.out).c6
  clear s0 s1 s2 s3 s4 s5 sf sz r0 r1 r2 r3 r4 r5 rf rz
  refine (sameB_v _ _ Y1.ca Y1.af Y1.n Y1.M Y1.ov Y1.re Y1.fz _ hn1 ⟨_, rfl, M3.out⟩ ⟨_, rfl, M4.out⟩).mono ?_
  rintro e w8 ⟨rfl, g8⟩
  have Q8 := Lib.hid (N7.out.trans g8)
  have M6 := Lib.hid (M6.out.new g8)
  have M7 := Lib.hid (M7.out.new g8)
  obtain ⟨s0, s1, s2, s3, s4, s5, sf, sz⟩ := (S6.out.new g8).c6
  obtain ⟨r0, r1, r2, r3, r4, r5, rf, rz⟩ := (S7.out.new g8).c6
  clear g8
  go_wp2_with fail
  refine (sameB_v _ _ Y2.ca Y2.af Y2.n Y2.M Y2.ov Y2.re Y2.fz _ hn2 ⟨_, rfl, M6.out.new (by repeat (first | with_reducible exact new0 _ | with_reducible apply New.alloc | with_reducible apply New.drewN | with_reducible apply New.drew | (with_reducible refine New.setCell ?_ (by simp <;> omega) _)))⟩ ⟨_, rfl, M7.out.new (by repeat (first | with_reducible exact new0 _ | with_reducible apply New.alloc | with_reducible apply New.drewN | with_reducible apply New.drew | (with_reducible refine New.setCell ?_ (by simp <;> omega) _)))⟩).mono ?_
  rintro e w9 ⟨rfl, g9⟩
  have Q9 := Lib.hid (Q8.out.trans (New.trans (by repeat (first | with_reducible exact new0 _ | with_reducible apply New.alloc | with_reducible apply New.drewN | with_reducible apply New.drew | (with_reducible refine New.setCell ?_ (by simp <;> omega) _))) g9))
  clear g9
  go_wp2_with fail
  go_ret
  exact ⟨by simp, by repeat (first | with_reducible exact new0 _ | with_reducible apply New.alloc | with_reducible apply New.drewN | with_reducible apply New.drew | (with_reducible refine New.setCell ?_ (by simp <;> omega) _) | (with_reducible refine New.trans ?_ Q9.out) | (with_reducible refine New.trans ?_ H1.out))⟩
end Go.Proofs.Ytedbjnojogjnkaa
