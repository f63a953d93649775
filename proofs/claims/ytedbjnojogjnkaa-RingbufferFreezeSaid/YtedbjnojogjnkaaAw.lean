/-
  The chapter's example.
-/
import Derived.Test.YtedbjnojogjnkaaFok
import Derived.Test.YtedbjnojogjnkaaOrds
namespace Go.Proofs.Ytedbjnojogjnkaa
open Go.RowKit
set_option maxHeartbeats 400000 in
theorem at_any (k : Int) (w : World) : Calls Try.prog 39 #[.int .i64 k] w fun e w' => e = .returned (.agg #[.int .i64 k, .int .i64 k, .bool true]) ∧ New w w' := by
  go_enter Try.func39, Try.ntmps39
  go_wp2
  refine bodyPost_ret (v := .agg #[.int .i64 k, .int .i64 k, .bool true]) (by go_light; simp [results, Try.results39, go_sem]) rfl ?_
  exact ⟨rfl, by repeat (first | with_reducible exact new0 _ | with_reducible apply New.alloc | with_reducible apply New.drewN | with_reducible apply New.drew | (with_reducible refine New.setCell ?_ (by simp <;> omega) _))⟩
def aM (k : Int) : Ms := ⟨k, k, true⟩
def ay : Nat → Bf
  | 0 => ⟨3, 1, 0, fun _ => ⟨0, 0, false⟩, 0, -1, false⟩
  | k + 1 => putB (ay k) (aM ((k : Int) + 1))
theorem ay_put (k : Nat) (h : k < 4) : putE (ay k) (aM ((k : Int) + 1)) = 0 := by
  have : k = 0 ∨ k = 1 ∨ k = 2 ∨ k = 3 := by omega
  rcases this with rfl | rfl | rfl | rfl <;> decide +kernel
theorem ay_n (k : Nat) (h : k ≤ 4) : (ay k).n ≤ 1000 := by
  have : k = 0 ∨ k = 1 ∨ k = 2 ∨ k = 3 ∨ k = 4 := by omega
  rcases this with rfl | rfl | rfl | rfl | rfl <;> decide +kernel
-- AWAKE
theorem block_abs {m : Nat} {Q : Exit → Act → World → Prop} {e : Exit} {a : Act} {w : World} (S : World → Prop) (h : S w) (k : ∀ W, S W → Exit.inBlock m Q e a W) : Exit.inBlock m Q e a w := k w h
theorem ay4_ca : (ay 4).ca = 3 := by decide +kernel
theorem ay4_af : (ay 4).af = 1 := by decide +kernel
theorem ay4_n : (ay 4).n = 3 := by decide +kernel
theorem ay4_ov : (ay 4).ov = 1 := by decide +kernel
theorem ay4_re : (ay 4).re = -1 := by decide +kernel
theorem ay4_fz : (ay 4).fz = false := by decide +kernel
theorem ay4_v : vB (ay 4) = 0 := by decide +kernel
theorem ay4_eq : ay 4 = ⟨3, 1, 3, (ay 4).M, 1, -1, false⟩ := by
  conv => lhs; rw [show ay 4 = ⟨(ay 4).ca, (ay 4).af, (ay 4).n, (ay 4).M, (ay 4).ov, (ay 4).re, (ay 4).fz⟩ from rfl, ay4_ca, ay4_af, ay4_n, ay4_ov, ay4_re, ay4_fz]
theorem read_ay (A : Option Addr) (cap : Nat) (w : World) (h : MsV w (.slice A 3 cap) 3 (ay 4).M) : Calls Try.prog 15 #[.agg #[.int .i64 3, .int .i64 1, .slice A 3 cap, .int .i64 1, .int .i64 (-1), .bool false]] w fun e w' => ∃ A' c', e = .returned (.tuple #[.slice A' 3 c', .int .i64 1, .int .i64 0]) ∧ MsN w.heap.size w' (.slice A' 3 c') 3 (ay 4).M ∧ New w w' := by
  refine (read_ok 3 1 A 3 cap (ay 4).M 1 (-1) false w h (by decide) (by rw [← ay4_eq]; exact ay4_v)).mono ?_
  rintro e w' ⟨v, rfl, hv, g⟩
  obtain ⟨A', c', rfl⟩ := hv.1.len
  exact ⟨A', c', rfl, hv, g⟩
theorem frz_ay (A : Option Addr) (cap : Nat) (w : World) (h : MsV w (.slice A 3 cap) 3 (ay 4).M) : Calls Try.prog 23 #[.agg #[.int .i64 3, .int .i64 1, .slice A 3 cap, .int .i64 1, .int .i64 (-1), .bool false], .int .i64 4] w fun e w' => ∃ A' c', e = .returned (.tuple #[.agg #[.int .i64 3, .int .i64 1, .slice A' 3 c', .int .i64 1, .int .i64 1, .bool false], .int .i64 0]) ∧ MsN w.heap.size w' (.slice A' 3 c') 3 (ay 4).M ∧ New w w' := by
  refine (freeze_ok 3 1 A 3 cap (ay 4).M 1 (-1) false 4 w h (by decide) (by rw [← ay4_eq]; exact ay4_v) (by decide)).mono ?_
  rintro e w' ⟨u, rfl, ⟨v, rfl, hv⟩, g⟩
  obtain ⟨A', c', rfl⟩ := hv.1.len
  exact ⟨A', c', rfl, hv, g⟩
/-- The samples behind the second freeze. -/
def M5 : Nat → Ms := snoc 2 (fun j => (ay 4).M (j + 1)) (aM 5)
def b5 : Bf := ⟨3, 1, 3, (ay 4).M, 1, 1, false⟩
def b6 : Bf := ⟨3, 1, 3, M5, 2, 0, true⟩
theorem b5_put : putE b5 (aM 5) = 0 := by decide +kernel
theorem b6_put : putE b6 (aM 6) = 8 := by decide +kernel
theorem b5_b6 : putB b5 (aM 5) = b6 := by rfl
theorem put_b5 (A : Option Addr) (cap : Nat) (w : World) (h : MsV w (.slice A 3 cap) 3 (ay 4).M) : Calls Try.prog 12 #[.agg #[.int .i64 3, .int .i64 1, .slice A 3 cap, .int .i64 1, .int .i64 1, .bool false], .agg #[.int .i64 5, .int .i64 5, .bool true]] w fun e w' => ∃ A' c', e = .returned (.tuple #[.agg #[.int .i64 3, .int .i64 1, .slice A' 3 c', .int .i64 2, .int .i64 0, .bool true], .int .i64 0]) ∧ MsN w.heap.size w' (.slice A' 3 c') 3 M5 ∧ New w w' := by
  refine (put_v _ b5 (aM 5) w ⟨_, rfl, h⟩ (by decide)).mono ?_
  rw [b5_put, b5_b6]
  rintro e w' ⟨u, rfl, ⟨v, rfl, hv⟩, g⟩
  obtain ⟨A', c', rfl⟩ := hv.1.len
  exact ⟨A', c', rfl, hv, g⟩
theorem put_b6 (A : Option Addr) (cap : Nat) (w : World) (h : MsV w (.slice A 3 cap) 3 M5) : Calls Try.prog 12 #[.agg #[.int .i64 3, .int .i64 1, .slice A 3 cap, .int .i64 2, .int .i64 0, .bool true], .agg #[.int .i64 6, .int .i64 6, .bool true]] w fun e w' => ∃ A' c', e = .returned (.tuple #[.agg #[.int .i64 0, .int .i64 0, .slice A' 0 c', .int .i64 0, .int .i64 0, .bool false], .int .i64 8]) ∧ New w w' := by
  refine (put_v _ b6 (aM 6) w ⟨_, rfl, h⟩ (by decide)).mono ?_
  rw [b6_put, show resB 8 (putB b6 (aM 6)) = bz from if_neg (by decide)]
  rintro e w' ⟨u, rfl, ⟨v, rfl, hv⟩, g⟩
  obtain ⟨A', c', rfl⟩ := hv.1.len
  exact ⟨A', c', rfl, g⟩
theorem ms_built (w : World) (M : Nat → Ms) (a b c : Int) (h0 : M 0 = aM a) (h1 : M 1 = aM b) (h2 : M 2 = aM c) : MsV (w.alloc (.cells #[.int .i64 a, .int .i64 a, .bool true, .int .i64 b, .int .i64 b, .bool true, .int .i64 c, .int .i64 c, .bool true] 26)) (.slice (some ⟨w.heap.size, 0, none⟩) 3 3) 3 M := by
  refine .inr ⟨w.heap.size, 0, 3, rfl, by decide, by simp, fun j hj => ?_⟩
  have B := blk_alloc w #[.int .i64 a, .int .i64 a, .bool true, .int .i64 b, .int .i64 b, .bool true, .int .i64 c, .int .i64 c, .bool true] 26 _ rfl
  have hj : j = 0 ∨ j = 1 ∨ j = 2 := by omega
  rcases hj with rfl | rfl | rfl
  · rw [h0]; exact ⟨(B.2.1 0 (by simp)).trans rfl, (B.2.1 1 (by simp)).trans rfl, (B.2.1 2 (by simp)).trans rfl⟩
  · rw [h1]; exact ⟨(B.2.1 3 (by simp)).trans rfl, (B.2.1 4 (by simp)).trans rfl, (B.2.1 5 (by simp)).trans rfl⟩
  · rw [h2]; exact ⟨(B.2.1 6 (by simp)).trans rfl, (B.2.1 7 (by simp)).trans rfl, (B.2.1 8 (by simp)).trans rfl⟩
theorem ay4_0 : (ay 4).M 0 = aM 2 := by rfl
theorem ay4_1 : (ay 4).M 1 = aM 3 := by rfl
theorem ay4_2 : (ay 4).M 2 = aM 4 := by rfl
theorem m5_0 : M5 0 = aM 3 := by rfl
theorem m5_1 : M5 1 = aM 4 := by rfl
theorem m5_2 : M5 2 = aM 5 := by rfl
theorem put_ay (k : Nat) (hk : k < 4) (u : Value) (w : World) (h : BufB w u (ay k)) : Calls Try.prog 12 #[u, .agg #[.int .i64 ((k : Int) + 1), .int .i64 ((k : Int) + 1), .bool true]] w fun e w' => ∃ A cap, e = .returned (.tuple #[.agg #[.int .i64 (ay (k + 1)).ca, .int .i64 (ay (k + 1)).af, .slice A (ay (k + 1)).n cap, .int .i64 (ay (k + 1)).ov, .int .i64 (ay (k + 1)).re, .bool (ay (k + 1)).fz], .int .i64 0]) ∧ MsN w.heap.size w' (.slice A (ay (k + 1)).n cap) (ay (k + 1)).n (ay (k + 1)).M ∧ New w w' := by
  refine (put_v u (ay k) (aM ((k : Int) + 1)) w h (ay_n k (by omega))).mono ?_
  have R : resB (putE (ay k) (aM ((k : Int) + 1))) (putB (ay k) (aM ((k : Int) + 1))) = ay (k + 1) := by rw [ay_put k hk]; rfl
  rw [R, ay_put k hk]
  rintro e w' ⟨u', rfl, ⟨v, rfl, hv⟩, g⟩
  obtain ⟨A, cap, rfl⟩ := hv.1.len
  exact ⟨A, cap, rfl, hv, g⟩
set_option maxHeartbeats 3200000 in
theorem awake_any (w : World) : Calls Try.prog 11 #[] w fun e w' => e = .returned (.bool true) ∧ New w w' := by
  go_enter Try.func11, Try.ntmps11
  go_wp2_with fail
  refine (new_any 3 1 _).mono ?_
  unfold NewPost
  rw [if_pos (show fitB 3 1 = true by decide), if_pos (show fitB 3 1 = true by decide)]
  rintro e w1 ⟨rfl, g1⟩
  have H1 := Lib.hid g1
  have HS := Lib.hid (New.size g1)
  clear g1
  go_wp2_with fail
  go_loopw [2, 3] (fun er i wr => ∃ (k : Nat) (A : Option Addr) (cap : Nat), k ≤ 4 ∧ i = .int .i64 ((k : Int) + 1) ∧ er = .int .i64 0 ∧ Blk wr w1.heap.size #[.int .i64 (ay k).ca, .int .i64 (ay k).af, .slice A (ay k).n cap, .int .i64 (ay k).ov, .int .i64 (ay k).re, .bool (ay k).fz] ∧ MsV wr (.slice A (ay k).n cap) (ay k).n (ay k).M ∧ New w wr) (fun _ i _ => 5 - (intOf i).toNat)
  case atStart => exact ⟨0, none, 0, by omega, rfl, rfl, blk_alloc _ _ _ _ rfl, .inl ⟨rfl, none, 0, rfl⟩, by repeat (first | with_reducible exact new0 _ | with_reducible apply New.alloc | with_reducible apply New.drewN | with_reducible apply New.drew | (with_reducible refine New.setCell ?_ (by simp <;> omega) _) | (with_reducible refine New.trans ?_ H1.out))⟩
  case round =>
    obtain ⟨k, A, cap, hk, rfl, rfl, hB, hM, hN⟩ := hrel
    obtain ⟨k0, k1, k2, k3, k4, k5, kf, kz⟩ := hB.c6
    have HB := Lib.hid hB
    have HM := Lib.hid hM
    have HN := Lib.hid hN
    clear hB hM hN
    by_cases hlt : k < 4
    · have h1 : ((k : Int) + 1 ≤ 4) := by omega
      have ek : IntKind.i64.wrap ((k : Int) + 1 + 1) = ((k + 1 : Nat) : Int) + 1 := by rw [IntWalk.i64_in _ (by omega)]; push_cast; rfl
      have hs0 := HS.out
      go_wp2_with fail
      refine lefts_region (fun X => Blk X w1.heap.size #[.int .i64 (ay k).ca, .int .i64 (ay k).af, .slice A (ay k).n cap, .int .i64 (ay k).ov, .int .i64 (ay k).re, .bool (ay k).fz]) (fun j => decide (5 ≤ j)) (by kernel_rfl) (HB.out.new (by repeat (first | with_reducible exact new0 _ | with_reducible apply New.alloc | with_reducible apply New.drewN | with_reducible apply New.drew | (with_reducible refine New.setCell ?_ (by simp <;> omega) _)))) (fun hHeld => ?_)
      refine lefts_take (fun j => decide (3 ≤ j)) (i := 0) (o := { dst := some 24, op := Op.load 24 (Operand.tmp 1), type := 24, pos := "law.go:19", after := #[], guard := none }) (v := ?va1) rfl (by kernel_rfl) (by kernel_rfl) (by kernel_rfl) (by kernel_rfl) (by kernel_rfl) (by kernel_rfl) (by kernel_rfl) (fun _ _ _ h => h) (Or.inl ⟨by rfl, ?hy1⟩) hHeld ?rest1
      case hy1 => (intro x0 hx0; obtain ⟨t0, t1, t2, t3, t4, t5, tf, tz⟩ := hx0.c6; go_simp; (try with_reducible rfl))
      try simp only [Act.put, List.setIfInBounds_toArray, List.set_cons_zero, List.set_cons_succ]
      refine lefts_take (fun j => decide (2 ≤ j)) (i := 1) (o := { dst := some 25, op := Op.move (Operand.tmp 3), type := 3, pos := "law.go:19", after := #[], guard := none }) (v := ?va2) rfl (by kernel_rfl) (by kernel_rfl) (by kernel_rfl) (by kernel_rfl) (by kernel_rfl) (by kernel_rfl) (by kernel_rfl) (fun _ _ _ h => h) (Or.inl ⟨by rfl, ?hy2⟩) hHeld ?rest2
      case hy2 => (intro x0 hx0; obtain ⟨t0, t1, t2, t3, t4, t5, tf, tz⟩ := hx0.c6; go_simp; (try with_reducible rfl))
      try simp only [Act.put, List.setIfInBounds_toArray, List.set_cons_zero, List.set_cons_succ]
      refine lefts_one (i := 2) rfl (by kernel_rfl) (fun KK hK => ?_)
      go_simp
      refine (at_any _ _).mono ?_
      rintro e w2 ⟨rfl, g2⟩
      have hHeld := (hHeld.new g2)
      refine hK.out _ _ (fun _ => hHeld) ?_
      clear hK KK
      try simp only [Act.put, List.setIfInBounds_toArray, List.set_cons_zero, List.set_cons_succ]
      refine lefts_one (i := 3) rfl (by kernel_rfl) (fun KK hK => ?_)
      go_simp
      refine (put_ay k hlt _ _ ⟨_, rfl, HM.out.new (New.trans ((new0 _).drew) g2)⟩).mono ?_
      rintro e w3 ⟨A3, c3, rfl, m3, g3⟩
      have hHeld := (hHeld.new g3)
      refine hK.out _ _ (fun _ => hHeld) ?_
      clear hK KK
      try simp only [Act.put, List.setIfInBounds_toArray, List.set_cons_zero, List.set_cons_succ]
      refine lefts_one (i := 4) rfl (by kernel_rfl) (fun KK hK => ?_)
      go_simp
      have hHeld := hHeld
      refine hK.out _ _ (fun _ => hHeld) ?_
      clear hK KK
      try simp only [Act.put, List.setIfInBounds_toArray, List.set_cons_zero, List.set_cons_succ]
      refine lefts_free (i := 5) (o := { dst := some 28, op := Op.extract (Operand.tmp 23) 0, type := 24, pos := "law.go:19", after := #[{ on := 4, ground := Ground.data }], guard := none }) (v := ?va3) rfl (by kernel_rfl) (by kernel_rfl) (by kernel_rfl) (by kernel_rfl) (fun _ _ _ h => h) (Or.inl ⟨by rfl, ?hy3⟩) ?rest3
      case hy3 => (intro x0 _; go_simp; (try with_reducible rfl))
      try simp only [Act.put, List.setIfInBounds_toArray, List.set_cons_zero, List.set_cons_succ]
      refine lefts_free (i := 6) (o := { dst := some 29, op := Op.extract (Operand.tmp 23) 1, type := 28, pos := "law.go:19", after := #[{ on := 4, ground := Ground.data }, { on := 7, ground := Ground.gcOnly Departure.lateStores }], guard := none }) (v := ?va4) rfl (by kernel_rfl) (by kernel_rfl) (by kernel_rfl) (by kernel_rfl) (fun _ _ _ h => h) (Or.inl ⟨by rfl, ?hy4⟩) ?rest4
      case hy4 => (intro x0 _; go_simp; (try with_reducible rfl))
      try simp only [Act.put, List.setIfInBounds_toArray, List.set_cons_zero, List.set_cons_succ]
      have hz2 : wr.heap.size ≤ w2.heap.size := New.size (New.trans ((new0 _).drew) g2)
      have hpz : w1.heap.size < w2.heap.size := Nat.lt_of_lt_of_le kz hz2
      have HM3 := Lib.hid m3
      have HN3 := Lib.hid (HN.out.trans (New.trans (New.trans ((new0 _).drew) g2) g3))
      clear k0 k1 k2 k3 k4 k5 kf kz
      obtain ⟨k0, k1, k2, k3, k4, k5, kf, kz⟩ := hHeld.c6
      refine lefts_one (i := 7) rfl (by kernel_rfl) (fun KK hK => ?_)
      go_simp
      refine hK.out _ _ (fun h => absurd h (by decide)) ?_
      clear hK KK
      try simp only [Act.put, List.setIfInBounds_toArray, List.set_cons_zero, List.set_cons_succ]
      refine lefts_one (i := 8) rfl (by kernel_rfl) (fun KK hK => ?_)
      go_simp
      refine hK.out _ _ (fun h => absurd h (by decide)) ?_
      clear hK KK
      try simp only [Act.put, List.setIfInBounds_toArray, List.set_cons_zero, List.set_cons_succ]
      refine lefts_done (by kernel_rfl) ?_
      refine block_abs (fun X => New w X ∧ Blk X w1.heap.size #[.int .i64 (ay (k + 1)).ca, .int .i64 (ay (k + 1)).af, .slice A3 (ay (k + 1)).n c3, .int .i64 (ay (k + 1)).ov, .int .i64 (ay (k + 1)).re, .bool (ay (k + 1)).fz] ∧ MsV X (.slice A3 (ay (k + 1)).n c3) (ay (k + 1)).n (ay (k + 1)).M) ?_ ?_
      · refine ⟨by repeat (first | with_reducible exact new0 _ | with_reducible apply New.alloc | with_reducible apply New.drewN | with_reducible apply New.drew | (with_reducible refine New.setCell ?_ (by simp <;> omega) _) | (with_reducible refine New.trans ?_ HN3.out)), Blk.mk6 (by simp; omega) (by go_light; simp [go_sem, *]) (by go_light; simp [go_sem, *]) (by go_light; simp [go_sem, *]) (by go_light; simp [go_sem, *]) (by go_light; simp [go_sem, *]) (by go_light; simp [go_sem, *]) (fun o => by go_light; simp [go_sem, *]), And.left (b := ∀ (b off c : Nat), Value.slice A3 (ay (k + 1)).n c3 = .slice (some ⟨b, off, none⟩) (ay (k + 1)).n c → 0 < (ay (k + 1)).n → w2.heap.size ≤ b) ?_⟩
        show MsN w2.heap.size _ _ _ _
        repeat (with_reducible refine MsN.set ?_ (by first | (simp; done) | (simp; omega)) _)
        exact HM3.out
      rintro X ⟨nX, bX, mX⟩
      have NX := Lib.hid nX
      have BX := Lib.hid bX
      have MX := Lib.hid mX
      clear nX bX mX k0 k1 k2 k3 k4 k5 kf kz hHeld hs0
      go_wp2_with fail
      go_roundw
      case rel => exact ⟨k + 1, A3, c3, by omega, by first | rfl | (push_cast; rfl), rfl, BX.out, MX.out, NX.out⟩
      case measure => simp [intOf]; omega
    · obtain rfl : k = 4 := by omega
      clear k0 k1 k2 k3 k4 k5 kf kz
      have hB := HB.out
      have hM := HM.out
      rw [ay4_ca, ay4_af, ay4_n, ay4_ov, ay4_re, ay4_fz] at hB
      rw [ay4_n] at hM
      have HB := Lib.hid hB
      have HM := Lib.hid hM
      obtain ⟨k0, k1, k2, k3, k4, k5, kf, kz⟩ := hB.c6
      clear hB hM
      go_wp2_with fail
      refine (read_ay A cap _ (HM.out.new (by repeat (first | with_reducible exact new0 _ | with_reducible apply New.alloc | with_reducible apply New.drewN | with_reducible apply New.drew | (with_reducible refine New.setCell ?_ (by simp <;> omega) _))))).mono ?_
      rintro e w2 ⟨A2, c2, rfl, m2, g2⟩
      have q2 : New wr w2 := New.trans (by repeat (first | with_reducible exact new0 _ | with_reducible apply New.alloc | with_reducible apply New.drewN | with_reducible apply New.drew | (with_reducible refine New.setCell ?_ (by simp <;> omega) _))) g2
      have Q2 := Lib.hid q2
      have hz2 : w1.heap.size < wr.heap.size := kz
      have M2 := Lib.hid (MsN.mono m2 (lo' := wr.heap.size) (Nat.le_refl _))
      clear k0 k1 k2 k3 k4 k5 kf kz
      obtain ⟨k0, k1, k2, k3, k4, k5, kf, kz⟩ := (HB.out.new q2).c6
      clear m2 g2 q2
      have hs0 := HS.out
      go_wp2_with fail
      refine (frz_ay A cap _ (HM.out.new (New.trans Q2.out (by repeat (first | with_reducible exact new0 _ | with_reducible apply New.alloc | with_reducible apply New.drewN | with_reducible apply New.drew | (with_reducible refine New.setCell ?_ (by simp <;> omega) _)))))).mono ?_
      rintro e w3 ⟨A3, c3, rfl, m3, g3⟩
      have q3 : New wr w3 := New.trans Q2.out (New.trans (by repeat (first | with_reducible exact new0 _ | with_reducible apply New.alloc | with_reducible apply New.drewN | with_reducible apply New.drew | (with_reducible refine New.setCell ?_ (by simp <;> omega) _))) g3)
      have q23 : New w2 w3 := New.trans (by repeat (first | with_reducible exact new0 _ | with_reducible apply New.alloc | with_reducible apply New.drewN | with_reducible apply New.drew | (with_reducible refine New.setCell ?_ (by simp <;> omega) _))) g3
      have M2 := Lib.hid (M2.out.new q23)
      have M3 := Lib.hid (MsN.mono m3 (lo' := wr.heap.size) (New.size Q2.out))
      have HN3 := Lib.hid (HN.out.trans q3)
      clear k0 k1 k2 k3 k4 k5 kf kz
      obtain ⟨k0, k1, k2, k3, k4, k5, kf, kz⟩ := (HB.out.new q3).c6
      have hz3 := New.size q3
      clear m3 g3 q3 q23
      go_wp2_with fail
      refine wp_abs (fun X => New w X ∧ wr.heap.size ≤ X.heap.size ∧ Blk X w1.heap.size #[.int .i64 3, .int .i64 1, .slice A3 3 c3, .int .i64 1, .int .i64 1, .bool false] ∧ MsN wr.heap.size X (.slice A3 3 c3) 3 (ay 4).M ∧ MsN wr.heap.size X (.slice A2 3 c2) 3 (ay 4).M) ?_ ?_
      · refine ⟨by repeat (first | with_reducible exact new0 _ | with_reducible apply New.alloc | with_reducible apply New.drewN | with_reducible apply New.drew | (with_reducible refine New.setCell ?_ (by simp <;> omega) _) | (with_reducible refine New.trans ?_ HN3.out)), by simp; omega, Blk.mk6 (by simp; omega) (by go_light; simp [go_sem, *]) (by go_light; simp [go_sem, *]) (by go_light; simp [go_sem, *]) (by go_light; simp [go_sem, *]) (by go_light; simp [go_sem, *]) (by go_light; simp [go_sem, *]) (fun o => by go_light; simp [go_sem, *]), (show MsN wr.heap.size _ (.slice A3 3 c3) 3 (ay 4).M from ?m0), (show MsN wr.heap.size _ (.slice A2 3 c2) 3 (ay 4).M from ?m1)⟩
        case m0 => (repeat (with_reducible refine MsN.set ?_ (by first | (simp; done) | (simp; omega)) _)); exact M3.out
        case m1 => (repeat (with_reducible refine MsN.set ?_ (by first | (simp; done) | (simp; omega)) _)); exact M2.out
      rintro X ⟨nX, sX, bX, mX, m2⟩
      have NX := Lib.hid nX
      have BX := Lib.hid bX
      have MX := Lib.hid mX
      have M2 := Lib.hid m2
      have hx0 : w1.heap.size < X.heap.size := bX.1
      have hx1 : Hid (wr.heap.size ≤ X.heap.size) := Lib.hid sX
      clear nX sX bX mX m2 k0 k1 k2 k3 k4 k5 kf kz
      refine lefts_region (fun X => Blk X w1.heap.size #[.int .i64 3, .int .i64 1, .slice A3 3 c3, .int .i64 1, .int .i64 1, .bool false]) (fun j => decide (4 ≤ j)) (by kernel_rfl) (BX.out.new (by repeat (first | with_reducible exact new0 _ | with_reducible apply New.alloc | with_reducible apply New.drewN | with_reducible apply New.drew | (with_reducible refine New.setCell ?_ (by simp <;> omega) _)))) (fun hHeld => ?_)
      refine lefts_take (fun j => decide (2 ≤ j)) (i := 0) (o := { dst := some 42, op := Op.load 24 (Operand.tmp 1), type := 24, pos := "law.go:23", after := #[], guard := none }) (v := ?va5) rfl (by kernel_rfl) (by kernel_rfl) (by kernel_rfl) (by kernel_rfl) (by kernel_rfl) (by kernel_rfl) (by kernel_rfl) (fun _ _ _ h => h) (Or.inl ⟨by rfl, ?hy5⟩) hHeld ?rest5
      case hy5 => (intro x0 hx0; obtain ⟨t0, t1, t2, t3, t4, t5, tf, tz⟩ := hx0.c6; go_simp; (try with_reducible rfl))
      try simp only [Act.put, List.setIfInBounds_toArray, List.set_cons_zero, List.set_cons_succ]
      refine lefts_one (i := 1) rfl (by kernel_rfl) (fun KK hK => ?_)
      go_simp
      refine (at_any _ _).mono ?_
      rintro e w4 ⟨rfl, g4⟩
      have q4 : New X w4 := New.trans (by repeat (first | with_reducible exact new0 _ | with_reducible apply New.alloc | with_reducible apply New.drewN | with_reducible apply New.drew | (with_reducible refine New.setCell ?_ (by simp <;> omega) _))) g4
      have hHeld := (BX.out.new q4)
      refine hK.out _ _ (fun _ => hHeld) ?_
      clear hK KK
      try simp only [Act.put, List.setIfInBounds_toArray, List.set_cons_zero, List.set_cons_succ]
      refine lefts_one (i := 2) rfl (by kernel_rfl) (fun KK hK => ?_)
      go_simp
      refine (put_b5 A3 c3 _ (MX.out.new q4).1).mono ?_
      rintro e w5 ⟨A5, c5, rfl, m5, g5⟩
      have q5 : New X w5 := q4.trans g5
      have hHeld := (BX.out.new q5)
      refine hK.out _ _ (fun _ => hHeld) ?_
      clear hK KK
      try simp only [Act.put, List.setIfInBounds_toArray, List.set_cons_zero, List.set_cons_succ]
      refine lefts_one (i := 3) rfl (by kernel_rfl) (fun KK hK => ?_)
      go_simp
      have hHeld := hHeld
      refine hK.out _ _ (fun _ => hHeld) ?_
      clear hK KK
      try simp only [Act.put, List.setIfInBounds_toArray, List.set_cons_zero, List.set_cons_succ]
      refine lefts_free (i := 4) (o := { dst := some 45, op := Op.extract (Operand.tmp 41) 0, type := 24, pos := "law.go:23", after := #[{ on := 3, ground := Ground.data }], guard := none }) (v := ?va6) rfl (by kernel_rfl) (by kernel_rfl) (by kernel_rfl) (by kernel_rfl) (fun _ _ _ h => h) (Or.inl ⟨by rfl, ?hy6⟩) ?rest6
      case hy6 => (intro x0 _; go_simp; (try with_reducible rfl))
      try simp only [Act.put, List.setIfInBounds_toArray, List.set_cons_zero, List.set_cons_succ]
      refine lefts_free (i := 5) (o := { dst := some 46, op := Op.extract (Operand.tmp 41) 1, type := 28, pos := "law.go:23", after := #[{ on := 3, ground := Ground.data }, { on := 6, ground := Ground.gcOnly Departure.lateStores }], guard := none }) (v := ?va7) rfl (by kernel_rfl) (by kernel_rfl) (by kernel_rfl) (by kernel_rfl) (fun _ _ _ h => h) (Or.inl ⟨by rfl, ?hy7⟩) ?rest7
      case hy7 => (intro x0 _; go_simp; (try with_reducible rfl))
      try simp only [Act.put, List.setIfInBounds_toArray, List.set_cons_zero, List.set_cons_succ]
      have M5' := Lib.hid (MsN.mono m5 (show wr.heap.size ≤ w4.heap.size from Nat.le_trans hx1.out (New.size q4)))
      have M2 := Lib.hid (M2.out.new q5)
      have HN5 := Lib.hid (NX.out.trans q5)
      have hz5 : wr.heap.size ≤ w5.heap.size := Nat.le_trans hx1.out (New.size q5)
      clear m5 g5 q5 q4 g4
      obtain ⟨k0, k1, k2, k3, k4, k5, kf, kz⟩ := hHeld.c6
      refine lefts_one (i := 6) rfl (by kernel_rfl) (fun KK hK => ?_)
      go_simp
      refine hK.out _ _ (fun h => absurd h (by decide)) ?_
      clear hK KK
      try simp only [Act.put, List.setIfInBounds_toArray, List.set_cons_zero, List.set_cons_succ]
      refine lefts_one (i := 7) rfl (by kernel_rfl) (fun KK hK => ?_)
      go_simp
      refine hK.out _ _ (fun h => absurd h (by decide)) ?_
      clear hK KK
      try simp only [Act.put, List.setIfInBounds_toArray, List.set_cons_zero, List.set_cons_succ]
      refine lefts_done (by kernel_rfl) ?_
      refine then_abs (fun X => New w X ∧ wr.heap.size ≤ X.heap.size ∧ Blk X w1.heap.size #[.int .i64 3, .int .i64 1, .slice A5 3 c5, .int .i64 2, .int .i64 0, .bool true] ∧ MsN wr.heap.size X (.slice A5 3 c5) 3 M5 ∧ MsN wr.heap.size X (.slice A2 3 c2) 3 (ay 4).M) ?_ ?_
      · refine ⟨by repeat (first | with_reducible exact new0 _ | with_reducible apply New.alloc | with_reducible apply New.drewN | with_reducible apply New.drew | (with_reducible refine New.setCell ?_ (by simp <;> omega) _) | (with_reducible refine New.trans ?_ HN5.out)), by simp; omega, Blk.mk6 (by simp; omega) (by go_light; simp [go_sem, *]) (by go_light; simp [go_sem, *]) (by go_light; simp [go_sem, *]) (by go_light; simp [go_sem, *]) (by go_light; simp [go_sem, *]) (by go_light; simp [go_sem, *]) (fun o => by go_light; simp [go_sem, *]), (show MsN wr.heap.size _ (.slice A5 3 c5) 3 M5 from ?m0), (show MsN wr.heap.size _ (.slice A2 3 c2) 3 (ay 4).M from ?m1)⟩
        case m0 => (repeat (with_reducible refine MsN.set ?_ (by first | (simp; done) | (simp; omega)) _)); exact M5'.out
        case m1 => (repeat (with_reducible refine MsN.set ?_ (by first | (simp; done) | (simp; omega)) _)); exact M2.out
      rintro Y ⟨nY, sY, bY, mY, m2⟩
      have NY := Lib.hid nY
      have BY := Lib.hid bY
      have MY := Lib.hid mY
      have M2 := Lib.hid m2
      clear nY sY bY mY m2 k0 k1 k2 k3 k4 k5 kf kz hHeld NX BX MX M3 HN3 HN5 M5' hx0 hx1
      obtain ⟨k0, k1, k2, k3, k4, k5, kf, kz⟩ := BY.out.c6
      go_wp2_with fail
      refine lefts_region (fun X => Blk X w1.heap.size #[.int .i64 3, .int .i64 1, .slice A5 3 c5, .int .i64 2, .int .i64 0, .bool true]) (fun j => decide (3 ≤ j) && j != 6) (by kernel_rfl) (BY.out.new (by repeat (first | with_reducible exact new0 _ | with_reducible apply New.alloc | with_reducible apply New.drewN | with_reducible apply New.drew | (with_reducible refine New.setCell ?_ (by simp <;> omega) _)))) (fun hHeld => ?_)
      refine lefts_take (fun j => decide (2 ≤ j) && j != 6) (i := 0) (o := { dst := some 48, op := Op.load 24 (Operand.tmp 1), type := 24, pos := "law.go:24", after := #[], guard := none }) (v := ?va8) rfl (by kernel_rfl) (by kernel_rfl) (by kernel_rfl) (by kernel_rfl) (by kernel_rfl) (by kernel_rfl) (by kernel_rfl) (fun _ _ _ h => h) (Or.inl ⟨by rfl, ?hy8⟩) hHeld ?rest8
      case hy8 => (intro x0 hx0; obtain ⟨t0, t1, t2, t3, t4, t5, tf, tz⟩ := hx0.c6; go_simp; (try with_reducible rfl))
      try simp only [Act.put, List.setIfInBounds_toArray, List.set_cons_zero, List.set_cons_succ]
      refine lefts_two (i := 1) (j := 6) rfl rfl (by kernel_rfl) (fun KK hK => ?_) (fun KK hK => ?_)
      · skip
        go_simp
        refine (at_any _ _).mono ?_
        rintro e v1 ⟨rfl, g1⟩
        have q1 : New Y v1 := New.trans (by repeat (first | with_reducible exact new0 _ | with_reducible apply New.alloc | with_reducible apply New.drewN | with_reducible apply New.drew | (with_reducible refine New.setCell ?_ (by simp <;> omega) _))) g1
        have hv1 := New.size q1
        have hHeld := (BY.out.new q1)
        refine hK.out _ _ (fun _ => hHeld) ?_
        clear hK KK
        try simp only [Act.put, List.setIfInBounds_toArray, List.set_cons_zero, List.set_cons_succ]
        have QA := Lib.hid q1
        refine lefts_two (i := 2) (j := 6) rfl rfl (by kernel_rfl) (fun KK hK => ?_) (fun KK hK => ?_)
        · skip
          go_simp
          refine (put_b6 A5 c5 _ (MY.out.new QA.out).1).mono ?_
          rintro e v2 ⟨A6, c6, rfl, g2⟩
          have q2 : New Y v2 := New.trans QA.out g2
          have hv2 := New.size q2
          have hHeld := (BY.out.new q2)
          refine hK.out _ _ (fun _ => hHeld) ?_
          clear hK KK
          try simp only [Act.put, List.setIfInBounds_toArray, List.set_cons_zero, List.set_cons_succ]
          have QB := Lib.hid q2
          refine lefts_free (i := 3) (o := { dst := some 47, op := Op.move (Operand.tmp 50), type := 29, pos := "law.go:24", after := #[{ on := 2, ground := Ground.data }], guard := none }) (v := ?va9) rfl (by kernel_rfl) (by kernel_rfl) (by kernel_rfl) (by kernel_rfl) (fun _ _ _ h => h) (Or.inl ⟨by rfl, ?hy9⟩) ?rest9
          case hy9 => (intro x0 _; go_simp; (try with_reducible rfl))
          try simp only [Act.put, List.setIfInBounds_toArray, List.set_cons_zero, List.set_cons_succ]
          refine lefts_free (i := 4) (o := { dst := some 51, op := Op.extract (Operand.tmp 47) 0, type := 24, pos := "law.go:24", after := #[{ on := 3, ground := Ground.data }], guard := none }) (v := ?va10) rfl (by kernel_rfl) (by kernel_rfl) (by kernel_rfl) (by kernel_rfl) (fun _ _ _ h => h) (Or.inl ⟨by rfl, ?hy10⟩) ?rest10
          case hy10 => (intro x0 _; go_simp; (try with_reducible rfl))
          try simp only [Act.put, List.setIfInBounds_toArray, List.set_cons_zero, List.set_cons_succ]
          refine lefts_free (i := 5) (o := { dst := some 52, op := Op.extract (Operand.tmp 47) 1, type := 28, pos := "law.go:24", after := #[{ on := 3, ground := Ground.data }, { on := 7, ground := Ground.gcOnly Departure.lateStores }], guard := none }) (v := ?va11) rfl (by kernel_rfl) (by kernel_rfl) (by kernel_rfl) (by kernel_rfl) (fun _ _ _ h => h) (Or.inl ⟨by rfl, ?hy11⟩) ?rest11
          case hy11 => (intro x0 _; go_simp; (try with_reducible rfl))
          try simp only [Act.put, List.setIfInBounds_toArray, List.set_cons_zero, List.set_cons_succ]
          refine lefts_one (i := 6) rfl (by kernel_rfl) (fun KK hK => ?_)
          go_simp
          have hHeld := (BY.out.new (show New Y (v2.alloc (.cells #[.int .i64 0, .int .i64 0, .slice none 0 0, .int .i64 0, .int .i64 0, .bool false] 24)) from by repeat (first | with_reducible exact new0 _ | with_reducible apply New.alloc | with_reducible apply New.drewN | with_reducible apply New.drew | (with_reducible refine New.setCell ?_ (by simp <;> omega) _) | (with_reducible refine New.trans ?_ QB.out))))
          refine hK.out _ _ (fun _ => hHeld) ?_
          clear hK KK
          try simp only [Act.put, List.setIfInBounds_toArray, List.set_cons_zero, List.set_cons_succ]
          refine lefts_one (i := 7) rfl (by kernel_rfl) (fun KK hK => ?_)
          go_simp
          refine hK.out _ _ (fun h => absurd h (by decide)) ?_
          clear hK KK
          try simp only [Act.put, List.setIfInBounds_toArray, List.set_cons_zero, List.set_cons_succ]
          refine lefts_one (i := 8) rfl (by kernel_rfl) (fun KK hK => ?_)
          go_simp
          refine hK.out _ _ (fun h => absurd h (by decide)) ?_
          clear hK KK
          try simp only [Act.put, List.setIfInBounds_toArray, List.set_cons_zero, List.set_cons_succ]
          refine lefts_done (by kernel_rfl) ?_
          refine then_abs (fun X => New Y X) (by repeat (first | with_reducible exact new0 _ | with_reducible apply New.alloc | with_reducible apply New.drewN | with_reducible apply New.drew | (with_reducible refine New.setCell ?_ (by simp <;> omega) _) | (with_reducible refine New.trans ?_ QB.out))) ?_
          rintro Z nZ
          have NZ := Lib.hid nZ
          have HZ := Lib.hid (NY.out.trans nZ)
          clear q1 QA q2 QB g1 g2 hv1 hv2 hHeld k0 k1 k2 k3 k4 k5 kf kz
          obtain ⟨k0, k1, k2, k3, k4, k5, kf, kz⟩ := (BY.out.new nZ).c6
          have B2 := Lib.hid (BY.out.new nZ)
          clear nZ
          go_wp2_with fail
          refine lefts_region (fun X => Blk X w1.heap.size #[.int .i64 3, .int .i64 1, .slice A5 3 c5, .int .i64 2, .int .i64 0, .bool true]) (fun j => decide (14 ≤ j)) (by kernel_rfl) (B2.out.new (by repeat (first | with_reducible exact new0 _ | with_reducible apply New.alloc | with_reducible apply New.drewN | with_reducible apply New.drew | (with_reducible refine New.setCell ?_ (by simp <;> omega) _)))) (fun hHeld => ?_)
          refine lefts_take (fun j => decide (5 ≤ j)) (i := 0) (o := { dst := some 80, op := Op.move (Operand.tmp 4), type := 22, pos := "law.go:28", after := #[], guard := none }) (v := ?va12) rfl (by kernel_rfl) (by kernel_rfl) (by kernel_rfl) (by kernel_rfl) (by kernel_rfl) (by kernel_rfl) (by kernel_rfl) (fun _ _ _ h => h) (Or.inl ⟨by rfl, ?hy12⟩) hHeld ?rest12
          case hy12 => (intro x0 hx0; obtain ⟨t0, t1, t2, t3, t4, t5, tf, tz⟩ := hx0.c6; go_simp; (try with_reducible rfl))
          try simp only [Act.put, List.setIfInBounds_toArray, List.set_cons_zero, List.set_cons_succ]
          have p0 : New Z Z.drew := by repeat (first | with_reducible exact new0 _ | with_reducible apply New.alloc | with_reducible apply New.drewN | with_reducible apply New.drew | (with_reducible refine New.setCell ?_ (by simp <;> omega) _))
          refine lefts_one (i := 1) rfl (by kernel_rfl) (fun KK hK => ?_)
          go_simp
          refine (at_any _ _).mono ?_
          rintro e z1 ⟨rfl, g1⟩
          have p1 : New Z z1 := p0.trans g1
          have hHeld := (B2.out.new p1)
          refine hK.out _ _ (fun _ => hHeld) ?_
          clear hK KK
          try simp only [Act.put, List.setIfInBounds_toArray, List.set_cons_zero, List.set_cons_succ]
          refine lefts_one (i := 2) rfl (by kernel_rfl) (fun KK hK => ?_)
          go_simp
          refine (at_any _ _).mono ?_
          rintro e z2 ⟨rfl, g2⟩
          have p2 : New Z z2 := p1.trans g2
          have hHeld := (B2.out.new p2)
          refine hK.out _ _ (fun _ => hHeld) ?_
          clear hK KK
          try simp only [Act.put, List.setIfInBounds_toArray, List.set_cons_zero, List.set_cons_succ]
          refine lefts_one (i := 3) rfl (by kernel_rfl) (fun KK hK => ?_)
          go_simp
          refine (at_any _ _).mono ?_
          rintro e z3 ⟨rfl, g3⟩
          have p3 : New Z z3 := p2.trans g3
          have hHeld := (B2.out.new p3)
          refine hK.out _ _ (fun _ => hHeld) ?_
          clear hK KK
          try simp only [Act.put, List.setIfInBounds_toArray, List.set_cons_zero, List.set_cons_succ]
          refine lefts_one (i := 4) rfl (by kernel_rfl) (fun KK hK => ?_)
          go_simp
          have p4 : New Z (z3.alloc (.cells #[.int .i64 2, .int .i64 2, .bool true, .int .i64 3, .int .i64 3, .bool true, .int .i64 4, .int .i64 4, .bool true] 26)) := p3.alloc _
          have hHeld := (B2.out.new p4)
          refine hK.out _ _ (fun _ => hHeld) ?_
          clear hK KK
          try simp only [Act.put, List.setIfInBounds_toArray, List.set_cons_zero, List.set_cons_succ]
          refine lefts_one (i := 5) rfl (by kernel_rfl) (fun KK hK => ?_)
          go_simp
          refine (equal_v _ _ 3 (ay 4).M _ (by decide) ((M2.out.new NZ.out).new p4).1 (ms_built z3 _ 2 3 4 ay4_0 ay4_1 ay4_2)).mono ?_
          rintro e z5 ⟨rfl, g5⟩
          have p5 : New Z z5 := p4.trans g5
          have hHeld := (B2.out.new p5)
          refine hK.out _ _ (fun _ => hHeld) ?_
          clear hK KK
          try simp only [Act.put, List.setIfInBounds_toArray, List.set_cons_zero, List.set_cons_succ]
          refine lefts_one (i := 6) rfl (by kernel_rfl) (fun KK hK => ?_)
          go_simp
          have hHeld := hHeld
          refine hK.out _ _ (fun _ => hHeld) ?_
          clear hK KK
          try simp only [Act.put, List.setIfInBounds_toArray, List.set_cons_zero, List.set_cons_succ]
          refine lefts_take (fun j => j == 8 || decide (13 ≤ j)) (i := 7) (o := { dst := some 87, op := Op.fieldAddr 24 (Operand.tmp 1) 2, type := 0, pos := "law.go:28", after := #[{ on := 6, ground := Ground.guard }], guard := some (6, true) }) (v := ?va13) rfl (by kernel_rfl) (by kernel_rfl) (by kernel_rfl) (by kernel_rfl) (by kernel_rfl) (by kernel_rfl) (by kernel_rfl) (fun _ _ _ h => h) (Or.inl ⟨by rfl, ?hy13⟩) hHeld ?rest13
          case hy13 => (intro x0 hx0; obtain ⟨t0, t1, t2, t3, t4, t5, tf, tz⟩ := hx0.c6; go_simp; (try with_reducible rfl))
          try simp only [Act.put, List.setIfInBounds_toArray, List.set_cons_zero, List.set_cons_succ]
          refine lefts_take (fun j => decide (13 ≤ j)) (i := 8) (o := { dst := some 88, op := Op.load 22 (Operand.tmp 87), type := 22, pos := "law.go:28", after := #[{ on := 7, ground := Ground.data }, { on := 6, ground := Ground.guard }], guard := some (6, true) }) (v := ?va14) rfl (by kernel_rfl) (by kernel_rfl) (by kernel_rfl) (by kernel_rfl) (by kernel_rfl) (by kernel_rfl) (by kernel_rfl) (fun _ _ _ h => h) (Or.inl ⟨by rfl, ?hy14⟩) hHeld ?rest14
          case hy14 => (intro x0 hx0; obtain ⟨t0, t1, t2, t3, t4, t5, tf, tz⟩ := hx0.c6; go_simp; (try with_reducible rfl))
          try simp only [Act.put, List.setIfInBounds_toArray, List.set_cons_zero, List.set_cons_succ]
          refine lefts_one (i := 9) rfl (by kernel_rfl) (fun KK hK => ?_)
          go_simp
          refine (at_any _ _).mono ?_
          rintro e z6 ⟨rfl, g6⟩
          have p6 : New Z z6 := p5.trans g6
          have hHeld := (B2.out.new p6)
          refine hK.out _ _ (fun _ => hHeld) ?_
          clear hK KK
          try simp only [Act.put, List.setIfInBounds_toArray, List.set_cons_zero, List.set_cons_succ]
          refine lefts_one (i := 10) rfl (by kernel_rfl) (fun KK hK => ?_)
          go_simp
          refine (at_any _ _).mono ?_
          rintro e z7 ⟨rfl, g7⟩
          have p7 : New Z z7 := p6.trans g7
          have hHeld := (B2.out.new p7)
          refine hK.out _ _ (fun _ => hHeld) ?_
          clear hK KK
          try simp only [Act.put, List.setIfInBounds_toArray, List.set_cons_zero, List.set_cons_succ]
          refine lefts_one (i := 11) rfl (by kernel_rfl) (fun KK hK => ?_)
          go_simp
          refine (at_any _ _).mono ?_
          rintro e z8 ⟨rfl, g8⟩
          have p8 : New Z z8 := p7.trans g8
          have hHeld := (B2.out.new p8)
          refine hK.out _ _ (fun _ => hHeld) ?_
          clear hK KK
          try simp only [Act.put, List.setIfInBounds_toArray, List.set_cons_zero, List.set_cons_succ]
          refine lefts_one (i := 12) rfl (by kernel_rfl) (fun KK hK => ?_)
          go_simp
          have p9 : New Z (z8.alloc (.cells #[.int .i64 3, .int .i64 3, .bool true, .int .i64 4, .int .i64 4, .bool true, .int .i64 5, .int .i64 5, .bool true] 26)) := p8.alloc _
          have hHeld := (B2.out.new p9)
          refine hK.out _ _ (fun _ => hHeld) ?_
          clear hK KK
          try simp only [Act.put, List.setIfInBounds_toArray, List.set_cons_zero, List.set_cons_succ]
          refine lefts_one (i := 13) rfl (by kernel_rfl) (fun KK hK => ?_)
          go_simp
          refine (equal_v _ _ 3 M5 _ (by decide) ((MY.out.new NZ.out).new p9).1 (ms_built z8 _ 3 4 5 m5_0 m5_1 m5_2)).mono ?_
          rintro e z10 ⟨rfl, g10⟩
          have p10 : New Z z10 := p9.trans g10
          have hHeld := (B2.out.new p10)
          refine hK.out _ _ (fun _ => hHeld) ?_
          clear hK KK
          try simp only [Act.put, List.setIfInBounds_toArray, List.set_cons_zero, List.set_cons_succ]
          refine lefts_one (i := 14) rfl (by kernel_rfl) (fun KK hK => ?_)
          go_simp
          refine hK.out _ _ (fun h => absurd h (by decide)) ?_
          clear hK KK
          try simp only [Act.put, List.setIfInBounds_toArray, List.set_cons_zero, List.set_cons_succ]
          refine lefts_one (i := 15) rfl (by kernel_rfl) (fun KK hK => ?_)
          go_simp
          refine hK.out _ _ (fun h => absurd h (by decide)) ?_
          clear hK KK
          try simp only [Act.put, List.setIfInBounds_toArray, List.set_cons_zero, List.set_cons_succ]
          refine lefts_done (by kernel_rfl) ?_
          have P10 := Lib.hid (HZ.out.trans p10)
          clear p0 p1 p2 p3 p4 p5 p6 p7 p8 p9 p10 g1 g2 g3 g5 g6 g7 g8 g10 hHeld
          go_wp2
          go_ret
          exact ⟨rfl, by repeat (first | with_reducible exact new0 _ | with_reducible apply New.alloc | with_reducible apply New.drewN | with_reducible apply New.drew | (with_reducible refine New.setCell ?_ (by simp <;> omega) _) | (with_reducible refine New.trans ?_ P10.out))⟩
        · skip
          go_simp
          have hHeld := (BY.out.new (show New Y (v1.alloc (.cells #[.int .i64 0, .int .i64 0, .slice none 0 0, .int .i64 0, .int .i64 0, .bool false] 24)) from by repeat (first | with_reducible exact new0 _ | with_reducible apply New.alloc | with_reducible apply New.drewN | with_reducible apply New.drew | (with_reducible refine New.setCell ?_ (by simp <;> omega) _) | (with_reducible refine New.trans ?_ QA.out))))
          refine hK.out _ _ (fun _ => hHeld) ?_
          clear hK KK
          try simp only [Act.put, List.setIfInBounds_toArray, List.set_cons_zero, List.set_cons_succ]
          have QA := Lib.hid (show New Y (v1.alloc (.cells #[.int .i64 0, .int .i64 0, .slice none 0 0, .int .i64 0, .int .i64 0, .bool false] 24)) from q1.alloc _)
          refine lefts_one (i := 2) rfl (by kernel_rfl) (fun KK hK => ?_)
          go_simp
          refine (put_b6 A5 c5 _ (MY.out.new QA.out).1).mono ?_
          rintro e v2 ⟨A6, c6, rfl, g2⟩
          have q2 : New Y v2 := New.trans QA.out g2
          have hv2 := New.size q2
          have hHeld := (BY.out.new q2)
          refine hK.out _ _ (fun _ => hHeld) ?_
          clear hK KK
          try simp only [Act.put, List.setIfInBounds_toArray, List.set_cons_zero, List.set_cons_succ]
          have QB := Lib.hid q2
          obtain ⟨n0, n1, n2, n3, n4, n5, nf, nz⟩ := ((blk_alloc v1 #[.int .i64 0, .int .i64 0, .slice none 0 0, .int .i64 0, .int .i64 0, .bool false] 24 _ rfl).new g2).c6
          refine lefts_free (i := 3) (o := { dst := some 47, op := Op.move (Operand.tmp 50), type := 29, pos := "law.go:24", after := #[{ on := 2, ground := Ground.data }], guard := none }) (v := ?va15) rfl (by kernel_rfl) (by kernel_rfl) (by kernel_rfl) (by kernel_rfl) (fun _ _ _ h => h) (Or.inl ⟨by rfl, ?hy15⟩) ?rest15
          case hy15 => (intro x0 _; go_simp; (try with_reducible rfl))
          try simp only [Act.put, List.setIfInBounds_toArray, List.set_cons_zero, List.set_cons_succ]
          refine lefts_free (i := 4) (o := { dst := some 51, op := Op.extract (Operand.tmp 47) 0, type := 24, pos := "law.go:24", after := #[{ on := 3, ground := Ground.data }], guard := none }) (v := ?va16) rfl (by kernel_rfl) (by kernel_rfl) (by kernel_rfl) (by kernel_rfl) (fun _ _ _ h => h) (Or.inl ⟨by rfl, ?hy16⟩) ?rest16
          case hy16 => (intro x0 _; go_simp; (try with_reducible rfl))
          try simp only [Act.put, List.setIfInBounds_toArray, List.set_cons_zero, List.set_cons_succ]
          refine lefts_free (i := 5) (o := { dst := some 52, op := Op.extract (Operand.tmp 47) 1, type := 28, pos := "law.go:24", after := #[{ on := 3, ground := Ground.data }, { on := 7, ground := Ground.gcOnly Departure.lateStores }], guard := none }) (v := ?va17) rfl (by kernel_rfl) (by kernel_rfl) (by kernel_rfl) (by kernel_rfl) (fun _ _ _ h => h) (Or.inl ⟨by rfl, ?hy17⟩) ?rest17
          case hy17 => (intro x0 _; go_simp; (try with_reducible rfl))
          try simp only [Act.put, List.setIfInBounds_toArray, List.set_cons_zero, List.set_cons_succ]
          refine lefts_one (i := 7) rfl (by kernel_rfl) (fun KK hK => ?_)
          go_simp
          refine hK.out _ _ (fun h => absurd h (by decide)) ?_
          clear hK KK
          try simp only [Act.put, List.setIfInBounds_toArray, List.set_cons_zero, List.set_cons_succ]
          refine lefts_one (i := 8) rfl (by kernel_rfl) (fun KK hK => ?_)
          go_simp
          refine hK.out _ _ (fun h => absurd h (by decide)) ?_
          clear hK KK
          try simp only [Act.put, List.setIfInBounds_toArray, List.set_cons_zero, List.set_cons_succ]
          refine lefts_done (by kernel_rfl) ?_
          refine then_abs (fun X => New Y X) (by repeat (first | with_reducible exact new0 _ | with_reducible apply New.alloc | with_reducible apply New.drewN | with_reducible apply New.drew | (with_reducible refine New.setCell ?_ (by simp <;> omega) _) | (with_reducible refine New.trans ?_ QB.out))) ?_
          rintro Z nZ
          have NZ := Lib.hid nZ
          have HZ := Lib.hid (NY.out.trans nZ)
          clear q1 QA q2 QB g1 g2 hv1 hv2 hHeld n0 n1 n2 n3 n4 n5 nf nz k0 k1 k2 k3 k4 k5 kf kz
          obtain ⟨k0, k1, k2, k3, k4, k5, kf, kz⟩ := (BY.out.new nZ).c6
          have B2 := Lib.hid (BY.out.new nZ)
          clear nZ
          go_wp2_with fail
          refine lefts_region (fun X => Blk X w1.heap.size #[.int .i64 3, .int .i64 1, .slice A5 3 c5, .int .i64 2, .int .i64 0, .bool true]) (fun j => decide (14 ≤ j)) (by kernel_rfl) (B2.out.new (by repeat (first | with_reducible exact new0 _ | with_reducible apply New.alloc | with_reducible apply New.drewN | with_reducible apply New.drew | (with_reducible refine New.setCell ?_ (by simp <;> omega) _)))) (fun hHeld => ?_)
          refine lefts_take (fun j => decide (5 ≤ j)) (i := 0) (o := { dst := some 80, op := Op.move (Operand.tmp 4), type := 22, pos := "law.go:28", after := #[], guard := none }) (v := ?va18) rfl (by kernel_rfl) (by kernel_rfl) (by kernel_rfl) (by kernel_rfl) (by kernel_rfl) (by kernel_rfl) (by kernel_rfl) (fun _ _ _ h => h) (Or.inl ⟨by rfl, ?hy18⟩) hHeld ?rest18
          case hy18 => (intro x0 hx0; obtain ⟨t0, t1, t2, t3, t4, t5, tf, tz⟩ := hx0.c6; go_simp; (try with_reducible rfl))
          try simp only [Act.put, List.setIfInBounds_toArray, List.set_cons_zero, List.set_cons_succ]
          have p0 : New Z Z.drew := by repeat (first | with_reducible exact new0 _ | with_reducible apply New.alloc | with_reducible apply New.drewN | with_reducible apply New.drew | (with_reducible refine New.setCell ?_ (by simp <;> omega) _))
          refine lefts_one (i := 1) rfl (by kernel_rfl) (fun KK hK => ?_)
          go_simp
          refine (at_any _ _).mono ?_
          rintro e z1 ⟨rfl, g1⟩
          have p1 : New Z z1 := p0.trans g1
          have hHeld := (B2.out.new p1)
          refine hK.out _ _ (fun _ => hHeld) ?_
          clear hK KK
          try simp only [Act.put, List.setIfInBounds_toArray, List.set_cons_zero, List.set_cons_succ]
          refine lefts_one (i := 2) rfl (by kernel_rfl) (fun KK hK => ?_)
          go_simp
          refine (at_any _ _).mono ?_
          rintro e z2 ⟨rfl, g2⟩
          have p2 : New Z z2 := p1.trans g2
          have hHeld := (B2.out.new p2)
          refine hK.out _ _ (fun _ => hHeld) ?_
          clear hK KK
          try simp only [Act.put, List.setIfInBounds_toArray, List.set_cons_zero, List.set_cons_succ]
          refine lefts_one (i := 3) rfl (by kernel_rfl) (fun KK hK => ?_)
          go_simp
          refine (at_any _ _).mono ?_
          rintro e z3 ⟨rfl, g3⟩
          have p3 : New Z z3 := p2.trans g3
          have hHeld := (B2.out.new p3)
          refine hK.out _ _ (fun _ => hHeld) ?_
          clear hK KK
          try simp only [Act.put, List.setIfInBounds_toArray, List.set_cons_zero, List.set_cons_succ]
          refine lefts_one (i := 4) rfl (by kernel_rfl) (fun KK hK => ?_)
          go_simp
          have p4 : New Z (z3.alloc (.cells #[.int .i64 2, .int .i64 2, .bool true, .int .i64 3, .int .i64 3, .bool true, .int .i64 4, .int .i64 4, .bool true] 26)) := p3.alloc _
          have hHeld := (B2.out.new p4)
          refine hK.out _ _ (fun _ => hHeld) ?_
          clear hK KK
          try simp only [Act.put, List.setIfInBounds_toArray, List.set_cons_zero, List.set_cons_succ]
          refine lefts_one (i := 5) rfl (by kernel_rfl) (fun KK hK => ?_)
          go_simp
          refine (equal_v _ _ 3 (ay 4).M _ (by decide) ((M2.out.new NZ.out).new p4).1 (ms_built z3 _ 2 3 4 ay4_0 ay4_1 ay4_2)).mono ?_
          rintro e z5 ⟨rfl, g5⟩
          have p5 : New Z z5 := p4.trans g5
          have hHeld := (B2.out.new p5)
          refine hK.out _ _ (fun _ => hHeld) ?_
          clear hK KK
          try simp only [Act.put, List.setIfInBounds_toArray, List.set_cons_zero, List.set_cons_succ]
          refine lefts_one (i := 6) rfl (by kernel_rfl) (fun KK hK => ?_)
          go_simp
          have hHeld := hHeld
          refine hK.out _ _ (fun _ => hHeld) ?_
          clear hK KK
          try simp only [Act.put, List.setIfInBounds_toArray, List.set_cons_zero, List.set_cons_succ]
          refine lefts_take (fun j => j == 8 || decide (13 ≤ j)) (i := 7) (o := { dst := some 87, op := Op.fieldAddr 24 (Operand.tmp 1) 2, type := 0, pos := "law.go:28", after := #[{ on := 6, ground := Ground.guard }], guard := some (6, true) }) (v := ?va19) rfl (by kernel_rfl) (by kernel_rfl) (by kernel_rfl) (by kernel_rfl) (by kernel_rfl) (by kernel_rfl) (by kernel_rfl) (fun _ _ _ h => h) (Or.inl ⟨by rfl, ?hy19⟩) hHeld ?rest19
          case hy19 => (intro x0 hx0; obtain ⟨t0, t1, t2, t3, t4, t5, tf, tz⟩ := hx0.c6; go_simp; (try with_reducible rfl))
          try simp only [Act.put, List.setIfInBounds_toArray, List.set_cons_zero, List.set_cons_succ]
          refine lefts_take (fun j => decide (13 ≤ j)) (i := 8) (o := { dst := some 88, op := Op.load 22 (Operand.tmp 87), type := 22, pos := "law.go:28", after := #[{ on := 7, ground := Ground.data }, { on := 6, ground := Ground.guard }], guard := some (6, true) }) (v := ?va20) rfl (by kernel_rfl) (by kernel_rfl) (by kernel_rfl) (by kernel_rfl) (by kernel_rfl) (by kernel_rfl) (by kernel_rfl) (fun _ _ _ h => h) (Or.inl ⟨by rfl, ?hy20⟩) hHeld ?rest20
          case hy20 => (intro x0 hx0; obtain ⟨t0, t1, t2, t3, t4, t5, tf, tz⟩ := hx0.c6; go_simp; (try with_reducible rfl))
          try simp only [Act.put, List.setIfInBounds_toArray, List.set_cons_zero, List.set_cons_succ]
          refine lefts_one (i := 9) rfl (by kernel_rfl) (fun KK hK => ?_)
          go_simp
          refine (at_any _ _).mono ?_
          rintro e z6 ⟨rfl, g6⟩
          have p6 : New Z z6 := p5.trans g6
          have hHeld := (B2.out.new p6)
          refine hK.out _ _ (fun _ => hHeld) ?_
          clear hK KK
          try simp only [Act.put, List.setIfInBounds_toArray, List.set_cons_zero, List.set_cons_succ]
          refine lefts_one (i := 10) rfl (by kernel_rfl) (fun KK hK => ?_)
          go_simp
          refine (at_any _ _).mono ?_
          rintro e z7 ⟨rfl, g7⟩
          have p7 : New Z z7 := p6.trans g7
          have hHeld := (B2.out.new p7)
          refine hK.out _ _ (fun _ => hHeld) ?_
          clear hK KK
          try simp only [Act.put, List.setIfInBounds_toArray, List.set_cons_zero, List.set_cons_succ]
          refine lefts_one (i := 11) rfl (by kernel_rfl) (fun KK hK => ?_)
          go_simp
          refine (at_any _ _).mono ?_
          rintro e z8 ⟨rfl, g8⟩
          have p8 : New Z z8 := p7.trans g8
          have hHeld := (B2.out.new p8)
          refine hK.out _ _ (fun _ => hHeld) ?_
          clear hK KK
          try simp only [Act.put, List.setIfInBounds_toArray, List.set_cons_zero, List.set_cons_succ]
          refine lefts_one (i := 12) rfl (by kernel_rfl) (fun KK hK => ?_)
          go_simp
          have p9 : New Z (z8.alloc (.cells #[.int .i64 3, .int .i64 3, .bool true, .int .i64 4, .int .i64 4, .bool true, .int .i64 5, .int .i64 5, .bool true] 26)) := p8.alloc _
          have hHeld := (B2.out.new p9)
          refine hK.out _ _ (fun _ => hHeld) ?_
          clear hK KK
          try simp only [Act.put, List.setIfInBounds_toArray, List.set_cons_zero, List.set_cons_succ]
          refine lefts_one (i := 13) rfl (by kernel_rfl) (fun KK hK => ?_)
          go_simp
          refine (equal_v _ _ 3 M5 _ (by decide) ((MY.out.new NZ.out).new p9).1 (ms_built z8 _ 3 4 5 m5_0 m5_1 m5_2)).mono ?_
          rintro e z10 ⟨rfl, g10⟩
          have p10 : New Z z10 := p9.trans g10
          have hHeld := (B2.out.new p10)
          refine hK.out _ _ (fun _ => hHeld) ?_
          clear hK KK
          try simp only [Act.put, List.setIfInBounds_toArray, List.set_cons_zero, List.set_cons_succ]
          refine lefts_one (i := 14) rfl (by kernel_rfl) (fun KK hK => ?_)
          go_simp
          refine hK.out _ _ (fun h => absurd h (by decide)) ?_
          clear hK KK
          try simp only [Act.put, List.setIfInBounds_toArray, List.set_cons_zero, List.set_cons_succ]
          refine lefts_one (i := 15) rfl (by kernel_rfl) (fun KK hK => ?_)
          go_simp
          refine hK.out _ _ (fun h => absurd h (by decide)) ?_
          clear hK KK
          try simp only [Act.put, List.setIfInBounds_toArray, List.set_cons_zero, List.set_cons_succ]
          refine lefts_done (by kernel_rfl) ?_
          have P10 := Lib.hid (HZ.out.trans p10)
          clear p0 p1 p2 p3 p4 p5 p6 p7 p8 p9 p10 g1 g2 g3 g5 g6 g7 g8 g10 hHeld
          go_wp2
          go_ret
          exact ⟨rfl, by repeat (first | with_reducible exact new0 _ | with_reducible apply New.alloc | with_reducible apply New.drewN | with_reducible apply New.drew | (with_reducible refine New.setCell ?_ (by simp <;> omega) _) | (with_reducible refine New.trans ?_ P10.out))⟩
      · skip
        go_simp
        have hHeld := (BY.out.new (show New Y (Y.drew.alloc (.cells #[.int .i64 0, .int .i64 0, .slice none 0 0, .int .i64 0, .int .i64 0, .bool false] 24)) from by repeat (first | with_reducible exact new0 _ | with_reducible apply New.alloc | with_reducible apply New.drewN | with_reducible apply New.drew | (with_reducible refine New.setCell ?_ (by simp <;> omega) _))))
        refine hK.out _ _ (fun _ => hHeld) ?_
        clear hK KK
        try simp only [Act.put, List.setIfInBounds_toArray, List.set_cons_zero, List.set_cons_succ]
        refine lefts_one (i := 1) rfl (by kernel_rfl) (fun KK hK => ?_)
        go_simp
        refine (at_any _ _).mono ?_
        rintro e v1 ⟨rfl, g1⟩
        have q1 : New Y v1 := New.trans (by repeat (first | with_reducible exact new0 _ | with_reducible apply New.alloc | with_reducible apply New.drewN | with_reducible apply New.drew | (with_reducible refine New.setCell ?_ (by simp <;> omega) _))) g1
        have hv1 := New.size q1
        have hHeld := (BY.out.new q1)
        refine hK.out _ _ (fun _ => hHeld) ?_
        clear hK KK
        try simp only [Act.put, List.setIfInBounds_toArray, List.set_cons_zero, List.set_cons_succ]
        have QA := Lib.hid q1
        refine lefts_one (i := 2) rfl (by kernel_rfl) (fun KK hK => ?_)
        go_simp
        refine (put_b6 A5 c5 _ (MY.out.new QA.out).1).mono ?_
        rintro e v2 ⟨A6, c6, rfl, g2⟩
        have q2 : New Y v2 := New.trans QA.out g2
        have hv2 := New.size q2
        have hHeld := (BY.out.new q2)
        refine hK.out _ _ (fun _ => hHeld) ?_
        clear hK KK
        try simp only [Act.put, List.setIfInBounds_toArray, List.set_cons_zero, List.set_cons_succ]
        have QB := Lib.hid q2
        obtain ⟨n0, n1, n2, n3, n4, n5, nf, nz⟩ := ((blk_alloc Y.drew #[.int .i64 0, .int .i64 0, .slice none 0 0, .int .i64 0, .int .i64 0, .bool false] 24 Y.heap.size (by simp)).new (New.trans g1 g2)).c6
        refine lefts_free (i := 3) (o := { dst := some 47, op := Op.move (Operand.tmp 50), type := 29, pos := "law.go:24", after := #[{ on := 2, ground := Ground.data }], guard := none }) (v := ?va21) rfl (by kernel_rfl) (by kernel_rfl) (by kernel_rfl) (by kernel_rfl) (fun _ _ _ h => h) (Or.inl ⟨by rfl, ?hy21⟩) ?rest21
        case hy21 => (intro x0 _; go_simp; (try with_reducible rfl))
        try simp only [Act.put, List.setIfInBounds_toArray, List.set_cons_zero, List.set_cons_succ]
        refine lefts_free (i := 4) (o := { dst := some 51, op := Op.extract (Operand.tmp 47) 0, type := 24, pos := "law.go:24", after := #[{ on := 3, ground := Ground.data }], guard := none }) (v := ?va22) rfl (by kernel_rfl) (by kernel_rfl) (by kernel_rfl) (by kernel_rfl) (fun _ _ _ h => h) (Or.inl ⟨by rfl, ?hy22⟩) ?rest22
        case hy22 => (intro x0 _; go_simp; (try with_reducible rfl))
        try simp only [Act.put, List.setIfInBounds_toArray, List.set_cons_zero, List.set_cons_succ]
        refine lefts_free (i := 5) (o := { dst := some 52, op := Op.extract (Operand.tmp 47) 1, type := 28, pos := "law.go:24", after := #[{ on := 3, ground := Ground.data }, { on := 7, ground := Ground.gcOnly Departure.lateStores }], guard := none }) (v := ?va23) rfl (by kernel_rfl) (by kernel_rfl) (by kernel_rfl) (by kernel_rfl) (fun _ _ _ h => h) (Or.inl ⟨by rfl, ?hy23⟩) ?rest23
        case hy23 => (intro x0 _; go_simp; (try with_reducible rfl))
        try simp only [Act.put, List.setIfInBounds_toArray, List.set_cons_zero, List.set_cons_succ]
        refine lefts_one (i := 7) rfl (by kernel_rfl) (fun KK hK => ?_)
        go_simp
        refine hK.out _ _ (fun h => absurd h (by decide)) ?_
        clear hK KK
        try simp only [Act.put, List.setIfInBounds_toArray, List.set_cons_zero, List.set_cons_succ]
        refine lefts_one (i := 8) rfl (by kernel_rfl) (fun KK hK => ?_)
        go_simp
        refine hK.out _ _ (fun h => absurd h (by decide)) ?_
        clear hK KK
        try simp only [Act.put, List.setIfInBounds_toArray, List.set_cons_zero, List.set_cons_succ]
        refine lefts_done (by kernel_rfl) ?_
        refine then_abs (fun X => New Y X) (by repeat (first | with_reducible exact new0 _ | with_reducible apply New.alloc | with_reducible apply New.drewN | with_reducible apply New.drew | (with_reducible refine New.setCell ?_ (by simp <;> omega) _) | (with_reducible refine New.trans ?_ QB.out))) ?_
        rintro Z nZ
        have NZ := Lib.hid nZ
        have HZ := Lib.hid (NY.out.trans nZ)
        clear q1 QA q2 QB g1 g2 hv1 hv2 hHeld n0 n1 n2 n3 n4 n5 nf nz k0 k1 k2 k3 k4 k5 kf kz
        obtain ⟨k0, k1, k2, k3, k4, k5, kf, kz⟩ := (BY.out.new nZ).c6
        have B2 := Lib.hid (BY.out.new nZ)
        clear nZ
        go_wp2_with fail
        refine lefts_region (fun X => Blk X w1.heap.size #[.int .i64 3, .int .i64 1, .slice A5 3 c5, .int .i64 2, .int .i64 0, .bool true]) (fun j => decide (14 ≤ j)) (by kernel_rfl) (B2.out.new (by repeat (first | with_reducible exact new0 _ | with_reducible apply New.alloc | with_reducible apply New.drewN | with_reducible apply New.drew | (with_reducible refine New.setCell ?_ (by simp <;> omega) _)))) (fun hHeld => ?_)
        refine lefts_take (fun j => decide (5 ≤ j)) (i := 0) (o := { dst := some 80, op := Op.move (Operand.tmp 4), type := 22, pos := "law.go:28", after := #[], guard := none }) (v := ?va24) rfl (by kernel_rfl) (by kernel_rfl) (by kernel_rfl) (by kernel_rfl) (by kernel_rfl) (by kernel_rfl) (by kernel_rfl) (fun _ _ _ h => h) (Or.inl ⟨by rfl, ?hy24⟩) hHeld ?rest24
        case hy24 => (intro x0 hx0; obtain ⟨t0, t1, t2, t3, t4, t5, tf, tz⟩ := hx0.c6; go_simp; (try with_reducible rfl))
        try simp only [Act.put, List.setIfInBounds_toArray, List.set_cons_zero, List.set_cons_succ]
        have p0 : New Z Z.drew := by repeat (first | with_reducible exact new0 _ | with_reducible apply New.alloc | with_reducible apply New.drewN | with_reducible apply New.drew | (with_reducible refine New.setCell ?_ (by simp <;> omega) _))
        refine lefts_one (i := 1) rfl (by kernel_rfl) (fun KK hK => ?_)
        go_simp
        refine (at_any _ _).mono ?_
        rintro e z1 ⟨rfl, g1⟩
        have p1 : New Z z1 := p0.trans g1
        have hHeld := (B2.out.new p1)
        refine hK.out _ _ (fun _ => hHeld) ?_
        clear hK KK
        try simp only [Act.put, List.setIfInBounds_toArray, List.set_cons_zero, List.set_cons_succ]
        refine lefts_one (i := 2) rfl (by kernel_rfl) (fun KK hK => ?_)
        go_simp
        refine (at_any _ _).mono ?_
        rintro e z2 ⟨rfl, g2⟩
        have p2 : New Z z2 := p1.trans g2
        have hHeld := (B2.out.new p2)
        refine hK.out _ _ (fun _ => hHeld) ?_
        clear hK KK
        try simp only [Act.put, List.setIfInBounds_toArray, List.set_cons_zero, List.set_cons_succ]
        refine lefts_one (i := 3) rfl (by kernel_rfl) (fun KK hK => ?_)
        go_simp
        refine (at_any _ _).mono ?_
        rintro e z3 ⟨rfl, g3⟩
        have p3 : New Z z3 := p2.trans g3
        have hHeld := (B2.out.new p3)
        refine hK.out _ _ (fun _ => hHeld) ?_
        clear hK KK
        try simp only [Act.put, List.setIfInBounds_toArray, List.set_cons_zero, List.set_cons_succ]
        refine lefts_one (i := 4) rfl (by kernel_rfl) (fun KK hK => ?_)
        go_simp
        have p4 : New Z (z3.alloc (.cells #[.int .i64 2, .int .i64 2, .bool true, .int .i64 3, .int .i64 3, .bool true, .int .i64 4, .int .i64 4, .bool true] 26)) := p3.alloc _
        have hHeld := (B2.out.new p4)
        refine hK.out _ _ (fun _ => hHeld) ?_
        clear hK KK
        try simp only [Act.put, List.setIfInBounds_toArray, List.set_cons_zero, List.set_cons_succ]
        refine lefts_one (i := 5) rfl (by kernel_rfl) (fun KK hK => ?_)
        go_simp
        refine (equal_v _ _ 3 (ay 4).M _ (by decide) ((M2.out.new NZ.out).new p4).1 (ms_built z3 _ 2 3 4 ay4_0 ay4_1 ay4_2)).mono ?_
        rintro e z5 ⟨rfl, g5⟩
        have p5 : New Z z5 := p4.trans g5
        have hHeld := (B2.out.new p5)
        refine hK.out _ _ (fun _ => hHeld) ?_
        clear hK KK
        try simp only [Act.put, List.setIfInBounds_toArray, List.set_cons_zero, List.set_cons_succ]
        refine lefts_one (i := 6) rfl (by kernel_rfl) (fun KK hK => ?_)
        go_simp
        have hHeld := hHeld
        refine hK.out _ _ (fun _ => hHeld) ?_
        clear hK KK
        try simp only [Act.put, List.setIfInBounds_toArray, List.set_cons_zero, List.set_cons_succ]
        refine lefts_take (fun j => j == 8 || decide (13 ≤ j)) (i := 7) (o := { dst := some 87, op := Op.fieldAddr 24 (Operand.tmp 1) 2, type := 0, pos := "law.go:28", after := #[{ on := 6, ground := Ground.guard }], guard := some (6, true) }) (v := ?va25) rfl (by kernel_rfl) (by kernel_rfl) (by kernel_rfl) (by kernel_rfl) (by kernel_rfl) (by kernel_rfl) (by kernel_rfl) (fun _ _ _ h => h) (Or.inl ⟨by rfl, ?hy25⟩) hHeld ?rest25
        case hy25 => (intro x0 hx0; obtain ⟨t0, t1, t2, t3, t4, t5, tf, tz⟩ := hx0.c6; go_simp; (try with_reducible rfl))
        try simp only [Act.put, List.setIfInBounds_toArray, List.set_cons_zero, List.set_cons_succ]
        refine lefts_take (fun j => decide (13 ≤ j)) (i := 8) (o := { dst := some 88, op := Op.load 22 (Operand.tmp 87), type := 22, pos := "law.go:28", after := #[{ on := 7, ground := Ground.data }, { on := 6, ground := Ground.guard }], guard := some (6, true) }) (v := ?va26) rfl (by kernel_rfl) (by kernel_rfl) (by kernel_rfl) (by kernel_rfl) (by kernel_rfl) (by kernel_rfl) (by kernel_rfl) (fun _ _ _ h => h) (Or.inl ⟨by rfl, ?hy26⟩) hHeld ?rest26
        case hy26 => (intro x0 hx0; obtain ⟨t0, t1, t2, t3, t4, t5, tf, tz⟩ := hx0.c6; go_simp; (try with_reducible rfl))
        try simp only [Act.put, List.setIfInBounds_toArray, List.set_cons_zero, List.set_cons_succ]
        refine lefts_one (i := 9) rfl (by kernel_rfl) (fun KK hK => ?_)
        go_simp
        refine (at_any _ _).mono ?_
        rintro e z6 ⟨rfl, g6⟩
        have p6 : New Z z6 := p5.trans g6
        have hHeld := (B2.out.new p6)
        refine hK.out _ _ (fun _ => hHeld) ?_
        clear hK KK
        try simp only [Act.put, List.setIfInBounds_toArray, List.set_cons_zero, List.set_cons_succ]
        refine lefts_one (i := 10) rfl (by kernel_rfl) (fun KK hK => ?_)
        go_simp
        refine (at_any _ _).mono ?_
        rintro e z7 ⟨rfl, g7⟩
        have p7 : New Z z7 := p6.trans g7
        have hHeld := (B2.out.new p7)
        refine hK.out _ _ (fun _ => hHeld) ?_
        clear hK KK
        try simp only [Act.put, List.setIfInBounds_toArray, List.set_cons_zero, List.set_cons_succ]
        refine lefts_one (i := 11) rfl (by kernel_rfl) (fun KK hK => ?_)
        go_simp
        refine (at_any _ _).mono ?_
        rintro e z8 ⟨rfl, g8⟩
        have p8 : New Z z8 := p7.trans g8
        have hHeld := (B2.out.new p8)
        refine hK.out _ _ (fun _ => hHeld) ?_
        clear hK KK
        try simp only [Act.put, List.setIfInBounds_toArray, List.set_cons_zero, List.set_cons_succ]
        refine lefts_one (i := 12) rfl (by kernel_rfl) (fun KK hK => ?_)
        go_simp
        have p9 : New Z (z8.alloc (.cells #[.int .i64 3, .int .i64 3, .bool true, .int .i64 4, .int .i64 4, .bool true, .int .i64 5, .int .i64 5, .bool true] 26)) := p8.alloc _
        have hHeld := (B2.out.new p9)
        refine hK.out _ _ (fun _ => hHeld) ?_
        clear hK KK
        try simp only [Act.put, List.setIfInBounds_toArray, List.set_cons_zero, List.set_cons_succ]
        refine lefts_one (i := 13) rfl (by kernel_rfl) (fun KK hK => ?_)
        go_simp
        refine (equal_v _ _ 3 M5 _ (by decide) ((MY.out.new NZ.out).new p9).1 (ms_built z8 _ 3 4 5 m5_0 m5_1 m5_2)).mono ?_
        rintro e z10 ⟨rfl, g10⟩
        have p10 : New Z z10 := p9.trans g10
        have hHeld := (B2.out.new p10)
        refine hK.out _ _ (fun _ => hHeld) ?_
        clear hK KK
        try simp only [Act.put, List.setIfInBounds_toArray, List.set_cons_zero, List.set_cons_succ]
        refine lefts_one (i := 14) rfl (by kernel_rfl) (fun KK hK => ?_)
        go_simp
        refine hK.out _ _ (fun h => absurd h (by decide)) ?_
        clear hK KK
        try simp only [Act.put, List.setIfInBounds_toArray, List.set_cons_zero, List.set_cons_succ]
        refine lefts_one (i := 15) rfl (by kernel_rfl) (fun KK hK => ?_)
        go_simp
        refine hK.out _ _ (fun h => absurd h (by decide)) ?_
        clear hK KK
        try simp only [Act.put, List.setIfInBounds_toArray, List.set_cons_zero, List.set_cons_succ]
        refine lefts_done (by kernel_rfl) ?_
        have P10 := Lib.hid (HZ.out.trans p10)
        clear p0 p1 p2 p3 p4 p5 p6 p7 p8 p9 p10 g1 g2 g3 g5 g6 g7 g8 g10 hHeld
        go_wp2
        go_ret
        exact ⟨rfl, by repeat (first | with_reducible exact new0 _ | with_reducible apply New.alloc | with_reducible apply New.drewN | with_reducible apply New.drew | (with_reducible refine New.setCell ?_ (by simp <;> omega) _) | (with_reducible refine New.trans ?_ P10.out))⟩
end Go.Proofs.Ytedbjnojogjnkaa
