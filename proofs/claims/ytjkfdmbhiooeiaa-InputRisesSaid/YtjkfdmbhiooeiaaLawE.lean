/-
  The statements on runs of descriptions: what they share; InputRises.
-/
import Derived.Test.YtjkfdmbhiooeiaaMade2
namespace Go.Proofs.Ytjkfdmbhiooeiaa
open Go.RowKit
theorem IntV.len {w : World} {v : Value} {l : List Int} (h : IntV w v l) : ∃ (A : Option Addr) (cap : Nat), v = .slice A l.length cap := by
  rcases h with ⟨rfl, A, cap, rfl⟩ | ⟨b, off, cap, rfl, _⟩
  · exact ⟨A, cap, rfl⟩
  · exact ⟨_, cap, rfl⟩
def dS (X : Nat → Int) : Nat → Sm := fun j => smB (X j)
theorem mN_ok : nmB mN = true := by decide +kernel
theorem made_valE {x y z : Int} (hx : 0 ≤ x ∧ x ≤ 255) : valE mN x (1 + y % 5) (1 + z % 5) = 0 := by
  unfold valE
  rw [mN_ok, if_neg (by simp), if_neg]
  unfold insB
  simp only [decide_eq_false_iff_not]
  omega
theorem dS_good {X : Nat → Int} {k : Nat} (h : 0 ≤ X k ∧ X k ≤ 255) : goodK (dS X) k = true := by
  have e : IntKind.i64.wrap (X k / 16) = X k / 16 := IntWalk.i64_in _ (by omega)
  unfold goodK insB dS smB
  simp only [e, decide_eq_true_eq]
  omega
theorem dS_run {w : World} {v : Value} {n : Nat} {X : Nat → Int} (h : BytV w v n X) (hn : n ≤ 1000) : runE 0 (dS X) n = 0 := by
  unfold runE
  rw [if_neg (by simp), if_neg (by omega), if_pos]
  rw [allG_iff]
  intro j hj
  rcases h with ⟨rfl, _⟩ | ⟨b, off, cap, _, hb⟩
  · omega
  · exact dS_good (hb.2 j hj).2
theorem sample_good (nm : ByteArray) (ma ri fa : Int) (s : Sm) (w : World) (hv : valE nm ma ri fa = 0) (hg : insB s.g 0 1099511627776 = true) : Calls Try.prog 12 #[.agg #[.string nm, .int .i64 ma, .int .i64 ri, .int .i64 fa], .agg #[.bool s.a, .bool s.b, .int .i64 s.g, .bool s.v]] w fun e w' => e = .returned (.tuple #[.int .i64 (rawK ma s), .int .i64 0]) ∧ New w w' := by
  have h := sample_any nm ma ri fa s.a s.b s.g s.v w
  rw [hv] at h
  have e1 : samE 0 s.g = 0 := by simp [samE, hg]
  have e2 : samV 0 ma s.a s.b s.g s.v = rawK ma s := by simp [samV, hg, rawK]
  rw [e1, e2] at h
  exact h
theorem delay_good (nm : ByteArray) (ma ri fa : Int) (w : World) (hv : valE nm ma ri fa = 0) : Calls Try.prog 14 #[.agg #[.string nm, .int .i64 ma, .int .i64 ri, .int .i64 fa]] w fun e w' => e = .returned (.tuple #[.int .i64 fa, .int .i64 0]) ∧ New w w' := by
  have h := delay_any nm ma ri fa w
  rw [hv] at h
  simpa [delV] using h
set_option maxHeartbeats 1600000 in
theorem law_rises_long (x y z : Int) (Ad : Option Addr) (n cap : Nat) (w : World) (hn : 100 < n) : Calls Try.prog 8 #[.agg #[.int .u8 x, .int .u8 y, .int .u8 z], .slice Ad n cap] w fun e w' => e = .returned (.bool true) ∧ New w w' := by
  have hn' : (100 : Int) < n := by omega
  go_enter Try.func8, Try.ntmps8
  go_wp2_with fail
  refine (awake_any _).mono ?_
  rintro e w1 ⟨rfl, g1⟩
  have H1 := Lib.hid g1
  clear g1
  go_wp2_with fail
  refine (awake_any _).mono ?_
  rintro e w2 ⟨rfl, g2⟩
  have H2 := Lib.hid g2
  clear g2
  go_wp2_with fail
  go_ret
  exact ⟨rfl, by repeat (first | with_reducible exact new0 _ | with_reducible apply New.alloc | with_reducible apply New.drewN | with_reducible apply New.drew | (with_reducible refine New.setCell ?_ (by simp <;> omega) _) | (with_reducible refine New.trans ?_ H2.out) | (with_reducible refine New.trans ?_ H1.out))⟩
set_option maxHeartbeats 6400000 in
theorem law_rises_few (x y z : Int) (hx : 0 ≤ x ∧ x ≤ 255) (hy : 0 ≤ y ∧ y ≤ 255) (hz : 0 ≤ z ∧ z ≤ 255) (Ad : Option Addr) (n cap : Nat) (X : Nat → Int) (w : World) (hB : BytV w (.slice Ad n cap) n X) (hn : n ≤ 100) : Calls Try.prog 8 #[.agg #[.int .u8 x, .int .u8 y, .int .u8 z], .slice Ad n cap] w fun e w' => e = .returned (.bool true) ∧ New w w' := by
  have hn' : ¬ (100 : Int) < n := by omega
  have hv := made_valE (y := y) (z := z) hx
  have HE := Lib.hid (dS_run hB (by omega))
  have HB := Lib.hid hB
  have HV := Lib.hid hv
  have HX := Lib.hid hx
  have HY := Lib.hid hy
  have HZ := Lib.hid hz
  clear hB hv hx hy hz
  have Z := Lib.hid (blk_alloc w #[.int .u8 x, .int .u8 y, .int .u8 z] 51)
  go_enter Try.func8, Try.ntmps8
  go_wp2_with fail
  refine (awake_any _).mono ?_
  rintro e w1 ⟨rfl, g1⟩
  have Z := Lib.hid (Z.out.new g1)
  have H1 := Lib.hid (show New w w1 from New.trans ((new0 _).alloc _) g1)
  clear g1
  obtain ⟨x0, x1, x2, xf, xz⟩ := Z.out.c3
  go_wp2_with fail
  refine (made_any x y z HX.out HY.out HZ.out _).mono ?_
  rintro e w2 ⟨rfl, g2⟩
  have H2 := Lib.hid (H1.out.trans g2)
  clear g2 x0 x1 x2 xf xz
  go_wp2_with fail
  refine (samples_any _ n X _ (by omega) (HB.out.new H2.out)).mono ?_
  rintro e w3 ⟨v3, rfl, ho3, g3⟩
  have H3 := Lib.hid (H2.out.trans g3)
  have HS3 := Lib.hid (show SmV w3 v3 n (dS X) from own_sm ho3)
  clear ho3 g3
  go_wp2_with fail
  refine (run_is mN x (1 + y % 5) (1 + z % 5) n (dS X) v3 _ (HS3.out.new ((new0 _).alloc _)) (lst x (1 + y % 5) (1 + z % 5) (dS X) n) 0 (by rw [HV.out]; unfold runL; rw [if_pos HE.out]) (by rw [HV.out]; exact HE.out)).mono ?_
  rintro e w4 ⟨v4, rfl, hv4, g4⟩
  have M := Lib.hid ((blk_alloc w3 #[.string mN, .int .i64 x, .int .i64 (1 + y % 5), .int .i64 (1 + z % 5)] 23).new g4)
  have HS4 := Lib.hid ((HS3.out.new ((new0 _).alloc (.cells #[.string mN, .int .i64 x, .int .i64 (1 + y % 5), .int .i64 (1 + z % 5)] 23))).new g4)
  have H4 := Lib.hid (show New w w4 from New.trans (H3.out.alloc _) g4)
  have HV4 := Lib.hid hv4
  obtain ⟨A4, cap4, e4⟩ := hv4.len
  rw [lst_len] at e4
  clear g4 hv4
  rcases HS4.out with ⟨rfl, A3, cap3, rfl⟩ | ⟨b3, off3, cap3, rfl, hs3⟩
  · subst e4
    go_wp2_with fail
    go_loopw [9, 10, 49] (fun _ _ i wr => i = .int .i64 0 ∧ New w wr) (fun _ _ _ _ => 0)
    case atStart => exact ⟨rfl, H4.out⟩
    case round =>
      obtain ⟨rfl, hNw⟩ := hrel
      have HNw := Lib.hid hNw
      clear hNw
      go_wp2
      go_ret
      exact ⟨rfl, HNw.out⟩
  by_cases hn0 : n = 0
  · subst hn0 e4
    go_wp2_with fail
    go_loopw [9, 10, 49] (fun _ _ i wr => i = .int .i64 0 ∧ New w wr) (fun _ _ _ _ => 0)
    case atStart => exact ⟨rfl, H4.out⟩
    case round =>
      obtain ⟨rfl, hNw⟩ := hrel
      have HNw := Lib.hid hNw
      clear hNw
      go_wp2
      go_ret
      exact ⟨rfl, HNw.out⟩
  have hst : ∃ (b4 off4 c4 : Nat), v4 = .slice (some ⟨b4, off4, none⟩) n c4 ∧ b4 < w4.heap.size ∧ ∀ j, j < n → w4.cell? ⟨b4, off4 + j, none⟩ = some (.int .i64 (flt x (1 + y % 5) (1 + z % 5) (dS X) (j + 1)).s) := by
    rcases HV4.out with ⟨hl, _⟩ | ⟨b4, off4, c4, e, hb, hc⟩
    · have := lst_len x (1 + y % 5) (1 + z % 5) (dS X) n
      rw [hl] at this
      simp at this
      omega
    · rw [lst_len] at e hc
      exact ⟨b4, off4, c4, e, hb, fun j hj => by rw [hc j hj, lst_get _ _ _ _ _ j hj]⟩
  obtain ⟨b4, off4, c4, rfl, hb4, hc4⟩ := hst
  cases e4
  have HS5 := Lib.hid hs3
  have HC4 := Lib.hid hc4
  clear hs3 hc4
  have hgood : ∀ j, j < n → insB (dS X j).g 0 1099511627776 = true := by
    intro j hj
    rcases HB.out with ⟨h0, _⟩ | ⟨b, off, cp, _, hb⟩
    · omega
    · exact dS_good (hb.2 j hj).2
  have HGD := Lib.hid hgood
  clear hgood
  go_wp2_with fail
  go_loopw [9, 10, 49] (fun g bf i wr => ∃ k : Nat, k ≤ n ∧ i = .int .i64 k ∧ g = .int .i64 (gd (fun j => rawK x (dS X j)) k) ∧ bf = .int .i64 (flt x (1 + y % 5) (1 + z % 5) (dS X) k).s ∧ New w4 wr) (fun _ _ i _ => n - (intOf i).toNat)
  case atStart => exact ⟨0, by omega, rfl, rfl, rfl, by repeat (first | with_reducible exact new0 _ | with_reducible apply New.alloc | with_reducible apply New.drewN | with_reducible apply New.drew | (with_reducible refine New.setCell ?_ (by simp <;> omega) _))⟩
  case round =>
    obtain ⟨k, hk, rfl, rfl, rfl, hNw⟩ := hrel
    have HNw := Lib.hid hNw
    by_cases hlt : k < n
    · obtain ⟨c0, c1, c2, c3⟩ := (HS5.out.new hNw).2 k hlt
      have hbz : b3 < wr.heap.size := (HS5.out.new hNw).1
      have s0 : wr.cell? ⟨b4, off4 + k, none⟩ = some (.int .i64 (flt x (1 + y % 5) (1 + z % 5) (dS X) (k + 1)).s) := ((ncell hNw).1 _ _ hb4).trans (HC4.out k hlt)
      have hz4 : b4 < wr.heap.size := by have := New.size hNw; omega
      have M5 := Lib.hid (M.out.new hNw)
      obtain ⟨k0, k1, k2, k3, kf, kz⟩ := (M.out.new hNw).c4
      have HGk := Lib.hid (HGD.out k hlt)
      clear hNw
      have hgd := gd_le (fun j => rawK x (dS X j)) k
      have hgd1 := gd_le (fun j => rawK x (dS X j)) (k + 1)
      have HR1 := Lib.hid (rise_ok x (1 + y % 5) (1 + z % 5) (dS X) k)
      have q2 : New wr (wr.alloc (.cells #[.bool (dS X k).a, .bool (dS X k).b, .int .i64 (dS X k).g, .bool (dS X k).v] 25)) := (new0 _).alloc _
      have Q2 := Lib.hid q2
      clear q2
      by_cases hr : rawK x (dS X k) = 1
      · have eg : gd (fun j => rawK x (dS X j)) (k + 1) = gd (fun j => rawK x (dS X j)) k + 1 := by rw [gd, if_pos hr]
        have EG := Lib.hid eg
        clear eg
        have hr' : (rawK x (dS X k) == 1) = true := by simpa using hr
        have HR := Lib.hid hr
        clear hr
        by_cases h1 : (flt x (1 + y % 5) (1 + z % 5) (dS X) (k + 1)).s = 1
        · by_cases h0 : (flt x (1 + y % 5) (1 + z % 5) (dS X) k).s = 1
          · have e1 : ((flt x (1 + y % 5) (1 + z % 5) (dS X) (k + 1)).s == 1) = true := by simpa using h1
            have e0 : ((flt x (1 + y % 5) (1 + z % 5) (dS X) k).s != 1) = false := by simpa using h0
            go_wp2_with (go_at_call 12; refine (sample_good mN x (1 + y % 5) (1 + z % 5) (dS X k) _ HV.out HGk.out).mono ?_; rintro e w5 ⟨rfl, g5⟩; have G5 := Lib.hid (Q2.out.trans g5); obtain ⟨j0, j1, j2, j3, jf, jz⟩ := (M5.out.new (Q2.out.trans g5)).c4; have s5 : w5.cell? ⟨b4, off4 + k, none⟩ = some (.int .i64 (flt x (1 + y % 5) (1 + z % 5) (dS X) (k + 1)).s) := ((ncell (Q2.out.trans g5)).1 _ _ hz4).trans s0; have z5 : b4 < w5.heap.size := (by have := New.size (Q2.out.trans g5); omega); clear g5)
            go_roundw
            case rel => exact ⟨k + 1, by omega, by go_num, by rw [EG.out]; first | rfl | (push_cast; rfl) | go_num, by first | rfl | rw [h1], by repeat (first | with_reducible exact new0 _ | with_reducible apply New.alloc | with_reducible apply New.drewN | with_reducible apply New.drew | (with_reducible refine New.setCell ?_ (by simp <;> omega) _) | (with_reducible refine New.trans ?_ G5.out) | (with_reducible refine New.trans ?_ HNw.out))⟩
            case measure => simp [intOf]; omega
          · have hge : 1 + y % 5 ≤ (gd (fun j => rawK x (dS X j)) (k + 1) : Int) := HR1.out h1 h0
            rw [EG.out] at hge
            push_cast at hge
            have hng : ¬ ((gd (fun j => rawK x (dS X j)) k : Int) + 1 < 1 + y % 5) := by omega
            have hng' : decide ((gd (fun j => rawK x (dS X j)) k : Int) + 1 < 1 + y % 5) = false := by simpa using hng
            have e1 : ((flt x (1 + y % 5) (1 + z % 5) (dS X) (k + 1)).s == 1) = true := by simpa using h1
            have e0 : ((flt x (1 + y % 5) (1 + z % 5) (dS X) k).s != 1) = true := by simpa using h0
            go_wp2_with (go_at_call 12; refine (sample_good mN x (1 + y % 5) (1 + z % 5) (dS X k) _ HV.out HGk.out).mono ?_; rintro e w5 ⟨rfl, g5⟩; have G5 := Lib.hid (Q2.out.trans g5); obtain ⟨j0, j1, j2, j3, jf, jz⟩ := (M5.out.new (Q2.out.trans g5)).c4; have s5 : w5.cell? ⟨b4, off4 + k, none⟩ = some (.int .i64 (flt x (1 + y % 5) (1 + z % 5) (dS X) (k + 1)).s) := ((ncell (Q2.out.trans g5)).1 _ _ hz4).trans s0; have z5 : b4 < w5.heap.size := (by have := New.size (Q2.out.trans g5); omega); clear g5)
            go_roundw
            case rel => exact ⟨k + 1, by omega, by go_num, by rw [EG.out]; first | rfl | (push_cast; rfl) | go_num, by first | rfl | rw [h1], by repeat (first | with_reducible exact new0 _ | with_reducible apply New.alloc | with_reducible apply New.drewN | with_reducible apply New.drew | (with_reducible refine New.setCell ?_ (by simp <;> omega) _) | (with_reducible refine New.trans ?_ G5.out) | (with_reducible refine New.trans ?_ HNw.out))⟩
            case measure => simp [intOf]; omega
        · have e1 : ((flt x (1 + y % 5) (1 + z % 5) (dS X) (k + 1)).s == 1) = false := by simpa using h1
          go_wp2_with (go_at_call 12; refine (sample_good mN x (1 + y % 5) (1 + z % 5) (dS X k) _ HV.out HGk.out).mono ?_; rintro e w5 ⟨rfl, g5⟩; have G5 := Lib.hid (Q2.out.trans g5); obtain ⟨j0, j1, j2, j3, jf, jz⟩ := (M5.out.new (Q2.out.trans g5)).c4; have s5 : w5.cell? ⟨b4, off4 + k, none⟩ = some (.int .i64 (flt x (1 + y % 5) (1 + z % 5) (dS X) (k + 1)).s) := ((ncell (Q2.out.trans g5)).1 _ _ hz4).trans s0; have z5 : b4 < w5.heap.size := (by have := New.size (Q2.out.trans g5); omega); clear g5)
          go_roundw
          case rel => exact ⟨k + 1, by omega, by go_num, by rw [EG.out]; first | rfl | (push_cast; rfl) | go_num, by first | rfl | rw [h1], by repeat (first | with_reducible exact new0 _ | with_reducible apply New.alloc | with_reducible apply New.drewN | with_reducible apply New.drew | (with_reducible refine New.setCell ?_ (by simp <;> omega) _) | (with_reducible refine New.trans ?_ G5.out) | (with_reducible refine New.trans ?_ HNw.out))⟩
          case measure => simp [intOf]; omega
      · have eg : gd (fun j => rawK x (dS X j)) (k + 1) = 0 := by rw [gd, if_neg hr]
        have EG := Lib.hid eg
        clear eg
        have hr' : (rawK x (dS X k) == 1) = false := by simpa using hr
        by_cases h1 : (flt x (1 + y % 5) (1 + z % 5) (dS X) (k + 1)).s = 1
        · by_cases h0 : (flt x (1 + y % 5) (1 + z % 5) (dS X) k).s = 1
          · have e1 : ((flt x (1 + y % 5) (1 + z % 5) (dS X) (k + 1)).s == 1) = true := by simpa using h1
            have e0 : ((flt x (1 + y % 5) (1 + z % 5) (dS X) k).s != 1) = false := by simpa using h0
            go_wp2_with (go_at_call 12; refine (sample_good mN x (1 + y % 5) (1 + z % 5) (dS X k) _ HV.out HGk.out).mono ?_; rintro e w5 ⟨rfl, g5⟩; have G5 := Lib.hid (Q2.out.trans g5); obtain ⟨j0, j1, j2, j3, jf, jz⟩ := (M5.out.new (Q2.out.trans g5)).c4; have s5 : w5.cell? ⟨b4, off4 + k, none⟩ = some (.int .i64 (flt x (1 + y % 5) (1 + z % 5) (dS X) (k + 1)).s) := ((ncell (Q2.out.trans g5)).1 _ _ hz4).trans s0; have z5 : b4 < w5.heap.size := (by have := New.size (Q2.out.trans g5); omega); clear g5)
            go_roundw
            case rel => exact ⟨k + 1, by omega, by go_num, by rw [EG.out]; first | rfl | (push_cast; rfl) | go_num, by first | rfl | rw [h1], by repeat (first | with_reducible exact new0 _ | with_reducible apply New.alloc | with_reducible apply New.drewN | with_reducible apply New.drew | (with_reducible refine New.setCell ?_ (by simp <;> omega) _) | (with_reducible refine New.trans ?_ G5.out) | (with_reducible refine New.trans ?_ HNw.out))⟩
            case measure => simp [intOf]; omega
          · have hge : 1 + y % 5 ≤ (gd (fun j => rawK x (dS X j)) (k + 1) : Int) := HR1.out h1 h0
            rw [EG.out] at hge
            omega
        · have e1 : ((flt x (1 + y % 5) (1 + z % 5) (dS X) (k + 1)).s == 1) = false := by simpa using h1
          go_wp2_with (go_at_call 12; refine (sample_good mN x (1 + y % 5) (1 + z % 5) (dS X k) _ HV.out HGk.out).mono ?_; rintro e w5 ⟨rfl, g5⟩; have G5 := Lib.hid (Q2.out.trans g5); obtain ⟨j0, j1, j2, j3, jf, jz⟩ := (M5.out.new (Q2.out.trans g5)).c4; have s5 : w5.cell? ⟨b4, off4 + k, none⟩ = some (.int .i64 (flt x (1 + y % 5) (1 + z % 5) (dS X) (k + 1)).s) := ((ncell (Q2.out.trans g5)).1 _ _ hz4).trans s0; have z5 : b4 < w5.heap.size := (by have := New.size (Q2.out.trans g5); omega); clear g5)
          go_roundw
          case rel => exact ⟨k + 1, by omega, by go_num, by rw [EG.out]; first | rfl | (push_cast; rfl) | go_num, by first | rfl | rw [h1], by repeat (first | with_reducible exact new0 _ | with_reducible apply New.alloc | with_reducible apply New.drewN | with_reducible apply New.drew | (with_reducible refine New.setCell ?_ (by simp <;> omega) _) | (with_reducible refine New.trans ?_ G5.out) | (with_reducible refine New.trans ?_ HNw.out))⟩
          case measure => simp [intOf]; omega
    · go_wp2
      go_ret
      exact ⟨rfl, by repeat (first | with_reducible exact new0 _ | with_reducible apply New.alloc | with_reducible apply New.drewN | with_reducible apply New.drew | (with_reducible refine New.setCell ?_ (by simp <;> omega) _) | (with_reducible refine New.trans ?_ HNw.out) | (with_reducible refine New.trans ?_ H4.out))⟩
theorem law_rises (x y z : Int) (hx : 0 ≤ x ∧ x ≤ 255) (hy : 0 ≤ y ∧ y ≤ 255) (hz : 0 ≤ z ∧ z ≤ 255) (Ad : Option Addr) (n cap : Nat) (X : Nat → Int) (w : World) (hB : BytV w (.slice Ad n cap) n X) : Calls Try.prog 8 #[.agg #[.int .u8 x, .int .u8 y, .int .u8 z], .slice Ad n cap] w fun e w' => e = .returned (.bool true) ∧ New w w' := by
  by_cases hn : 100 < n
  · exact law_rises_long x y z Ad n cap w hn
  · exact law_rises_few x y z hx hy hz Ad n cap X w hB (by omega)
end Go.Proofs.Ytjkfdmbhiooeiaa
