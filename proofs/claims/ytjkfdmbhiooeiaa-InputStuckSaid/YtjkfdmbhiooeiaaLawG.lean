/-
  The statement on a stuck channel.
-/
import Derived.Test.YtjkfdmbhiooeiaaLawF
namespace Go.Proofs.Ytjkfdmbhiooeiaa
open Go.RowKit
theorem smps_set {W : World} {b off n k : Nat} {s : Nat → Sm} (h : Smps W b off n s) (hk : k < n) (p q : Bool) :
    Smps ((W.setCell ⟨b, off + k * 4, none⟩ (.bool p)).setCell ⟨b, off + k * 4 + 1, none⟩ (.bool q)) b off n (fun j => if j = k then ⟨p, q, (s j).g, (s j).v⟩ else s j) := by
  refine ⟨by simpa using h.1, fun j hj => ?_⟩
  obtain ⟨h0, h1, h2, h3⟩ := h.2 j hj
  have far : ∀ o, o ≠ off + k * 4 → o ≠ off + k * 4 + 1 → ((W.setCell ⟨b, off + k * 4, none⟩ (.bool p)).setCell ⟨b, off + k * 4 + 1, none⟩ (.bool q)).cell? ⟨b, o, none⟩ = W.cell? ⟨b, o, none⟩ := fun o e1 e2 => by
    rw [World.cell?_setCell_other _ _ _ _ (by first | (simp; done) | (simp; omega)), World.cell?_setCell_other _ _ _ _ (by first | (simp; done) | (simp; omega))]
  by_cases e : j = k
  · subst e
    simp only [if_true]
    refine ⟨?_, ?_, ?_, ?_⟩
    · rw [World.cell?_setCell_other _ _ _ _ (by simp)]
      exact World.cell?_setCell_same _ _ _ h0
    · exact World.cell?_setCell_same (W.setCell ⟨b, off + j * 4, none⟩ (.bool p)) _ _ ((World.cell?_setCell_other _ _ _ _ (by simp)).trans h1)
    · rw [far _ (by omega) (by omega)]; exact h2
    · rw [far _ (by omega) (by omega)]; exact h3
  · simp only [e, if_false]
    refine ⟨?_, ?_, ?_, ?_⟩
    · rw [far _ (by omega) (by omega)]; exact h0
    · rw [far _ (by omega) (by omega)]; exact h1
    · rw [far _ (by omega) (by omega)]; exact h2
    · rw [far _ (by omega) (by omega)]; exact h3
/-- The samples of which the channels of the first k are stuck. -/
def sk (X : Nat → Int) (bb : Bool) (k : Nat) : Nat → Sm := fun j => if j < k then ⟨!bb, bb, (dS X j).g, (dS X j).v⟩ else dS X j
theorem sk_next (X : Nat → Int) (bb : Bool) (k : Nat) : (fun j => if j = k then (⟨!bb, bb, (sk X bb k j).g, (sk X bb k j).v⟩ : Sm) else sk X bb k j) = sk X bb (k + 1) := by
  funext j
  unfold sk
  by_cases e : j = k
  · subst e
    simp
  · by_cases h : j < k
    · simp [e, h, show j < k + 1 by omega]
    · simp [e, h, show ¬ j < k + 1 by omega]
theorem sk_zero (X : Nat → Int) (bb : Bool) : sk X bb 0 = dS X := by funext j; simp [sk]
theorem sk_g (X : Nat → Int) (bb : Bool) (k j : Nat) : (sk X bb k j).g = (dS X j).g := by unfold sk; split <;> rfl
theorem sk_run {w : World} {v : Value} {n : Nat} {X : Nat → Int} (bb : Bool) (h : BytV w v n X) (hn : n ≤ 1000) : runE 0 (sk X bb n) n = 0 := by
  unfold runE
  rw [if_neg (by simp), if_neg (by omega), if_pos]
  rw [allG_iff]
  intro j hj
  rcases h with ⟨rfl, _⟩ | ⟨b, off, cap, _, hb⟩
  · omega
  · unfold goodK
    rw [sk_g]
    exact dS_good (hb.2 j hj).2
theorem sk_raw (ma : Int) (X : Nat → Int) (bb : Bool) (n j : Nat) (hj : j < n) : rawK ma (sk X bb n j) = 3 := by
  unfold rawK rawI sk
  simp only [hj, if_true]
  rw [if_pos]
  right; right
  cases bb <;> simp
theorem blk_set2 {W : World} {h p : Nat} {cs : Array Value} (H : Blk W h cs) (e : h ≠ p) (o1 o2 : Nat) (a c : Value) : Blk ((W.setCell ⟨p, o1, none⟩ a).setCell ⟨p, o2, none⟩ c) h cs :=
  ⟨by simpa using H.1, fun i hi => by rw [World.cell?_setCell_other _ _ _ _ (by first | (simp; done) | (simp; omega)), World.cell?_setCell_other _ _ _ _ (by first | (simp; done) | (simp; omega))]; exact H.2.1 i hi, fun o => by have := H.2.2 o; simpa [go_sem] using this⟩
set_option maxHeartbeats 1600000 in
theorem law_stuck_long (x y z : Int) (bb : Bool) (Ad : Option Addr) (n cap : Nat) (w : World) (hn : 100 < n) : Calls Try.prog 10 #[.agg #[.int .u8 x, .int .u8 y, .int .u8 z], .slice Ad n cap, .bool bb] w fun e w' => e = .returned (.bool true) ∧ New w w' := by
  have hn' : (100 : Int) < n := by omega
  go_enter Try.func10, Try.ntmps10
  go_wp2_with fail
  refine (awake_any _).mono ?_
  rintro e w1 ⟨rfl, g1⟩
  have H1 := Lib.hid g1
  clear g1
  go_wp2_with fail
  refine (awake_any _).mono ?_
  rintro e w2 ⟨rfl, g2⟩
  have H2 := Lib.hid g2
  clear g2
  go_wp2_with fail
  go_ret
  exact ⟨rfl, by repeat (first | with_reducible exact new0 _ | with_reducible apply New.alloc | with_reducible apply New.drewN | with_reducible apply New.drew | (with_reducible refine New.setCell ?_ (by simp <;> omega) _) | (with_reducible refine New.trans ?_ H2.out) | (with_reducible refine New.trans ?_ H1.out))⟩
set_option maxHeartbeats 6400000 in
theorem law_stuck_few (x y z : Int) (bb : Bool) (hx : 0 ≤ x ∧ x ≤ 255) (hy : 0 ≤ y ∧ y ≤ 255) (hz : 0 ≤ z ∧ z ≤ 255) (Ad : Option Addr) (n cap : Nat) (X : Nat → Int) (w : World) (hB : BytV w (.slice Ad n cap) n X) (hn : n ≤ 100) : Calls Try.prog 10 #[.agg #[.int .u8 x, .int .u8 y, .int .u8 z], .slice Ad n cap, .bool bb] w fun e w' => e = .returned (.bool true) ∧ New w w' := by
  have hn' : ¬ (100 : Int) < n := by omega
  have hv := made_valE (y := y) (z := z) hx
  have HE := Lib.hid (sk_run bb hB (by omega))
  have HB := Lib.hid hB
  have HV := Lib.hid hv
  have HX := Lib.hid hx
  have HY := Lib.hid hy
  have HZ := Lib.hid hz
  clear hB hv hx hy hz
  have Z := Lib.hid (blk_alloc w #[.int .u8 x, .int .u8 y, .int .u8 z] 51)
  go_enter Try.func10, Try.ntmps10
  go_wp2_with fail
  refine (awake_any _).mono ?_
  rintro e w1 ⟨rfl, g1⟩
  have Z := Lib.hid (Z.out.new g1)
  have H1 := Lib.hid (show New w w1 from New.trans ((new0 _).alloc _) g1)
  clear g1
  obtain ⟨x0, x1, x2, xf, xz⟩ := Z.out.c3
  go_wp2_with fail
  refine (made_any x y z HX.out HY.out HZ.out _).mono ?_
  rintro e w2 ⟨rfl, g2⟩
  have H2 := Lib.hid (H1.out.trans g2)
  clear g2 x0 x1 x2 xf xz
  go_wp2_with fail
  refine (samples_any _ n X _ (by omega) (HB.out.new H2.out)).mono ?_
  rintro e w3 ⟨v3, rfl, ho3, g3⟩
  have H3 := Lib.hid (H2.out.trans g3)
  have HS3 := Lib.hid (show SmV w3 v3 n (dS X) from own_sm ho3)
  have HO3 := Lib.hid ho3
  clear ho3 g3
  by_cases hn0 : n = 0
  · subst hn0
    rcases HS3.out with ⟨_, A3, cap3, rfl⟩ | ⟨b3, off3, cap3, rfl, _⟩
    · go_wp2_with fail
      go_loopw [31] (fun i wr => i = .int .i64 0 ∧ wr = w3.alloc (.cells #[.string mN, .int .i64 x, .int .i64 (1 + y % 5), .int .i64 (1 + z % 5)] 23)) (fun _ _ => 0)
      case atStart => exact ⟨rfl, rfl⟩
      case round =>
        obtain ⟨rfl, rfl⟩ := hrel
        have HW := Lib.hid (show New w (w3.alloc (.cells #[.string mN, .int .i64 x, .int .i64 (1 + y % 5), .int .i64 (1 + z % 5)] 23)) from H3.out.alloc _)
        have M := Lib.hid (blk_alloc w3 #[.string mN, .int .i64 x, .int .i64 (1 + y % 5), .int .i64 (1 + z % 5)] 23)
        have HSN := Lib.hid (show SmV (w3.alloc (.cells #[.string mN, .int .i64 x, .int .i64 (1 + y % 5), .int .i64 (1 + z % 5)] 23)) (.slice A3 0 cap3) 0 (sk X bb 0) from .inl ⟨rfl, _, _, rfl⟩)
        obtain ⟨k0, k1, k2, k3, kf, kz⟩ := M.out.c4
        go_wp2_with fail
        refine (run_is mN x (1 + y % 5) (1 + z % 5) 0 (sk X bb 0) _ _ HSN.out (lst x (1 + y % 5) (1 + z % 5) (sk X bb 0) 0) 0 (by rw [HV.out]; unfold runL; rw [if_pos HE.out]) (by rw [HV.out]; exact HE.out)).mono ?_
        rintro e w6 ⟨v6, rfl, hv6, g6⟩
        have H6 := Lib.hid (HW.out.trans g6)
        have HV6 := Lib.hid hv6
        obtain ⟨A6, cap6, e6⟩ := hv6.len
        rw [lst_len] at e6
        clear g6 hv6
        have HNO := Lib.hid (contains_no 1 v6 _ _ (by rw [lst_len]; omega) HV6.out (fun j hj => by
          rw [lst_len] at hj
          rw [lst_get _ _ _ _ _ j hj, stuck_ok x (1 + y % 5) (1 + z % 5) (sk X bb 0) 0 (fun i hi => sk_raw x X bb 0 i hi) (j + 1) (by omega)]
          decide))
        subst e6
        go_wp2_with (go_at_call 31; refine HNO.out.mono ?_; rintro e w7 ⟨rfl, rfl⟩)
        go_ret
        exact ⟨rfl, H6.out⟩
    · go_wp2_with fail
      go_loopw [31] (fun i wr => i = .int .i64 0 ∧ wr = w3.alloc (.cells #[.string mN, .int .i64 x, .int .i64 (1 + y % 5), .int .i64 (1 + z % 5)] 23)) (fun _ _ => 0)
      case atStart => exact ⟨rfl, rfl⟩
      case round =>
        obtain ⟨rfl, rfl⟩ := hrel
        have HW := Lib.hid (show New w (w3.alloc (.cells #[.string mN, .int .i64 x, .int .i64 (1 + y % 5), .int .i64 (1 + z % 5)] 23)) from H3.out.alloc _)
        have M := Lib.hid (blk_alloc w3 #[.string mN, .int .i64 x, .int .i64 (1 + y % 5), .int .i64 (1 + z % 5)] 23)
        have HSN := Lib.hid (show SmV (w3.alloc (.cells #[.string mN, .int .i64 x, .int .i64 (1 + y % 5), .int .i64 (1 + z % 5)] 23)) (.slice (some ⟨b3, off3, none⟩) 0 cap3) 0 (sk X bb 0) from .inl ⟨rfl, _, _, rfl⟩)
        obtain ⟨k0, k1, k2, k3, kf, kz⟩ := M.out.c4
        go_wp2_with fail
        refine (run_is mN x (1 + y % 5) (1 + z % 5) 0 (sk X bb 0) _ _ HSN.out (lst x (1 + y % 5) (1 + z % 5) (sk X bb 0) 0) 0 (by rw [HV.out]; unfold runL; rw [if_pos HE.out]) (by rw [HV.out]; exact HE.out)).mono ?_
        rintro e w6 ⟨v6, rfl, hv6, g6⟩
        have H6 := Lib.hid (HW.out.trans g6)
        have HV6 := Lib.hid hv6
        obtain ⟨A6, cap6, e6⟩ := hv6.len
        rw [lst_len] at e6
        clear g6 hv6
        have HNO := Lib.hid (contains_no 1 v6 _ _ (by rw [lst_len]; omega) HV6.out (fun j hj => by
          rw [lst_len] at hj
          rw [lst_get _ _ _ _ _ j hj, stuck_ok x (1 + y % 5) (1 + z % 5) (sk X bb 0) 0 (fun i hi => sk_raw x X bb 0 i hi) (j + 1) (by omega)]
          decide))
        subst e6
        go_wp2_with (go_at_call 31; refine HNO.out.mono ?_; rintro e w7 ⟨rfl, rfl⟩)
        go_ret
        exact ⟨rfl, H6.out⟩
  obtain ⟨b3, cap3, e3, hb3, hz3⟩ := HO3.out.form (by omega)
  subst e3
  have hs3 : Smps w3 b3 0 n (dS X) := by
    rcases HS3.out with ⟨h0, _⟩ | ⟨b', off', cap', e, hs⟩
    · omega
    · cases e; exact hs
  have hf3 : ∀ o, w3.frozen? ⟨b3, o, none⟩ = false := fun o => HO3.out.frozenAt o
  have hbw : w.heap.size ≤ b3 := by have := New.size H2.out; omega
  have HS4 := Lib.hid (hs3.new ((new0 w3).alloc (.cells #[.string mN, .int .i64 x, .int .i64 (1 + y % 5), .int .i64 (1 + z % 5)] 23)))
  have HF4 := Lib.hid (fun o => ((ncell ((new0 w3).alloc (.cells #[.string mN, .int .i64 x, .int .i64 (1 + y % 5), .int .i64 (1 + z % 5)] 23))).2 b3 o hz3).trans (hf3 o))
  have hne : w3.heap.size ≠ b3 := by omega
  clear hs3 hf3
  go_wp2_with fail
  go_loopw [31] (fun i wr => ∃ k : Nat, k ≤ n ∧ i = .int .i64 k ∧ Smps wr b3 0 n (sk X bb k) ∧ (∀ o, wr.frozen? ⟨b3, o, none⟩ = false) ∧ New w wr ∧ Blk wr w3.heap.size #[.string mN, .int .i64 x, .int .i64 (1 + y % 5), .int .i64 (1 + z % 5)]) (fun i _ => n - (intOf i).toNat)
  case atStart => exact ⟨0, by omega, rfl, by rw [sk_zero]; exact HS4.out, HF4.out, H3.out.alloc _, blk_alloc _ _ _⟩
  case round =>
    obtain ⟨k, hk, rfl, hs, hf, hNw, hM⟩ := hrel
    have HSk := Lib.hid hs
    have HFk := Lib.hid hf
    have HNw := Lib.hid hNw
    have HM := Lib.hid hM
    by_cases hlt : k < n
    · obtain ⟨c0, c1, c2, c3⟩ := hs.2 k hlt
      simp only [Nat.zero_add] at c0 c1
      have hbz := hs.1
      clear hs hNw hM
      go_wp2
      go_roundw
      case rel =>
        refine ⟨k + 1, by omega, by go_num, ?_, fun o => ?_, ?_, ?_⟩
        · have := smps_set HSk.out hlt (!bb) bb
          rw [sk_next] at this
          simpa using this
        · have := HFk.out o
          simpa [go_sem] using this
        · exact (HNw.out.setCell hbw _).setCell hbw _
        · exact blk_set2 HM.out hne _ _ _ _
      case measure => simp [intOf]; omega
    · have e : k = n := by omega
      subst e
      have HW := HNw
      have M := HM
      have HSN := Lib.hid (show SmV wr (.slice (some ⟨b3, 0, none⟩) k cap3) k (sk X bb k) from .inr ⟨_, _, _, rfl, hs⟩)
      obtain ⟨k0, k1, k2, k3, kf, kz⟩ := hM.c4
      clear hs hf hNw hM hlt
      go_wp2_with fail
      refine (run_is mN x (1 + y % 5) (1 + z % 5) k (sk X bb k) _ _ HSN.out (lst x (1 + y % 5) (1 + z % 5) (sk X bb k) k) 0 (by rw [HV.out]; unfold runL; rw [if_pos HE.out]) (by rw [HV.out]; exact HE.out)).mono ?_
      rintro e w6 ⟨v6, rfl, hv6, g6⟩
      have H6 := Lib.hid (HW.out.trans g6)
      have HV6 := Lib.hid hv6
      obtain ⟨A6, cap6, e6⟩ := hv6.len
      rw [lst_len] at e6
      clear g6 hv6
      have HNO := Lib.hid (contains_no 1 v6 _ _ (by rw [lst_len]; omega) HV6.out (fun j hj => by
        rw [lst_len] at hj
        rw [lst_get _ _ _ _ _ j hj, stuck_ok x (1 + y % 5) (1 + z % 5) (sk X bb k) k (fun i hi => sk_raw x X bb k i hi) (j + 1) (by omega)]
        decide))
      subst e6
      go_wp2_with (go_at_call 31; refine HNO.out.mono ?_; rintro e w7 ⟨rfl, rfl⟩)
      go_ret
      exact ⟨rfl, H6.out⟩
theorem law_stuck (x y z : Int) (bb : Bool) (hx : 0 ≤ x ∧ x ≤ 255) (hy : 0 ≤ y ∧ y ≤ 255) (hz : 0 ≤ z ∧ z ≤ 255) (Ad : Option Addr) (n cap : Nat) (X : Nat → Int) (w : World) (hB : BytV w (.slice Ad n cap) n X) : Calls Try.prog 10 #[.agg #[.int .u8 x, .int .u8 y, .int .u8 z], .slice Ad n cap, .bool bb] w fun e w' => e = .returned (.bool true) ∧ New w w' := by
  by_cases hn : 100 < n
  · exact law_stuck_long x y z bb Ad n cap w hn
  · exact law_stuck_few x y z bb hx hy hz Ad n cap X w hB (by omega)
end Go.Proofs.Ytjkfdmbhiooeiaa
