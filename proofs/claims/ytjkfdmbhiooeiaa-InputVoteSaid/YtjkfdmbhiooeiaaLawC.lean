/-
  The walks of statements of layer 43.
-/
import Derived.Test.YtjkfdmbhiooeiaaLawB
namespace Go.Proofs.Ytjkfdmbhiooeiaa
open Go.RowKit
theorem vote_next {x : Int} {n : Nat} {Z : Nat → Int} (h0 : votE x n Z = 0) (h1 : ¬ votV x n Z = 1) (h2 : votE (x + 1) n Z = 0) : votV (x + 1) n Z = 2 := by
  unfold votV at h1 ⊢
  rw [h0] at h1
  rw [h2]
  simp only [ne_eq, not_true_eq_false, if_false] at h1 ⊢
  by_cases h : x ≤ cn Z n
  · rw [if_pos h] at h1; exact absurd rfl h1
  · rw [if_neg (by omega)]
theorem votE_rng' {x : Int} {n : Nat} {Z : Nat → Int} (h0 : votE x n Z = 0) : x ≤ 100 ∧ 1 ≤ x := by
  by_cases h1 : 100 < n
  · rw [votE_big h1] at h0; simp at h0
  · by_cases h2 : insB x 1 n = true
    · unfold insB at h2; simp at h2; omega
    · rw [votE_rng (by omega) (by simpa using h2)] at h0; simp at h0
theorem vote_is (x : Int) (v : Value) (l : List Int) (w : World) (hv : IntV w v l) (V E : Int) (hE : votE x l.length (l.getD · 0) = E) (hV : votV x l.length (l.getD · 0) = V) : Calls Try.prog 24 #[.int .i64 x, v] w (VotPost w V E) := by
  have h := vote_any x v l w hv
  rw [hE, hV] at h
  exact h
theorem rvote_is (x : Int) (v : Value) (l : List Int) (w : World) (hv : IntV w v l) (V E : Int) (hE : votE x l.length (l.getD · 0) = E) (hV : votV x l.length (l.getD · 0) = V) : Calls Try.prog 26 #[.int .i64 x, v] w (VotPost w V E) := by
  have h := rvote_any x v l w hv
  rw [hE, hV] at h
  exact h
set_option maxHeartbeats 3200000 in
theorem law_vote_err (x : Int) (A : Option Addr) (cap : Nat) (l : List Int) (w : World) (hL : IntV w (.slice A l.length cap) l) (hn : ¬ 110 < l.length) (E V : Int) (hE : votE x l.length (l.getD · 0) = E) (hV : votV x l.length (l.getD · 0) = V) (h0 : ¬ E = 0) : Calls Try.prog 6 #[.int .i64 x, .slice A l.length cap] w fun e w' => e = .returned (.bool true) ∧ New w w' := by
  have hn' : ¬ (110 : Int) < l.length := by omega
  have HL := Lib.hid hL
  clear hL
  have HE := Lib.hid hE
  have HV := Lib.hid hV
  clear hE hV
  go_enter Try.func6, Try.ntmps6
  go_wp2_with fail
  refine (awake_any _).mono ?_
  rintro e w1 ⟨rfl, g1⟩
  have H1 := Lib.hid g1
  clear g1
  go_wp2_with fail
  refine (clonei_v _ l _ (by omega) (HL.out.new H1.out)).mono ?_
  rintro e w2 ⟨v2, rfl, hv2, g2⟩
  have H2 := Lib.hid (H1.out.trans g2)
  have HV2 := Lib.hid hv2
  clear g2 hv2
  go_wp2_with fail
  refine (vote_is x v2 l _ HV2.out _ _ HE.out HV.out).mono ?_
  rintro e w3 ⟨rfl, rfl⟩
  go_wp2_with fail
  refine (rvote_is x _ l _ (HL.out.new H2.out) _ _ HE.out HV.out).mono ?_
  rintro e w4 ⟨rfl, rfl⟩
  go_wp2_with fail
  go_ret
  exact ⟨by simp, H2.out⟩
set_option maxHeartbeats 3200000 in
theorem law_vote_one (x : Int) (A : Option Addr) (cap : Nat) (l : List Int) (w : World) (hL : IntV w (.slice A l.length cap) l) (hn : ¬ 110 < l.length) (E2 V2 : Int) (hE : votE x l.length (l.getD · 0) = 0) (hV : votV x l.length (l.getD · 0) = 1) (hE2 : votE (x + 1) l.length (l.getD · 0) = E2) (hV2 : votV (x + 1) l.length (l.getD · 0) = V2) : Calls Try.prog 6 #[.int .i64 x, .slice A l.length cap] w fun e w' => e = .returned (.bool true) ∧ New w w' := by
  have hn' : ¬ (110 : Int) < l.length := by omega
  have HL := Lib.hid hL
  clear hL
  obtain ⟨q1, q2⟩ := votE_rng' hE
  have HE := Lib.hid hE
  have HV := Lib.hid hV
  have HE2 := Lib.hid hE2
  have HW2 := Lib.hid hV2
  clear hE hV hE2 hV2
  go_enter Try.func6, Try.ntmps6
  go_wp2_with fail
  refine (awake_any _).mono ?_
  rintro e w1 ⟨rfl, g1⟩
  have H1 := Lib.hid g1
  clear g1
  go_wp2_with fail
  refine (clonei_v _ l _ (by omega) (HL.out.new H1.out)).mono ?_
  rintro e w2 ⟨v2, rfl, hv2, g2⟩
  have H2 := Lib.hid (H1.out.trans g2)
  have HV2 := Lib.hid hv2
  clear g2 hv2
  go_wp2_with fail
  refine (vote_is x v2 l _ HV2.out _ _ HE.out HV.out).mono ?_
  rintro e w3 ⟨rfl, rfl⟩
  go_wp2_with fail
  refine (rvote_is x _ l _ (HL.out.new H2.out) _ _ HE.out HV.out).mono ?_
  rintro e w4 ⟨rfl, rfl⟩
  go_wp2_with fail
  refine (vote_is (x + 1) _ l _ (HL.out.new H2.out) _ _ HE2.out HW2.out).mono ?_
  rintro e w5 ⟨rfl, rfl⟩
  go_wp2_with fail
  all_goals go_ret
  all_goals exact ⟨by simp, H2.out⟩
set_option maxHeartbeats 3200000 in
theorem law_vote_gerr (x : Int) (A : Option Addr) (cap : Nat) (l : List Int) (w : World) (hL : IntV w (.slice A l.length cap) l) (hn : ¬ 110 < l.length) (V E2 V2 : Int) (hE : votE x l.length (l.getD · 0) = 0) (hV : votV x l.length (l.getD · 0) = V) (hE2 : votE (x + 1) l.length (l.getD · 0) = E2) (hV2 : votV (x + 1) l.length (l.getD · 0) = V2) (h2 : ¬ E2 = 0) : Calls Try.prog 6 #[.int .i64 x, .slice A l.length cap] w fun e w' => e = .returned (.bool true) ∧ New w w' := by
  have hn' : ¬ (110 : Int) < l.length := by omega
  have HL := Lib.hid hL
  clear hL
  obtain ⟨q1, q2⟩ := votE_rng' hE
  have HE := Lib.hid hE
  have HV := Lib.hid hV
  have HE2 := Lib.hid hE2
  have HW2 := Lib.hid hV2
  clear hE hV hE2 hV2
  go_enter Try.func6, Try.ntmps6
  go_wp2_with fail
  refine (awake_any _).mono ?_
  rintro e w1 ⟨rfl, g1⟩
  have H1 := Lib.hid g1
  clear g1
  go_wp2_with fail
  refine (clonei_v _ l _ (by omega) (HL.out.new H1.out)).mono ?_
  rintro e w2 ⟨v2, rfl, hv2, g2⟩
  have H2 := Lib.hid (H1.out.trans g2)
  have HV2 := Lib.hid hv2
  clear g2 hv2
  go_wp2_with fail
  refine (vote_is x v2 l _ HV2.out _ _ HE.out HV.out).mono ?_
  rintro e w3 ⟨rfl, rfl⟩
  go_wp2_with fail
  refine (rvote_is x _ l _ (HL.out.new H2.out) _ _ HE.out HV.out).mono ?_
  rintro e w4 ⟨rfl, rfl⟩
  go_wp2_with fail
  refine (vote_is (x + 1) _ l _ (HL.out.new H2.out) _ _ HE2.out HW2.out).mono ?_
  rintro e w5 ⟨rfl, rfl⟩
  go_wp2_with fail
  all_goals go_ret
  all_goals exact ⟨by simp, H2.out⟩
set_option maxHeartbeats 3200000 in
theorem law_vote_two (x : Int) (A : Option Addr) (cap : Nat) (l : List Int) (w : World) (hL : IntV w (.slice A l.length cap) l) (hn : ¬ 110 < l.length) (V : Int) (hE : votE x l.length (l.getD · 0) = 0) (hV : votV x l.length (l.getD · 0) = V) (hE2 : votE (x + 1) l.length (l.getD · 0) = 0) (hV2 : votV (x + 1) l.length (l.getD · 0) = 2) (h2 : ¬ V = 1) : Calls Try.prog 6 #[.int .i64 x, .slice A l.length cap] w fun e w' => e = .returned (.bool true) ∧ New w w' := by
  have hn' : ¬ (110 : Int) < l.length := by omega
  have HL := Lib.hid hL
  clear hL
  obtain ⟨q1, q2⟩ := votE_rng' hE
  have HE := Lib.hid hE
  have HV := Lib.hid hV
  have HE2 := Lib.hid hE2
  have HW2 := Lib.hid hV2
  clear hE hV hE2 hV2
  go_enter Try.func6, Try.ntmps6
  go_wp2_with fail
  refine (awake_any _).mono ?_
  rintro e w1 ⟨rfl, g1⟩
  have H1 := Lib.hid g1
  clear g1
  go_wp2_with fail
  refine (clonei_v _ l _ (by omega) (HL.out.new H1.out)).mono ?_
  rintro e w2 ⟨v2, rfl, hv2, g2⟩
  have H2 := Lib.hid (H1.out.trans g2)
  have HV2 := Lib.hid hv2
  clear g2 hv2
  go_wp2_with fail
  refine (vote_is x v2 l _ HV2.out _ _ HE.out HV.out).mono ?_
  rintro e w3 ⟨rfl, rfl⟩
  go_wp2_with fail
  refine (rvote_is x _ l _ (HL.out.new H2.out) _ _ HE.out HV.out).mono ?_
  rintro e w4 ⟨rfl, rfl⟩
  go_wp2_with fail
  refine (vote_is (x + 1) _ l _ (HL.out.new H2.out) _ _ HE2.out HW2.out).mono ?_
  rintro e w5 ⟨rfl, rfl⟩
  go_wp2_with fail
  all_goals go_ret
  all_goals exact ⟨by simp, H2.out⟩
set_option maxHeartbeats 1600000 in
theorem law_vote_long (x : Int) (A : Option Addr) (cap n : Nat) (w : World) (hn : 110 < n) : Calls Try.prog 6 #[.int .i64 x, .slice A n cap] w fun e w' => e = .returned (.bool true) ∧ New w w' := by
  have hn' : (110 : Int) < n := by omega
  go_enter Try.func6, Try.ntmps6
  go_wp2_with fail
  refine (awake_any _).mono ?_
  rintro e w1 ⟨rfl, g1⟩
  have H1 := Lib.hid g1
  clear g1
  go_wp2_with fail
  refine (awake_any _).mono ?_
  rintro e w2 ⟨rfl, g2⟩
  have H2 := Lib.hid (H1.out.trans g2)
  clear g2
  go_wp2_with fail
  go_ret
  exact ⟨rfl, H2.out⟩
theorem law_vote (x : Int) (A : Option Addr) (cap : Nat) (l : List Int) (w : World) (hL : IntV w (.slice A l.length cap) l) : Calls Try.prog 6 #[.int .i64 x, .slice A l.length cap] w fun e w' => e = .returned (.bool true) ∧ New w w' := by
  by_cases hn : 110 < l.length
  · exact law_vote_long x A cap _ w hn
  · by_cases h0 : votE x l.length (l.getD · 0) = 0
    · by_cases h1 : votV x l.length (l.getD · 0) = 1
      · exact law_vote_one x A cap l w hL hn _ _ h0 h1 rfl rfl
      · by_cases h2 : votE (x + 1) l.length (l.getD · 0) = 0
        · exact law_vote_two x A cap l w hL hn _ h0 rfl h2 (vote_next h0 h1 h2) h1
        · exact law_vote_gerr x A cap l w hL hn _ _ _ h0 rfl rfl rfl h2
    · exact law_vote_err x A cap l w hL hn _ _ rfl rfl h0
end Go.Proofs.Ytjkfdmbhiooeiaa
