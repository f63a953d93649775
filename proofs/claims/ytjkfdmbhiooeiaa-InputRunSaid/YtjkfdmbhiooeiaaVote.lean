/-
  Vote, by the program and by the reference.
-/
import Derived.Test.YtjkfdmbhiooeiaaRunall
namespace Go.Proofs.Ytjkfdmbhiooeiaa
open Go.RowKit

/-- How many of the first k are 1. -/
def cn (Z : Nat → Int) : Nat → Nat
  | 0 => 0
  | k + 1 => if Z k = 1 then cn Z k + 1 else cn Z k
theorem cn_le (Z : Nat → Int) (k : Nat) : cn Z k ≤ k := by
  induction k with
  | zero => exact Nat.le_refl _
  | succ k ih => unfold cn; split <;> omega
def stK (Z : Nat → Int) (k : Nat) : Bool := insB (Z k) 1 3
def allS (Z : Nat → Int) (n : Nat) : Bool := (List.range n).all (stK Z)
theorem allS_iff (Z : Nat → Int) (n : Nat) : allS Z n = true ↔ ∀ j, j < n → stK Z j = true := by simp [allS, List.all_eq_true]
theorem first_st (Z : Nat → Int) (n : Nat) (h : allS Z n = false) : ∃ m, m < n ∧ stK Z m = false ∧ ∀ j, j < m → stK Z j = true := by
  induction n with
  | zero => simp [allS] at h
  | succ n ih =>
    by_cases hn : allS Z n = true
    · have hn' := (allS_iff Z n).1 hn
      refine ⟨n, by omega, ?_, hn'⟩
      by_cases hg : stK Z n = true
      · have : allS Z (n + 1) = true := (allS_iff Z (n + 1)).2 fun j hj => by
          by_cases e : j = n
          · subst e; exact hg
          · exact hn' j (by omega)
        rw [this] at h
        cases h
      · simpa using hg
    · obtain ⟨m, h1, h2, h3⟩ := ih (by simpa using hn)
      exact ⟨m, by omega, h2, h3⟩
def votE (k : Int) (n : Nat) (Z : Nat → Int) : Int := if 100 < n then 3 else if insB k 1 n = false then 6 else if allS Z n = true then 0 else 6
def votV (k : Int) (n : Nat) (Z : Nat → Int) : Int := if votE k n Z ≠ 0 then 0 else if k ≤ cn Z n then 1 else 2
def VotPost (w : World) (x y : Int) (e : Ending) (w' : World) : Prop := e = .returned (.tuple #[.int .i64 x, .int .i64 y]) ∧ w = w'
theorem votE_ok {k : Int} {n : Nat} {Z : Nat → Int} (h1 : n ≤ 100) (h2 : insB k 1 n = true) (h3 : allS Z n = true) : votE k n Z = 0 := by unfold votE; rw [if_neg (by omega), if_neg (by simp [h2]), if_pos h3]
theorem votE_bad {k : Int} {n : Nat} {Z : Nat → Int} (h1 : n ≤ 100) (h2 : insB k 1 n = true) (h3 : allS Z n = false) : votE k n Z = 6 := by unfold votE; rw [if_neg (by omega), if_neg (by simp [h2]), if_neg (by simp [h3])]
theorem votE_rng {k : Int} {n : Nat} {Z : Nat → Int} (h1 : n ≤ 100) (h2 : insB k 1 n = false) : votE k n Z = 6 := by unfold votE; rw [if_neg (by omega), if_pos h2]
theorem votE_big {k : Int} {n : Nat} {Z : Nat → Int} (h1 : 100 < n) : votE k n Z = 3 := by unfold votE; rw [if_pos h1]
theorem votV_err {k : Int} {n : Nat} {Z : Nat → Int} {e : Int} (h : votE k n Z = e) (he : e ≠ 0) : votV k n Z = 0 := by unfold votV; rw [h, if_pos he]
set_option maxHeartbeats 1600000 in
theorem vote_gen (x : Int) (b off n m cap : Nat) (Z : Nat → Int) (r er : Int) (w : World) (hn : n ≤ 100) (hx : insB x 1 n = true) (hZ : ∀ j, j < n → w.cell? ⟨b, off + j, none⟩ = some (.int .i64 (Z j))) (hg : ∀ j, j < m → stK Z j = true) (hm : (m = n ∧ (r = if x ≤ cn Z n then 1 else 2) ∧ er = 0) ∨ (m < n ∧ stK Z m = false ∧ r = 0 ∧ er = 6)) :
    Calls Try.prog 24 #[.int .i64 x, .slice (some ⟨b, off, none⟩) n cap] w (VotPost w r er) := by
  have hk1 : 1 ≤ x := by unfold insB at hx; simp at hx; omega
  have hk2 : x ≤ n := by unfold insB at hx; simp at hx; omega
  have hk3 : ¬ x < 1 := by omega
  have hk4 : ¬ (n : Int) < x := by omega
  have HX := Lib.hid hx
  have HZ := Lib.hid hZ
  have HG := Lib.hid hg
  have HM := Lib.hid hm
  have hmn : m ≤ n := by omega
  clear hx hZ hg hm
  go_enter Try.func24, Try.ntmps24
  go_wp2_with (go_at_call 36; refine (inside_any _ _ _ _).mono ?_; rw [HX.out]; rintro e w' ⟨rfl, rfl⟩)
  go_loopw [6, 19] (fun c i wr => ∃ k : Nat, k ≤ m ∧ i = .int .i64 k ∧ c = .int .i64 (cn Z k) ∧ wr = w) (fun _ i _ => n - (intOf i).toNat)
  case atStart => exact ⟨0, by omega, rfl, rfl, rfl⟩
  case round =>
    obtain ⟨k, hk, rfl, rfl, rfl⟩ := hrel
    have hcn := cn_le Z k
    by_cases hlt : k < m
    · have c0 := HZ.out k (by omega)
      have HGk := Lib.hid (show insB (Z k) 1 3 = true from HG.out k hlt)
      by_cases h1 : Z k = 1
      · have e1 : cn Z (k + 1) = cn Z k + 1 := by rw [cn, if_pos h1]
        have E1 := Lib.hid e1
        clear e1
        have h1' : (Z k == 1) = true := by simpa using h1
        have H1 := Lib.hid h1
        clear h1
        go_wp2_with (go_at_call 39; refine (isState_any _ _).mono ?_; rw [HGk.out]; rintro e w' ⟨rfl, rfl⟩)
        go_roundw
        case rel => exact ⟨k + 1, by omega, by go_num, by rw [E1.out]; first | rfl | (push_cast; rfl) | go_num, (by first | trivial | rfl)⟩
        case measure => simp [intOf]; omega
      · have e1 : cn Z (k + 1) = cn Z k := by rw [cn, if_neg h1]
        have E1 := Lib.hid e1
        clear e1
        have h1' : (Z k == 1) = false := by simpa using h1
        go_wp2_with (go_at_call 39; refine (isState_any _ _).mono ?_; rw [HGk.out]; rintro e w' ⟨rfl, rfl⟩)
        go_roundw
        case rel => exact ⟨k + 1, by omega, by go_num, by rw [E1.out], (by first | trivial | rfl)⟩
        case measure => simp [intOf]; omega
    · have e : k = m := by omega
      subst e
      rcases HM.out with ⟨e1, e2, e3⟩ | ⟨e1, e2, e3, e4⟩
      · subst e1 e2 e3
        by_cases hc : x ≤ cn Z k
        · rw [if_pos hc]
          go_wp2_with fail
          go_ret2
          exact ⟨rfl, rfl⟩
        · rw [if_neg hc]
          have hc' : ¬ x ≤ (cn Z k : Int) := hc
          go_wp2_with fail
          go_ret2
          exact ⟨rfl, rfl⟩
      · subst e3 e4
        have c0 := HZ.out k e1
        have HGk := Lib.hid (show insB (Z k) 1 3 = false from e2)
        clear e2
        go_wp2_with (go_at_call 39; refine (isState_any _ _).mono ?_; rw [HGk.out]; rintro e w' ⟨rfl, rfl⟩)
        go_ret2
        exact ⟨rfl, rfl⟩
set_option maxHeartbeats 800000 in
theorem vote_big (x : Int) (A : Option Addr) (n cap : Nat) (w : World) (hn : 100 < n) : Calls Try.prog 24 #[.int .i64 x, .slice A n cap] w (VotPost w 0 3) := by
  have hn' : (100 : Int) < n := by omega
  go_enter Try.func24, Try.ntmps24
  go_wp2_with fail
  go_ret2
  exact ⟨rfl, rfl⟩
set_option maxHeartbeats 800000 in
theorem vote_rng (x : Int) (A : Option Addr) (n cap : Nat) (w : World) (hn : n ≤ 100) (hx : insB x 1 n = false) : Calls Try.prog 24 #[.int .i64 x, .slice A n cap] w (VotPost w 0 6) := by
  have HX := Lib.hid hx
  have hn' : ¬ (100 : Int) < n := by omega
  have h2 : x < 1 ∨ (n : Int) < x := by unfold insB at hx; simp at hx; omega
  clear hx
  by_cases h1 : x < 1
  · clear h2
    go_enter Try.func24, Try.ntmps24
    go_wp2_with (go_at_call 36; refine (inside_any _ _ _ _).mono ?_; rw [HX.out]; rintro e w' ⟨rfl, rfl⟩)
    go_ret2
    exact ⟨rfl, rfl⟩
  · have h3 : (n : Int) < x := by omega
    clear h2
    go_enter Try.func24, Try.ntmps24
    go_wp2_with (go_at_call 36; refine (inside_any _ _ _ _).mono ?_; rw [HX.out]; rintro e w' ⟨rfl, rfl⟩)
    go_ret2
    exact ⟨rfl, rfl⟩
theorem vote_any (x : Int) (v : Value) (l : List Int) (w : World) (hv : IntV w v l) : Calls Try.prog 24 #[.int .i64 x, v] w (VotPost w (votV x l.length (l.getD · 0)) (votE x l.length (l.getD · 0))) := by
  by_cases h1 : 100 < l.length
  · rw [votV_err (votE_big h1) (by decide), votE_big h1]
    rcases hv with ⟨rfl, A, cap, rfl⟩ | ⟨b, off, cap, rfl, _⟩
    · simp at h1
    · exact vote_big x _ _ cap w h1
  · by_cases h2 : insB x 1 l.length = true
    · rcases hv with ⟨rfl, A, cap, rfl⟩ | ⟨b, off, cap, rfl, hb, hc⟩
      · unfold insB at h2; simp at h2; omega
      · by_cases h3 : allS (l.getD · 0) l.length = true
        · have e := votE_ok (k := x) (by omega) h2 h3
          have e' : votV x l.length (l.getD · 0) = if x ≤ cn (l.getD · 0) l.length then 1 else 2 := by unfold votV; rw [e]; rfl
          rw [e', e]
          exact vote_gen x b off _ _ cap _ _ 0 w (by omega) h2 hc ((allS_iff _ _).1 h3) (.inl ⟨rfl, rfl, rfl⟩)
        · have h3' : allS (l.getD · 0) l.length = false := by simpa using h3
          rw [votV_err (votE_bad (by omega) h2 h3') (by decide), votE_bad (by omega) h2 h3']
          obtain ⟨m, hm1, hm2, hm3⟩ := first_st _ _ h3'
          exact vote_gen x b off _ m cap _ _ 6 w (by omega) h2 hc hm3 (.inr ⟨hm1, hm2, rfl, rfl⟩)
    · have h2' : insB x 1 l.length = false := by simpa using h2
      rw [votV_err (votE_rng (by omega) h2') (by decide), votE_rng (by omega) h2']
      rcases hv with ⟨rfl, A, cap, rfl⟩ | ⟨b, off, cap, rfl, hb, hc⟩
      · exact vote_rng x A 0 cap w (by omega) h2'
      · exact vote_rng x _ _ cap w (by omega) h2'
set_option maxHeartbeats 1600000 in
theorem rvote_gen (x : Int) (b off n m cap : Nat) (Z : Nat → Int) (r er : Int) (w : World) (hn : n ≤ 100) (hx : insB x 1 n = true) (hZ : ∀ j, j < n → w.cell? ⟨b, off + j, none⟩ = some (.int .i64 (Z j))) (hg : ∀ j, j < m → stK Z j = true) (hm : (m = n ∧ (r = if x ≤ cn Z n then 1 else 2) ∧ er = 0) ∨ (m < n ∧ stK Z m = false ∧ r = 0 ∧ er = 6)) :
    Calls Try.prog 26 #[.int .i64 x, .slice (some ⟨b, off, none⟩) n cap] w (VotPost w r er) := by
  have hk1 : 1 ≤ x := by unfold insB at hx; simp at hx; omega
  have hk2 : x ≤ n := by unfold insB at hx; simp at hx; omega
  have hk3 : ¬ x < 1 := by omega
  have hk4 : ¬ (n : Int) < x := by omega
  have HX := Lib.hid hx
  have HZ := Lib.hid hZ
  have HG := Lib.hid hg
  have HM := Lib.hid hm
  have hmn : m ≤ n := by omega
  clear hx hZ hg hm
  go_enter Try.func26, Try.ntmps26
  go_wp2_with fail
  go_loopw [6, 7] (fun c i wr => ∃ k : Nat, k ≤ m ∧ i = .int .i64 k ∧ c = .int .i64 (cn Z k) ∧ wr = w) (fun _ i _ => n - (intOf i).toNat)
  case atStart => exact ⟨0, by omega, rfl, rfl, rfl⟩
  case round =>
    obtain ⟨k, hk, rfl, rfl, rfl⟩ := hrel
    have hcn := cn_le Z k
    by_cases hlt : k < m
    · have c0 := HZ.out k (by omega)
      have HGk := Lib.hid (show insB (Z k) 1 3 = true from HG.out k hlt)
      by_cases h1 : Z k = 1
      · have e1 : cn Z (k + 1) = cn Z k + 1 := by rw [cn, if_pos h1]
        have E1 := Lib.hid e1
        clear e1
        have h1' : (Z k == 1) = true := by simpa using h1
        have H1 := Lib.hid h1
        clear h1
        go_wp2_with (go_at_call 42; refine (known_any _ _).mono ?_; rw [HGk.out]; rintro e w' ⟨rfl, rfl⟩)
        go_roundw
        case rel => exact ⟨k + 1, by omega, by go_num, by rw [E1.out]; first | rfl | (push_cast; rfl) | go_num, (by first | trivial | rfl)⟩
        case measure => simp [intOf]; omega
      · have e1 : cn Z (k + 1) = cn Z k := by rw [cn, if_neg h1]
        have E1 := Lib.hid e1
        clear e1
        have h1' : (Z k == 1) = false := by simpa using h1
        go_wp2_with (go_at_call 42; refine (known_any _ _).mono ?_; rw [HGk.out]; rintro e w' ⟨rfl, rfl⟩)
        go_roundw
        case rel => exact ⟨k + 1, by omega, by go_num, by rw [E1.out], (by first | trivial | rfl)⟩
        case measure => simp [intOf]; omega
    · have e : k = m := by omega
      subst e
      rcases HM.out with ⟨e1, e2, e3⟩ | ⟨e1, e2, e3, e4⟩
      · subst e1 e2 e3
        by_cases hc : x ≤ cn Z k
        · rw [if_pos hc]
          go_wp2_with fail
          go_ret2
          exact ⟨rfl, rfl⟩
        · rw [if_neg hc]
          have hc' : ¬ x ≤ (cn Z k : Int) := hc
          go_wp2_with fail
          go_ret2
          exact ⟨rfl, rfl⟩
      · subst e3 e4
        have c0 := HZ.out k e1
        have HGk := Lib.hid (show insB (Z k) 1 3 = false from e2)
        clear e2
        go_wp2_with (go_at_call 42; refine (known_any _ _).mono ?_; rw [HGk.out]; rintro e w' ⟨rfl, rfl⟩)
        go_ret2
        exact ⟨rfl, rfl⟩
set_option maxHeartbeats 800000 in
theorem rvote_big (x : Int) (A : Option Addr) (n cap : Nat) (w : World) (hn : 100 < n) : Calls Try.prog 26 #[.int .i64 x, .slice A n cap] w (VotPost w 0 3) := by
  have hn' : (100 : Int) < n := by omega
  go_enter Try.func26, Try.ntmps26
  go_wp2_with fail
  go_ret2
  exact ⟨rfl, rfl⟩
set_option maxHeartbeats 800000 in
theorem rvote_rng (x : Int) (A : Option Addr) (n cap : Nat) (w : World) (hn : n ≤ 100) (hx : insB x 1 n = false) : Calls Try.prog 26 #[.int .i64 x, .slice A n cap] w (VotPost w 0 6) := by
  have HX := Lib.hid hx
  have hn' : ¬ (100 : Int) < n := by omega
  have h2 : x < 1 ∨ (n : Int) < x := by unfold insB at hx; simp at hx; omega
  clear hx
  by_cases h1 : x < 1
  · clear h2
    go_enter Try.func26, Try.ntmps26
    go_wp2_with fail
    go_ret2
    exact ⟨rfl, rfl⟩
  · have h3 : (n : Int) < x := by omega
    clear h2
    go_enter Try.func26, Try.ntmps26
    go_wp2_with fail
    go_ret2
    exact ⟨rfl, rfl⟩
theorem rvote_any (x : Int) (v : Value) (l : List Int) (w : World) (hv : IntV w v l) : Calls Try.prog 26 #[.int .i64 x, v] w (VotPost w (votV x l.length (l.getD · 0)) (votE x l.length (l.getD · 0))) := by
  by_cases h1 : 100 < l.length
  · rw [votV_err (votE_big h1) (by decide), votE_big h1]
    rcases hv with ⟨rfl, A, cap, rfl⟩ | ⟨b, off, cap, rfl, _⟩
    · simp at h1
    · exact rvote_big x _ _ cap w h1
  · by_cases h2 : insB x 1 l.length = true
    · rcases hv with ⟨rfl, A, cap, rfl⟩ | ⟨b, off, cap, rfl, hb, hc⟩
      · unfold insB at h2; simp at h2; omega
      · by_cases h3 : allS (l.getD · 0) l.length = true
        · have e := votE_ok (k := x) (by omega) h2 h3
          have e' : votV x l.length (l.getD · 0) = if x ≤ cn (l.getD · 0) l.length then 1 else 2 := by unfold votV; rw [e]; rfl
          rw [e', e]
          exact rvote_gen x b off _ _ cap _ _ 0 w (by omega) h2 hc ((allS_iff _ _).1 h3) (.inl ⟨rfl, rfl, rfl⟩)
        · have h3' : allS (l.getD · 0) l.length = false := by simpa using h3
          rw [votV_err (votE_bad (by omega) h2 h3') (by decide), votE_bad (by omega) h2 h3']
          obtain ⟨m, hm1, hm2, hm3⟩ := first_st _ _ h3'
          exact rvote_gen x b off _ m cap _ _ 6 w (by omega) h2 hc hm3 (.inr ⟨hm1, hm2, rfl, rfl⟩)
    · have h2' : insB x 1 l.length = false := by simpa using h2
      rw [votV_err (votE_rng (by omega) h2') (by decide), votE_rng (by omega) h2']
      rcases hv with ⟨rfl, A, cap, rfl⟩ | ⟨b, off, cap, rfl, hb, hc⟩
      · exact rvote_rng x A 0 cap w (by omega) h2'
      · exact rvote_rng x _ _ cap w (by omega) h2'
end Go.Proofs.Ytjkfdmbhiooeiaa
