/-
  The error of a list of samples, by the program and by the reference.
-/
import Derived.Test.YtedbjnojogjnkaaW
namespace Go.Proofs.Ytedbjnojogjnkaa
open Go.RowKit
/-- The error of the k-th sample of a list. -/
def errAt (M : Nat → Ms) : Nat → Int
  | 0 => if okM (M 0) = true then 0 else 6
  | k + 1 => if okM (M (k + 1)) = true then (if (M (k + 1)).t < (M k).t then 15 else 0) else 6
/-- The first error of the first k samples. -/
def samE (M : Nat → Ms) : Nat → Int
  | 0 => 0
  | k + 1 => if samE M k = 0 then errAt M k else samE M k
theorem samE_more (M : Nat → Ms) {k : Nat} (h : samE M k ≠ 0) : ∀ n, k ≤ n → samE M n = samE M k := by
  intro n hn
  induction n with
  | zero => obtain rfl : k = 0 := by omega
            rfl
  | succ n ih =>
    by_cases e : k = n + 1
    · subst e; rfl
    · have := ih (by omega)
      rw [samE, this, if_neg h]
theorem samE_congr {M M' : Nat → Ms} {n : Nat} (h : ∀ j, j < n → M j = M' j) : ∀ k, k ≤ n → samE M k = samE M' k := by
  intro k
  induction k with
  | zero => intro _; rfl
  | succ k ih =>
    intro hk
    have e : errAt M k = errAt M' k := by
      cases k with
      | zero => rw [errAt, errAt, h 0 (by omega)]
      | succ k => rw [errAt, errAt, h (k + 1) (by omega), h k (by omega)]
    rw [samE, samE, ih (by omega), e]
set_option maxHeartbeats 3200000 in
theorem sam_some (b off n cap : Nat) (M : Nat → Ms) (w : World) (hn : n ≤ 1000) (hM : Mss w b off n M) : Calls Try.prog 45 #[.slice (some ⟨b, off, none⟩) n cap] w fun e w' => e = .returned (.int .i64 (samE M n)) ∧ New w w' := by
  have HM := Lib.hid hM
  clear hM
  go_enter Try.func45, Try.ntmps45
  go_wp2
  go_loopw [8] (fun i wr => ∃ k : Nat, k ≤ n ∧ i = .int .i64 k ∧ Hid (samE M k = 0) ∧ New w wr) (fun i _ => n - (intOf i).toNat)
  case atStart => exact ⟨0, by omega, rfl, Lib.hid rfl, new0 _⟩
  case round =>
    obtain ⟨k, hk, rfl, hE, hNw⟩ := hrel
    have HNw := Lib.hid hNw
    by_cases hlt : k < n
    · obtain ⟨c0, c1, c2⟩ := (HM.out.new hNw).2 k hlt
      have hbz : b < wr.heap.size := (HM.out.new hNw).1
      by_cases hok : okM (M k) = true
      · have HOK := Lib.hid (show okM ⟨(M k).t, (M k).x, (M k).g⟩ = true from hok)
        cases k with
        | zero =>
          have HE1 := Lib.hid (show samE M (0 + 1) = 0 by rw [samE, hE.out, if_pos rfl, errAt, if_pos hok])
          clear hNw hok
          simp only [Nat.zero_mul, Nat.add_zero] at c0 c1 c2
          go_wp2_with (go_at_call 40; refine (samErr_any _ _ _ _).mono ?_; rw [HOK.out]; rintro e w' ⟨rfl, cs, rfl⟩)
          go_quiet (fail)
          go_wp2
          go_roundw
          case rel => exact ⟨0 + 1, by omega, by go_num, HE1, by repeat (first | with_reducible exact new0 _ | with_reducible apply New.alloc | with_reducible apply New.drewN | with_reducible apply New.drew | (with_reducible refine New.setCell ?_ (by simp <;> omega) _) | (with_reducible refine New.trans ?_ HNw.out))⟩
          case measure => simp [intOf]; omega
        | succ k =>
          obtain ⟨d0, d1, d2⟩ := (HM.out.new hNw).2 k (by omega)
          have hlt' : (k : Int) + 1 < n := by omega
          have hlt2 : (k : Int) < n := by omega
          have esub : IntKind.i64.wrap ((k : Int) + 1 - 1) = k := by rw [IntWalk.i64_in _ (by omega)]; omega
          by_cases hl : (M (k + 1)).t < (M k).t
          · have HE1 := Lib.hid (show samE M (k + 1 + 1) = 15 by rw [samE, hE.out, if_pos rfl, errAt, if_pos hok, if_pos hl])
            have HEn := Lib.hid (show samE M n = 15 by rw [samE_more M (k := k + 1 + 1) (by rw [HE1.out]; decide) n (by omega), HE1.out])
            clear hNw hok
            go_wp2_with (go_at_call 40; refine (samErr_any _ _ _ _).mono ?_; rw [HOK.out]; rintro e w' ⟨rfl, cs, rfl⟩)
            go_quiet (fail)
            go_wp2
            go_ret
            exact ⟨ret_int (by rw [HEn.out]), by repeat (first | with_reducible exact new0 _ | with_reducible apply New.alloc | with_reducible apply New.drewN | with_reducible apply New.drew | (with_reducible refine New.setCell ?_ (by simp <;> omega) _) | (with_reducible refine New.trans ?_ HNw.out))⟩
          · have HE1 := Lib.hid (show samE M (k + 1 + 1) = 0 by rw [samE, hE.out, if_pos rfl, errAt, if_pos hok, if_neg hl])
            clear hNw hok
            go_wp2_with (go_at_call 40; refine (samErr_any _ _ _ _).mono ?_; rw [HOK.out]; rintro e w' ⟨rfl, cs, rfl⟩)
            go_quiet (fail)
            go_wp2
            go_roundw
            case rel => exact ⟨k + 1 + 1, by omega, by go_num, HE1, by repeat (first | with_reducible exact new0 _ | with_reducible apply New.alloc | with_reducible apply New.drewN | with_reducible apply New.drew | (with_reducible refine New.setCell ?_ (by simp <;> omega) _) | (with_reducible refine New.trans ?_ HNw.out))⟩
            case measure => simp [intOf]; omega
      · have HOK := Lib.hid (show okM ⟨(M k).t, (M k).x, (M k).g⟩ = false by simpa using hok)
        have HE1 := Lib.hid (show samE M (k + 1) = 6 by
          rw [samE, hE.out, if_pos rfl]
          cases k with
          | zero => rw [errAt, if_neg hok]
          | succ k => rw [errAt, if_neg hok])
        have HEn := Lib.hid (show samE M n = 6 by rw [samE_more M (k := k + 1) (by rw [HE1.out]; decide) n (by omega), HE1.out])
        clear hNw hok
        go_wp2_with (go_at_call 40; refine (samErr_any _ _ _ _).mono ?_; rw [HOK.out]; rintro e w' ⟨rfl, cs, rfl⟩)
        go_ret
        exact ⟨ret_int (by rw [HEn.out]), by repeat (first | with_reducible exact new0 _ | with_reducible apply New.alloc | with_reducible apply New.drewN | with_reducible apply New.drew | (with_reducible refine New.setCell ?_ (by simp <;> omega) _) | (with_reducible refine New.trans ?_ HNw.out))⟩
    · have e : k = n := by omega
      subst e
      clear hNw
      go_wp2
      go_ret
      exact ⟨ret_int (by rw [hE.out]), HNw.out⟩
set_option maxHeartbeats 800000 in
theorem sam_nil (A : Option Addr) (cap : Nat) (w : World) : Calls Try.prog 45 #[.slice A 0 cap] w fun e w' => e = .returned (.int .i64 0) ∧ New w w' := by
  go_enter Try.func45, Try.ntmps45
  go_wp2
  go_loopw [8] (fun i wr => i = .int .i64 0 ∧ wr = w) (fun _ _ => 0)
  case atStart => exact ⟨rfl, rfl⟩
  case round =>
    obtain ⟨rfl, rfl⟩ := hrel
    go_wp2
    go_ret
    exact ⟨rfl, new0 _⟩
theorem sam_v (v : Value) (n : Nat) (M : Nat → Ms) (w : World) (hn : n ≤ 1000) (h : MsV w v n M) : Calls Try.prog 45 #[v] w fun e w' => e = .returned (.int .i64 (samE M n)) ∧ New w w' := by
  rcases h with ⟨rfl, A, cap, rfl⟩ | ⟨b, off, cap, rfl, _, h⟩
  · exact sam_nil A cap w
  · exact sam_some b off n cap M w hn h
set_option maxHeartbeats 3200000 in
theorem rsam2_some (b off n cap : Nat) (M : Nat → Ms) (w : World) (hn : n ≤ 1000) (hM : Mss w b off n M) : Calls Try.prog 46 #[.slice (some ⟨b, off, none⟩) n cap] w fun e w' => e = .returned (.int .i64 (samE M n)) ∧ New w w' := by
  have HM := Lib.hid hM
  clear hM
  go_enter Try.func46, Try.ntmps46
  go_wp2
  go_loopw [3] (fun i wr => ∃ k : Nat, k ≤ n ∧ i = .int .i64 k ∧ Hid (samE M k = 0) ∧ New w wr) (fun i _ => n - (intOf i).toNat)
  case atStart => exact ⟨0, by omega, rfl, Lib.hid rfl, new0 _⟩
  case round =>
    obtain ⟨k, hk, rfl, hE, hNw⟩ := hrel
    have HNw := Lib.hid hNw
    by_cases hlt : k < n
    · obtain ⟨c0, c1, c2⟩ := (HM.out.new hNw).2 k hlt
      have hbz : b < wr.heap.size := (HM.out.new hNw).1
      by_cases hok : okM (M k) = true
      · have HOK := Lib.hid (show okM ⟨(M k).t, (M k).x, (M k).g⟩ = true from hok)
        cases k with
        | zero =>
          have HE1 := Lib.hid (show samE M (0 + 1) = 0 by rw [samE, hE.out, if_pos rfl, errAt, if_pos hok])
          clear hNw hok
          simp only [Nat.zero_mul, Nat.add_zero] at c0 c1 c2
          go_wp2_with (go_at_call 41; refine (rsam_any _ _ _ _).mono ?_; rw [HOK.out]; rintro e w' ⟨rfl, cs, rfl⟩)
          go_quiet (fail)
          go_wp2
          go_roundw
          case rel => exact ⟨0 + 1, by omega, by go_num, HE1, by repeat (first | with_reducible exact new0 _ | with_reducible apply New.alloc | with_reducible apply New.drewN | with_reducible apply New.drew | (with_reducible refine New.setCell ?_ (by simp <;> omega) _) | (with_reducible refine New.trans ?_ HNw.out))⟩
          case measure => simp [intOf]; omega
        | succ k =>
          obtain ⟨d0, d1, d2⟩ := (HM.out.new hNw).2 k (by omega)
          have hlt' : (k : Int) + 1 < n := by omega
          have hlt2 : (k : Int) < n := by omega
          have esub : IntKind.i64.wrap ((k : Int) + 1 - 1) = k := by rw [IntWalk.i64_in _ (by omega)]; omega
          by_cases hl : (M (k + 1)).t < (M k).t
          · have HE1 := Lib.hid (show samE M (k + 1 + 1) = 15 by rw [samE, hE.out, if_pos rfl, errAt, if_pos hok, if_pos hl])
            have HEn := Lib.hid (show samE M n = 15 by rw [samE_more M (k := k + 1 + 1) (by rw [HE1.out]; decide) n (by omega), HE1.out])
            clear hNw hok
            go_wp2_with (go_at_call 41; refine (rsam_any _ _ _ _).mono ?_; rw [HOK.out]; rintro e w' ⟨rfl, cs, rfl⟩)
            go_quiet (fail)
            go_wp2
            go_ret
            exact ⟨ret_int (by rw [HEn.out]), by repeat (first | with_reducible exact new0 _ | with_reducible apply New.alloc | with_reducible apply New.drewN | with_reducible apply New.drew | (with_reducible refine New.setCell ?_ (by simp <;> omega) _) | (with_reducible refine New.trans ?_ HNw.out))⟩
          · have HE1 := Lib.hid (show samE M (k + 1 + 1) = 0 by rw [samE, hE.out, if_pos rfl, errAt, if_pos hok, if_neg hl])
            clear hNw hok
            go_wp2_with (go_at_call 41; refine (rsam_any _ _ _ _).mono ?_; rw [HOK.out]; rintro e w' ⟨rfl, cs, rfl⟩)
            go_quiet (fail)
            go_wp2
            go_roundw
            case rel => exact ⟨k + 1 + 1, by omega, by go_num, HE1, by repeat (first | with_reducible exact new0 _ | with_reducible apply New.alloc | with_reducible apply New.drewN | with_reducible apply New.drew | (with_reducible refine New.setCell ?_ (by simp <;> omega) _) | (with_reducible refine New.trans ?_ HNw.out))⟩
            case measure => simp [intOf]; omega
      · have HOK := Lib.hid (show okM ⟨(M k).t, (M k).x, (M k).g⟩ = false by simpa using hok)
        have HE1 := Lib.hid (show samE M (k + 1) = 6 by
          rw [samE, hE.out, if_pos rfl]
          cases k with
          | zero => rw [errAt, if_neg hok]
          | succ k => rw [errAt, if_neg hok])
        have HEn := Lib.hid (show samE M n = 6 by rw [samE_more M (k := k + 1) (by rw [HE1.out]; decide) n (by omega), HE1.out])
        clear hNw hok
        go_wp2_with (go_at_call 41; refine (rsam_any _ _ _ _).mono ?_; rw [HOK.out]; rintro e w' ⟨rfl, cs, rfl⟩)
        go_ret
        exact ⟨ret_int (by rw [HEn.out]), by repeat (first | with_reducible exact new0 _ | with_reducible apply New.alloc | with_reducible apply New.drewN | with_reducible apply New.drew | (with_reducible refine New.setCell ?_ (by simp <;> omega) _) | (with_reducible refine New.trans ?_ HNw.out))⟩
    · have e : k = n := by omega
      subst e
      clear hNw
      go_wp2
      go_ret
      exact ⟨ret_int (by rw [hE.out]), HNw.out⟩
set_option maxHeartbeats 800000 in
theorem rsam2_nil (A : Option Addr) (cap : Nat) (w : World) : Calls Try.prog 46 #[.slice A 0 cap] w fun e w' => e = .returned (.int .i64 0) ∧ New w w' := by
  go_enter Try.func46, Try.ntmps46
  go_wp2
  go_loopw [3] (fun i wr => i = .int .i64 0 ∧ wr = w) (fun _ _ => 0)
  case atStart => exact ⟨rfl, rfl⟩
  case round =>
    obtain ⟨rfl, rfl⟩ := hrel
    go_wp2
    go_ret
    exact ⟨rfl, new0 _⟩
theorem rsam2_v (v : Value) (n : Nat) (M : Nat → Ms) (w : World) (hn : n ≤ 1000) (h : MsV w v n M) : Calls Try.prog 46 #[v] w fun e w' => e = .returned (.int .i64 (samE M n)) ∧ New w w' := by
  rcases h with ⟨rfl, A, cap, rfl⟩ | ⟨b, off, cap, rfl, _, h⟩
  · exact rsam2_nil A cap w
  · exact rsam2_some b off n cap M w hn h
end Go.Proofs.Ytedbjnojogjnkaa
