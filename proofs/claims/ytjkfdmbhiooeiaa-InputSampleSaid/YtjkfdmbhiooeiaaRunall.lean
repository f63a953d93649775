/-
  Run, by the program and by the reference, at every list.
-/
import Derived.Test.YtjkfdmbhiooeiaaRrun
namespace Go.Proofs.Ytjkfdmbhiooeiaa
open Go.RowKit
/-- A slice's value holds these samples. -/
def SmV (w : World) (v : Value) (n : Nat) (s : Nat → Sm) : Prop := (n = 0 ∧ ∃ (A : Option Addr) (cap : Nat), v = .slice A 0 cap) ∨ ∃ (b off cap : Nat), v = .slice (some ⟨b, off, none⟩) n cap ∧ Smps w b off n s
theorem SmV.new {W W' : World} {v : Value} {n : Nat} {s : Nat → Sm} (h : SmV W v n s) (hn : New W W') : SmV W' v n s := by
  rcases h with h | ⟨b, off, cap, e, h⟩
  · exact .inl h
  · exact .inr ⟨b, off, cap, e, h.new hn⟩
theorem first_bad (s : Nat → Sm) (n : Nat) (h : allG s n = false) : ∃ m, m < n ∧ goodK s m = false ∧ ∀ j, j < m → goodK s j = true := by
  induction n with
  | zero => simp [allG] at h
  | succ n ih =>
    by_cases hn : allG s n = true
    · refine ⟨n, by omega, ?_, (allG_iff s n).1 hn⟩
      have hn' := (allG_iff s n).1 hn
      by_cases hg : goodK s n = true
      · have : allG s (n + 1) = true := (allG_iff s (n + 1)).2 fun j hj => by
          by_cases e : j = n
          · subst e; exact hg
          · exact hn' j (by omega)
        rw [this] at h
        cases h
      · simpa using hg
    · obtain ⟨m, h1, h2, h3⟩ := ih (by simpa using hn)
      exact ⟨m, by omega, h2, h3⟩
set_option maxHeartbeats 800000 in
theorem run_err (nm : ByteArray) (ma ri fa : Int) (A : Option Addr) (n cap : Nat) (w : World) (v : Int) (hv : valE nm ma ri fa = v) (h0 : ¬ v = 0) : Calls Try.prog 20 #[.agg #[.string nm, .int .i64 ma, .int .i64 ri, .int .i64 fa], .slice A n cap] w (RunPost w [] v) := by
  have HV := Lib.hid hv
  clear hv
  go_enter Try.func20, Try.ntmps20
  go_wp2_with fail
  refine (valid_any nm ma ri fa _).mono ?_
  rw [HV.out]
  rintro e w1 ⟨rfl, g1⟩
  have H1 := Lib.hid (New.trans ((new0 w).alloc _) g1)
  clear g1
  go_wp2_with fail
  go_ret2
  exact ⟨_, rfl, .inl ⟨rfl, none, 0, rfl⟩, by repeat (first | with_reducible exact new0 _ | with_reducible apply New.alloc | with_reducible apply New.drewN | with_reducible apply New.drew | (with_reducible refine New.setCell ?_ (by simp <;> omega) _) | (with_reducible refine New.trans ?_ H1.out))⟩
set_option maxHeartbeats 800000 in
theorem run_long (nm : ByteArray) (ma ri fa : Int) (A : Option Addr) (n cap : Nat) (w : World) (hv : valE nm ma ri fa = 0) (hn : 1000 < n) : Calls Try.prog 20 #[.agg #[.string nm, .int .i64 ma, .int .i64 ri, .int .i64 fa], .slice A n cap] w (RunPost w [] 3) := by
  have HV := Lib.hid hv
  have hn' : (1000 : Int) < n := by omega
  clear hv
  go_enter Try.func20, Try.ntmps20
  go_wp2_with fail
  refine (valid_any nm ma ri fa _).mono ?_
  rw [HV.out]
  rintro e w1 ⟨rfl, g1⟩
  have H1 := Lib.hid (New.trans ((new0 w).alloc _) g1)
  clear g1
  go_wp2_with fail
  go_ret2
  exact ⟨_, rfl, .inl ⟨rfl, none, 0, rfl⟩, by repeat (first | with_reducible exact new0 _ | with_reducible apply New.alloc | with_reducible apply New.drewN | with_reducible apply New.drew | (with_reducible refine New.setCell ?_ (by simp <;> omega) _) | (with_reducible refine New.trans ?_ H1.out))⟩
set_option maxHeartbeats 800000 in
theorem run_nil (nm : ByteArray) (ma ri fa : Int) (A : Option Addr) (cap : Nat) (w : World) (hv : valE nm ma ri fa = 0) : Calls Try.prog 20 #[.agg #[.string nm, .int .i64 ma, .int .i64 ri, .int .i64 fa], .slice A 0 cap] w (RunPost w [] 0) := by
  have HV := Lib.hid hv
  clear hv
  go_enter Try.func20, Try.ntmps20
  go_wp2_with fail
  refine (valid_any nm ma ri fa _).mono ?_
  rw [HV.out]
  rintro e w1 ⟨rfl, g1⟩
  have H1 := Lib.hid (New.trans ((new0 w).alloc _) g1)
  clear g1
  go_wp2_with fail
  go_loopw [7, 23] (fun v i wr => v = .slice none 0 0 ∧ i = .int .i64 0 ∧ New w wr) (fun _ _ _ => 0)
  case atStart => exact ⟨rfl, rfl, by repeat (first | with_reducible exact new0 _ | with_reducible apply New.alloc | with_reducible apply New.drewN | with_reducible apply New.drew | (with_reducible refine New.setCell ?_ (by simp <;> omega) _) | (with_reducible refine New.trans ?_ H1.out))⟩
  case round =>
    obtain ⟨rfl, rfl, hNw⟩ := hrel
    have HNw := Lib.hid hNw
    clear hNw
    go_wp2
    go_ret2
    exact ⟨_, rfl, .inl ⟨rfl, none, 0, rfl⟩, HNw.out⟩
theorem run_any (nm : ByteArray) (ma ri fa : Int) (n : Nat) (s : Nat → Sm) (v : Value) (w : World) (hS : SmV w v n s) : Calls Try.prog 20 #[.agg #[.string nm, .int .i64 ma, .int .i64 ri, .int .i64 fa], v] w (RunPost w (runL (valE nm ma ri fa) ma ri fa s n) (runE (valE nm ma ri fa) s n)) := by
  by_cases h1 : valE nm ma ri fa = 0
  · by_cases h2 : 1000 < n
    · have e : runE (valE nm ma ri fa) s n = 3 := by unfold runE; rw [if_neg (by simpa using h1), if_pos h2]
      have e' : runL (valE nm ma ri fa) ma ri fa s n = [] := by unfold runL; rw [e]; rfl
      rw [e, e']
      rcases hS with ⟨rfl, A, cap, rfl⟩ | ⟨b, off, cap, rfl, _⟩
      · omega
      · exact run_long nm ma ri fa _ n cap w h1 h2
    · rcases hS with ⟨rfl, A, cap, rfl⟩ | ⟨b, off, cap, rfl, hS⟩
      · have e : runE (valE nm ma ri fa) s 0 = 0 := by unfold runE; rw [if_neg (by simpa using h1), if_neg h2, if_pos (by simp [allG])]
        have e' : runL (valE nm ma ri fa) ma ri fa s 0 = [] := by unfold runL; rw [if_pos e]; rfl
        rw [e, e']
        exact run_nil nm ma ri fa A cap w h1
      · by_cases hg : allG s n = true
        · have e : runE (valE nm ma ri fa) s n = 0 := by unfold runE; rw [if_neg (by simpa using h1), if_neg h2, if_pos hg]
          have e' : runL (valE nm ma ri fa) ma ri fa s n = lst ma ri fa s n := by unfold runL; rw [if_pos e]
          rw [e, e']
          exact run_gen nm ma ri fa b off n n cap s _ 0 w h1 (by omega) hS ((allG_iff s n).1 hg) (.inl ⟨rfl, rfl, rfl⟩)
        · have e : runE (valE nm ma ri fa) s n = 6 := by unfold runE; rw [if_neg (by simpa using h1), if_neg h2, if_neg hg]
          have e' : runL (valE nm ma ri fa) ma ri fa s n = [] := by unfold runL; rw [e]; rfl
          rw [e, e']
          obtain ⟨m, hm1, hm2, hm3⟩ := first_bad s n (by simpa using hg)
          exact run_gen nm ma ri fa b off n m cap s _ 6 w h1 (by omega) hS hm3 (.inr ⟨hm1, hm2, rfl, rfl⟩)
  · have e : runE (valE nm ma ri fa) s n = valE nm ma ri fa := by unfold runE; rw [if_pos (by simpa using h1)]
    have e' : runL (valE nm ma ri fa) ma ri fa s n = [] := by unfold runL; rw [e, if_neg h1]
    rw [e, e']
    rcases hS with ⟨rfl, A, cap, rfl⟩ | ⟨b, off, cap, rfl, _⟩
    · exact run_err nm ma ri fa A 0 cap w _ rfl h1
    · exact run_err nm ma ri fa _ n cap w _ rfl h1
set_option maxHeartbeats 800000 in
theorem rrun_err (nm : ByteArray) (ma ri fa : Int) (A : Option Addr) (n cap : Nat) (w : World) (v : Int) (hv : valE nm ma ri fa = v) (h0 : ¬ v = 0) : Calls Try.prog 22 #[.agg #[.string nm, .int .i64 ma, .int .i64 ri, .int .i64 fa], .slice A n cap] w (RunPost w [] v) := by
  have HV := Lib.hid hv
  clear hv
  go_enter Try.func22, Try.ntmps22
  go_wp2_with fail
  refine (rvalid_any nm ma ri fa _).mono ?_
  rw [HV.out]
  rintro e w1 ⟨rfl, g1⟩
  have H1 := Lib.hid (New.trans ((new0 w).alloc _) g1)
  clear g1
  go_wp2_with fail
  go_ret2
  exact ⟨_, rfl, .inl ⟨rfl, none, 0, rfl⟩, by repeat (first | with_reducible exact new0 _ | with_reducible apply New.alloc | with_reducible apply New.drewN | with_reducible apply New.drew | (with_reducible refine New.setCell ?_ (by simp <;> omega) _) | (with_reducible refine New.trans ?_ H1.out))⟩
set_option maxHeartbeats 800000 in
theorem rrun_long (nm : ByteArray) (ma ri fa : Int) (A : Option Addr) (n cap : Nat) (w : World) (hv : valE nm ma ri fa = 0) (hn : 1000 < n) : Calls Try.prog 22 #[.agg #[.string nm, .int .i64 ma, .int .i64 ri, .int .i64 fa], .slice A n cap] w (RunPost w [] 3) := by
  have HV := Lib.hid hv
  have hn' : (1000 : Int) < n := by omega
  clear hv
  go_enter Try.func22, Try.ntmps22
  go_wp2_with fail
  refine (rvalid_any nm ma ri fa _).mono ?_
  rw [HV.out]
  rintro e w1 ⟨rfl, g1⟩
  have H1 := Lib.hid (New.trans ((new0 w).alloc _) g1)
  clear g1
  go_wp2_with fail
  go_ret2
  exact ⟨_, rfl, .inl ⟨rfl, none, 0, rfl⟩, by repeat (first | with_reducible exact new0 _ | with_reducible apply New.alloc | with_reducible apply New.drewN | with_reducible apply New.drew | (with_reducible refine New.setCell ?_ (by simp <;> omega) _) | (with_reducible refine New.trans ?_ H1.out))⟩
set_option maxHeartbeats 800000 in
theorem rrun_nil (nm : ByteArray) (ma ri fa : Int) (A : Option Addr) (cap : Nat) (w : World) (hv : valE nm ma ri fa = 0) : Calls Try.prog 22 #[.agg #[.string nm, .int .i64 ma, .int .i64 ri, .int .i64 fa], .slice A 0 cap] w (RunPost w [] 0) := by
  have HV := Lib.hid hv
  clear hv
  go_enter Try.func22, Try.ntmps22
  go_wp2_with fail
  refine (rvalid_any nm ma ri fa _).mono ?_
  rw [HV.out]
  rintro e w1 ⟨rfl, g1⟩
  have H1 := Lib.hid (New.trans ((new0 w).alloc _) g1)
  clear g1
  go_wp2_with fail
  refine (start_any _).mono ?_
  rintro e w0 ⟨rfl, g0⟩
  have H0 := Lib.hid (H1.out.trans g0)
  clear g0
  go_wp2_with fail
  go_loopw [7, 9] (fun v i wr => v = .slice none 0 0 ∧ i = .int .i64 0 ∧ New w wr) (fun _ _ _ => 0)
  case atStart => exact ⟨rfl, rfl, by repeat (first | with_reducible exact new0 _ | with_reducible apply New.alloc | with_reducible apply New.drewN | with_reducible apply New.drew | (with_reducible refine New.setCell ?_ (by simp <;> omega) _) | (with_reducible refine New.trans ?_ H0.out))⟩
  case round =>
    obtain ⟨rfl, rfl, hNw⟩ := hrel
    have HNw := Lib.hid hNw
    clear hNw
    go_wp2
    go_ret2
    exact ⟨_, rfl, .inl ⟨rfl, none, 0, rfl⟩, HNw.out⟩
theorem rrun_any (nm : ByteArray) (ma ri fa : Int) (n : Nat) (s : Nat → Sm) (v : Value) (w : World) (hS : SmV w v n s) : Calls Try.prog 22 #[.agg #[.string nm, .int .i64 ma, .int .i64 ri, .int .i64 fa], v] w (RunPost w (runL (valE nm ma ri fa) ma ri fa s n) (runE (valE nm ma ri fa) s n)) := by
  by_cases h1 : valE nm ma ri fa = 0
  · by_cases h2 : 1000 < n
    · have e : runE (valE nm ma ri fa) s n = 3 := by unfold runE; rw [if_neg (by simpa using h1), if_pos h2]
      have e' : runL (valE nm ma ri fa) ma ri fa s n = [] := by unfold runL; rw [e]; rfl
      rw [e, e']
      rcases hS with ⟨rfl, A, cap, rfl⟩ | ⟨b, off, cap, rfl, _⟩
      · omega
      · exact rrun_long nm ma ri fa _ n cap w h1 h2
    · rcases hS with ⟨rfl, A, cap, rfl⟩ | ⟨b, off, cap, rfl, hS⟩
      · have e : runE (valE nm ma ri fa) s 0 = 0 := by unfold runE; rw [if_neg (by simpa using h1), if_neg h2, if_pos (by simp [allG])]
        have e' : runL (valE nm ma ri fa) ma ri fa s 0 = [] := by unfold runL; rw [if_pos e]; rfl
        rw [e, e']
        exact rrun_nil nm ma ri fa A cap w h1
      · by_cases hg : allG s n = true
        · have e : runE (valE nm ma ri fa) s n = 0 := by unfold runE; rw [if_neg (by simpa using h1), if_neg h2, if_pos hg]
          have e' : runL (valE nm ma ri fa) ma ri fa s n = lst ma ri fa s n := by unfold runL; rw [if_pos e]
          rw [e, e']
          exact rrun_gen nm ma ri fa b off n n cap s _ 0 w h1 (by omega) hS ((allG_iff s n).1 hg) (.inl ⟨rfl, rfl, rfl⟩)
        · have e : runE (valE nm ma ri fa) s n = 6 := by unfold runE; rw [if_neg (by simpa using h1), if_neg h2, if_neg hg]
          have e' : runL (valE nm ma ri fa) ma ri fa s n = [] := by unfold runL; rw [e]; rfl
          rw [e, e']
          obtain ⟨m, hm1, hm2, hm3⟩ := first_bad s n (by simpa using hg)
          exact rrun_gen nm ma ri fa b off n m cap s _ 6 w h1 (by omega) hS hm3 (.inr ⟨hm1, hm2, rfl, rfl⟩)
  · have e : runE (valE nm ma ri fa) s n = valE nm ma ri fa := by unfold runE; rw [if_pos (by simpa using h1)]
    have e' : runL (valE nm ma ri fa) ma ri fa s n = [] := by unfold runL; rw [e, if_neg h1]
    rw [e, e']
    rcases hS with ⟨rfl, A, cap, rfl⟩ | ⟨b, off, cap, rfl, _⟩
    · exact rrun_err nm ma ri fa A 0 cap w _ rfl h1
    · exact rrun_err nm ma ri fa _ n cap w _ rfl h1
end Go.Proofs.Ytjkfdmbhiooeiaa
