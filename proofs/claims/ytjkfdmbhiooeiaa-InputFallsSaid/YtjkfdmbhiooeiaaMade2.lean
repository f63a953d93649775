/-
  Samples of any bytes; what the states of a run are.
-/
import Derived.Test.YtjkfdmbhiooeiaaMade
namespace Go.Proofs.Ytjkfdmbhiooeiaa
open Go.RowKit
/-- A slice's value holds these bytes. -/
def BytV (w : World) (v : Value) (n : Nat) (X : Nat → Int) : Prop := (n = 0 ∧ ∃ (A : Option Addr) (cap : Nat), v = .slice A 0 cap) ∨ ∃ (b off cap : Nat), v = .slice (some ⟨b, off, none⟩) n cap ∧ Byts w b off n X
theorem BytV.new {W W' : World} {v : Value} {n : Nat} {X : Nat → Int} (h : BytV W v n X) (hn : New W W') : BytV W' v n X := by
  rcases h with h | ⟨b, off, cap, e, h⟩
  · exact .inl h
  · exact .inr ⟨b, off, cap, e, h.new hn⟩
set_option maxHeartbeats 800000 in
theorem samples_nil (A : Option Addr) (cap : Nat) (s : Nat → Sm) (w : World) : Calls Try.prog 30 #[.slice A 0 cap] w (SamplesPost w 0 s) := by
  go_enter Try.func30, Try.ntmps30
  go_wp2
  go_loopw [3, 4] (fun v i wr => v = .slice none 0 0 ∧ i = .int .i64 0 ∧ wr = w) (fun _ _ _ => 0)
  case atStart => exact ⟨rfl, rfl, rfl⟩
  case round =>
    obtain ⟨rfl, rfl, rfl⟩ := hrel
    go_wp2
    go_ret
    exact ⟨_, rfl, World.ownsRow_nil _ _ _ _, new0 _⟩
theorem samples_any (v : Value) (n : Nat) (X : Nat → Int) (w : World) (hn : n ≤ 100) (h : BytV w v n X) : Calls Try.prog 30 #[v] w (SamplesPost w n (fun j => smB (X j))) := by
  rcases h with ⟨rfl, A, cap, rfl⟩ | ⟨b, off, cap, rfl, h⟩
  · exact samples_nil A cap _ w
  · exact samples_some b off n cap X w hn h

/-- How many of the last raw states before k, one behind the other, are 1. -/
def gd (R : Nat → Int) : Nat → Nat
  | 0 => 0
  | k + 1 => if R k = 1 then gd R k + 1 else 0
def bd (R : Nat → Int) : Nat → Nat
  | 0 => 0
  | k + 1 => if R k = 1 then 0 else bd R k + 1
theorem gd_le (R : Nat → Int) (k : Nat) : gd R k ≤ k := by
  induction k with
  | zero => exact Nat.le_refl _
  | succ k ih => unfold gd; split <;> omega
theorem bd_le (R : Nat → Int) (k : Nat) : bd R k ≤ k := by
  induction k with
  | zero => exact Nat.le_refl _
  | succ k ih => unfold bd; split <;> omega
theorem raw_cases (ma : Int) (s : Sm) : rawK ma s = 1 ∨ rawK ma s = 2 ∨ rawK ma s = 3 := by
  unfold rawK rawI
  split
  · exact .inr (.inr rfl)
  · split
    · exact .inl rfl
    · exact .inr (.inl rfl)
theorem stp_eq (ri fa : Int) (f : Fl) (r : Int) : stp ri fa f r = if r = f.s then ⟨f.s, 0, 0⟩ else if nedI ri fa r ≤ cntI f.s f.c f.n r then ⟨r, 0, 0⟩ else ⟨f.s, r, cntI f.s f.c f.n r⟩ := by
  unfold stp stpS stpC stpN
  split
  · rfl
  · split <;> rfl
theorem rise_inv (ma ri fa : Int) (s : Nat → Sm) (k : Nat) : ((flt ma ri fa s k).c = 1 → (flt ma ri fa s k).n ≤ gd (fun j => rawK ma (s j)) k) ∧ 0 ≤ (flt ma ri fa s k).n := by
  induction k with
  | zero => simp [flt]
  | succ k ih =>
    obtain ⟨h1, h2⟩ := ih
    have hstep : flt ma ri fa s (k + 1) = stp ri fa (flt ma ri fa s k) (rawK ma (s k)) := rfl
    rw [hstep, stp_eq]
    generalize flt ma ri fa s k = f at h1 h2 ⊢
    generalize hr : rawK ma (s k) = r
    have hg : gd (fun j => rawK ma (s j)) (k + 1) = if r = 1 then gd (fun j => rawK ma (s j)) k + 1 else 0 := by rw [gd, hr]
    rw [hg]
    generalize gd (fun j => rawK ma (s j)) k = g at h1 ⊢
    have hc : 0 ≤ cntI f.s f.c f.n r := by unfold cntI; split <;> omega
    split
    · simp
    · split
      · simp
      · refine ⟨fun (hr1 : r = 1) => ?_, hc⟩
        rw [if_pos hr1]
        show cntI f.s f.c f.n r ≤ ((g + 1 : Nat) : Int)
        unfold cntI
        subst hr1
        split
        · rename_i h _ hx
          rcases hx with hx | hx
          · have := h1 hx.symm
            omega
          · exact absurd hx.1.symm h
        · omega
theorem rise_ok (ma ri fa : Int) (s : Nat → Sm) (k : Nat) (h1 : (flt ma ri fa s (k + 1)).s = 1) (h0 : ¬ (flt ma ri fa s k).s = 1) : ri ≤ gd (fun j => rawK ma (s j)) (k + 1) := by
  obtain ⟨i1, i2⟩ := rise_inv ma ri fa s k
  have hstep : flt ma ri fa s (k + 1) = stp ri fa (flt ma ri fa s k) (rawK ma (s k)) := rfl
  rw [hstep, stp_eq] at h1
  generalize flt ma ri fa s k = f at *
  generalize hr : rawK ma (s k) = r at *
  have hg : gd (fun j => rawK ma (s j)) (k + 1) = if r = 1 then gd (fun j => rawK ma (s j)) k + 1 else 0 := by rw [gd, hr]
  rw [hg]
  generalize gd (fun j => rawK ma (s j)) k = g at i1 ⊢
  split at h1
  · exact absurd h1 h0
  · split at h1
    · rename_i hne hle
      have hr1 : r = 1 := h1
      subst hr1
      rw [if_pos rfl]
      have : nedI ri fa 1 = ri := by simp [nedI]
      rw [this] at hle
      unfold cntI at hle
      split at hle
      · rename_i hx
        rcases hx with hx | hx
        · have := i1 hx.symm
          push_cast
          omega
        · exact absurd hx.1 h0
      · push_cast
        omega
    · exact absurd h1 h0
theorem fall_inv (ma ri fa : Int) (hfa : 1 ≤ fa) (s : Nat → Sm) (k : Nat) : (flt ma ri fa s k).s = 1 → (bd (fun j => rawK ma (s j)) k : Int) < fa ∧ (((flt ma ri fa s k).c = 0 ∧ bd (fun j => rawK ma (s j)) k = 0) ∨ ((flt ma ri fa s k).c ≠ 0 ∧ (flt ma ri fa s k).n = bd (fun j => rawK ma (s j)) k)) := by
  induction k with
  | zero => intro h; simp [flt] at h
  | succ k ih =>
    have hstep : flt ma ri fa s (k + 1) = stp ri fa (flt ma ri fa s k) (rawK ma (s k)) := rfl
    rw [hstep, stp_eq]
    have hrc := raw_cases ma (s k)
    generalize flt ma ri fa s k = f at ih ⊢
    generalize hr : rawK ma (s k) = r at hrc ⊢
    have hg : bd (fun j => rawK ma (s j)) (k + 1) = if r = 1 then 0 else bd (fun j => rawK ma (s j)) k + 1 := by rw [bd, hr]
    rw [hg]
    generalize bd (fun j => rawK ma (s j)) k = g at ih ⊢
    split
    · rename_i he
      intro h
      have h' : f.s = 1 := h
      rw [h'] at he
      rw [if_pos he]
      exact ⟨by simp; omega, .inl ⟨rfl, rfl⟩⟩
    · rename_i hne
      split
      · intro h
        have h' : r = 1 := h
        rw [if_pos h']
        exact ⟨by simp; omega, .inl ⟨rfl, rfl⟩⟩
      · rename_i hle
        intro h
        have h' : f.s = 1 := h
        obtain ⟨b1, b2⟩ := ih h'
        have hr1 : ¬ r = 1 := fun e => hne (e.trans h'.symm)
        have hn : nedI ri fa r = fa := by simp [nedI, hr1]
        rw [hn] at hle
        rw [if_neg hr1]
        have hcnt : cntI f.s f.c f.n r = ((g + 1 : Nat) : Int) := by
          unfold cntI
          rcases b2 with ⟨b3, b4⟩ | ⟨b3, b4⟩
          · rw [if_neg (by rw [b3]; omega), b4]; rfl
          · rw [if_pos (.inr ⟨h', b3⟩), b4]; push_cast; rfl
        rw [hcnt] at hle ⊢
        exact ⟨by omega, .inr ⟨by show r ≠ 0; omega, rfl⟩⟩
theorem fall_ok (ma ri fa : Int) (hfa : 1 ≤ fa) (s : Nat → Sm) (k : Nat) (h : fa ≤ bd (fun j => rawK ma (s j)) k) : ¬ (flt ma ri fa s k).s = 1 := fun h1 => by
  have := (fall_inv ma ri fa hfa s k h1).1
  omega
theorem stuck_ok (ma ri fa : Int) (s : Nat → Sm) (n : Nat) (h : ∀ j, j < n → rawK ma (s j) = 3) : ∀ k, k ≤ n → (flt ma ri fa s k).s = 3 := by
  intro k
  induction k with
  | zero => intro _; rfl
  | succ k ih =>
    intro hk
    have hstep : flt ma ri fa s (k + 1) = stp ri fa (flt ma ri fa s k) (rawK ma (s k)) := rfl
    rw [hstep, stp_eq, h k (by omega), ih (by omega)]
    rfl
end Go.Proofs.Ytjkfdmbhiooeiaa
