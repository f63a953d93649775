/-
  What is a name, by the reference.
-/
import Derived.Test.YtjkfdmbhiooeiaaWalks
namespace Go.Proofs.Ytjkfdmbhiooeiaa
open Go.RowKit

/-- Each byte of a name is a letter, or stands not first and is a digit or the line. -/
def okAt (s : ByteArray) (k : Nat) : Prop := ∀ h : k < s.size, (97 ≤ (s[k].toNat : Int) ∧ (s[k].toNat : Int) ≤ 122) ∨ (k ≠ 0 ∧ ((48 ≤ (s[k].toNat : Int) ∧ (s[k].toNat : Int) ≤ 57) ∨ (s[k].toNat : Int) = 95))
/-- Is this a name? -/
def IsNm (s : ByteArray) : Prop := 1 ≤ s.size ∧ s.size ≤ 20 ∧ ∀ k, k < s.size → okAt s k
def NmPost (s : ByteArray) (w : World) (e : Ending) (w' : World) : Prop := (∃ b : Bool, e = .returned (.bool b) ∧ (b = true ↔ IsNm s)) ∧ w = w'

theorem nm_bad {s : ByteArray} {w : World} {k : Nat} (hk : k < s.size) (h : ¬ okAt s k) : NmPost s w (.returned (.bool false)) w := ⟨⟨false, rfl, by simp; exact fun hn => h (hn.2.2 k hk)⟩, rfl⟩
theorem nm_good {s : ByteArray} {w : World} (h1 : 1 ≤ s.size) (h2 : s.size ≤ 20) (h : ∀ j, j < s.size → okAt s j) : NmPost s w (.returned (.bool true)) w := ⟨⟨true, rfl, by simp; exact ⟨h1, h2, h⟩⟩, rfl⟩
theorem ok_next {s : ByteArray} {k : Nat} (h : ∀ j, j < k → okAt s j) (hk : okAt s k) : ∀ j, j < k + 1 → okAt s j := fun j hj => by
  by_cases e : j = k
  · subst e; exact hk
  · exact h j (by omega)

set_option maxHeartbeats 1600000 in
theorem rname_any (s : ByteArray) (w : World) (h1 : 1 ≤ s.size) (h2 : s.size ≤ 20) (hne : s.toList.isEmpty = false) : Calls Try.prog 37 #[.string s] w (NmPost s w) := by
  have h3 : ¬ (20 : Int) < s.size := by omega
  go_enter Try.func37, Try.ntmps37
  go_wp2
  go_loopw [3] (fun i wr => ∃ k : Nat, k ≤ s.size ∧ i = .int .i64 k ∧ wr = w ∧ Hid (∀ j, j < k → okAt s j)) (fun i _ => s.size - (intOf i).toNat)
  case atStart => exact ⟨0, by omega, rfl, rfl, Lib.hid fun j hj => absurd hj (by omega)⟩
  case round =>
    obtain ⟨k, hk, rfl, rfl, hH⟩ := hrel
    by_cases hlt : k < s.size
    · by_cases hk0 : k = 0
      · subst hk0
        go_wp2
        all_goals first
          | (go_ret; exact nm_bad hlt (fun h => by have hh := h hlt; go_light; simp at *; omega))
          | (go_roundw
             case rel => exact ⟨0 + 1, by omega, by go_num, (by first | trivial | rfl), Lib.hid (ok_next hH.out (fun _ => by go_light; simp at *; omega))⟩
             case measure => simp [intOf]; omega)
      · have hk1 : ((k : Int) == 0) = false := by simpa using hk0
        have HK := Lib.hid hk0
        clear hk0
        go_wp2
        all_goals first
          | (go_ret; exact nm_bad hlt (fun h => by have hh := h hlt; go_light; simp at *; omega))
          | (go_roundw
             case rel => exact ⟨k + 1, by omega, by go_num, (by first | trivial | rfl), Lib.hid (ok_next hH.out (fun _ => by go_light; simp at *; omega))⟩
             case measure => simp [intOf]; omega)
    · go_wp2
      go_ret
      exact nm_good h1 h2 (fun j hj => hH.out j (by omega))
set_option maxHeartbeats 800000 in
theorem rname_long (s : ByteArray) (w : World) (h1 : 20 < s.size) (hne : s.toList.isEmpty = false) : Calls Try.prog 37 #[.string s] w (NmPost s w) := by
  have h3 : (20 : Int) < s.size := by omega
  go_enter Try.func37, Try.ntmps37
  go_wp2
  go_ret
  exact ⟨⟨false, rfl, by simp; exact fun hn => by have := hn.2.1; omega⟩, rfl⟩
set_option maxHeartbeats 800000 in
theorem rname_none (w : World) : Calls Try.prog 37 #[.string ⟨#[]⟩] w (NmPost ⟨#[]⟩ w) := by
  go_enter Try.func37, Try.ntmps37
  go_wp2
  go_ret
  exact ⟨⟨false, rfl, by simp; exact fun hn => absurd hn.1 (by decide)⟩, rfl⟩
theorem rname_all (s : ByteArray) (w : World) : Calls Try.prog 37 #[.string s] w (NmPost s w) := by
  by_cases h0 : s.size = 0
  · obtain ⟨⟨l⟩⟩ := s
    have : l = [] := by simpa [ByteArray.size] using h0
    subst this
    exact rname_none w
  · have hne : s.toList.isEmpty = false := by
      rw [ByteArray.toList_eq]
      cases hl : s.data.toList with
      | nil =>
        have : s.size = s.data.toList.length := rfl
        rw [hl] at this
        exact absurd this h0
      | cons c l => rfl
    by_cases h1 : s.size ≤ 20
    · exact rname_any s w (by omega) h1 hne
    · exact rname_long s w (by omega) hne
end Go.Proofs.Ytjkfdmbhiooeiaa
