/-
  What is a name, by the program: the loop over its bytes, and the whole.
-/
import Derived.Test.YtjkfdmbhiooeiaaClos
import Derived.Laws.IdiomStrings
namespace Go.Proofs.Ytjkfdmbhiooeiaa
open Go.RowKit

/-- The bytes of s lie in block b. -/
def Bytes (w : World) (b : Nat) (s : ByteArray) : Prop := ∀ k (h : k < s.size), w.cell? ⟨b, k, none⟩ = some (.int .u8 (s[k].toNat : Int))
def allNam (s : ByteArray) (k : Nat) : Prop := ∀ j (h : j < s.size), j < k → namB (s[j].toNat : Int) = true

set_option maxHeartbeats 1600000 in
theorem index_any (s : ByteArray) (B b cap : Nat) (w : World) (hB : w.cell? ⟨B, 0, none⟩ = some (.func (.func 46) #[] #[])) (hb : Bytes w b s) (hs : s.size < 100) :
    Calls Try.prog 51 #[.slice (some ⟨b, 0, none⟩) s.size cap, .func (.func 48) #[] #[.pointer (some ⟨B, 0, none⟩)]] w fun e w' => (∃ i : Int, e = .returned (.int .i64 i) ∧ (i < 0 ↔ allNam s s.size)) ∧ w = w' := by
  go_enter Try.func51, Try.ntmps51
  go_wp2
  go_loopw [8] (fun i wr => ∃ k : Nat, k ≤ s.size ∧ i = .int .i64 k ∧ wr = w ∧ Hid (allNam s k)) (fun i _ => s.size - (intOf i).toNat)
  case atStart => exact ⟨0, by omega, rfl, rfl, Lib.hid fun j h hj => absurd hj (by omega)⟩
  case round =>
    obtain ⟨k, hk, rfl, rfl, hH⟩ := hrel
    by_cases hlt : k < s.size
    · have hc := hb k hlt
      by_cases hn : namB (s[k].toNat : Int) = true
      · go_wp2_with (go_at_call 48; refine (clos_any _ _ _ hB).mono ?_; rintro e w' ⟨rfl, rfl⟩)
        go_roundw
        case rel => exact ⟨k + 1, by omega, by go_num, (by first | trivial | rfl), Lib.hid (fun j h hj => by
            by_cases e : j = k
            · subst e; exact hn
            · exact hH.out j h (by omega))⟩
        case measure => simp [intOf]; omega
      · have hn' : namB (s[k].toNat : Int) = false := by simpa using hn
        have HN := Lib.hid hn
        clear hn
        go_wp2_with (go_at_call 48; refine (clos_any _ _ _ hB).mono ?_; rintro e w' ⟨rfl, rfl⟩)
        go_ret
        exact ⟨⟨k, rfl, by
          constructor
          · intro h; omega
          · intro h; exact absurd (h k hlt hlt) HN.out⟩, rfl⟩
    · go_wp2
      go_ret
      exact ⟨⟨-1, rfl, by
          constructor
          · intro _ j h hj; exact hH.out j h (by omega)
          · intro _; omega⟩, rfl⟩
set_option maxHeartbeats 800000 in
theorem contains_any (s : ByteArray) (B b cap : Nat) (w : World) (hB : w.cell? ⟨B, 0, none⟩ = some (.func (.func 46) #[] #[])) (hb : Bytes w b s) (hs : s.size < 100) :
    Calls Try.prog 47 #[.slice (some ⟨b, 0, none⟩) s.size cap, .func (.func 48) #[] #[.pointer (some ⟨B, 0, none⟩)]] w fun e w' => (∃ c : Bool, e = .returned (.bool c) ∧ (c = false ↔ allNam s s.size)) ∧ w = w' := by
  go_enter Try.func47, Try.ntmps47
  go_wp2_with (go_at_call 51; refine (index_any _ _ _ _ _ hB hb hs).mono ?_; rintro e w' ⟨⟨i, rfl, hi⟩, rfl⟩; replace hi := Lib.hid hi)
  go_ret
  exact ⟨⟨_, rfl, by have := hi.out; go_light; rw [← this]; simp⟩, rfl⟩
end Go.Proofs.Ytjkfdmbhiooeiaa
