/-
  The closure that isName hands over.
-/
import Derived.Test.YtjkfdmbhiooeiaaName
import Derived.Laws.EntriesVeiled
namespace Go.Proofs.Ytjkfdmbhiooeiaa
open Go.RowKit
set_option maxHeartbeats 800000 in
theorem clos_any (c : Int) (B : Nat) (w : World) (hB : w.cell? ⟨B, 0, none⟩ = some (.func (.func 46) #[] #[])) : Calls Try.prog 48 #[.int .u8 c, .pointer (some ⟨B, 0, none⟩)] w fun e w' => e = .returned (.bool (!namB c)) ∧ w = w' := by
  go_enter Try.func48, Try.ntmps48
  go_wp2_with (go_at_call 46; refine (letter_any _ _).mono ?_; rintro e w' ⟨rfl, rfl⟩)
  all_goals (go_ret; exact ⟨ret_bool (by go_light; unfold letB namB at *; rw [Bool.eq_iff_iff]; simp at *; omega), rfl⟩)
theorem letter_same (c : Int) (w : World) : Calls Try.prog 46 #[.int .u8 c] w fun e w' => e = .returned (.bool (letB c)) ∧ w' = w := (letter_any c w).mono fun _ _ ⟨h1, h2⟩ => ⟨h1, h2.symm⟩
end Go.Proofs.Ytjkfdmbhiooeiaa
