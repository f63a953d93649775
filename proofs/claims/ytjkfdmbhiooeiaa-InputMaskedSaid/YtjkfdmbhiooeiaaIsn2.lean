/-
  What is a name, by the program: the whole.
-/
import Derived.Test.YtjkfdmbhiooeiaaIsn
namespace Go.Proofs.Ytjkfdmbhiooeiaa
open Go.RowKit

theorem bytes_made (W : World) (b : Nat) (hb : b = W.heap.size) (s : ByteArray) (cap : Nat) (fr : Nat × Nat) : Bytes (W.alloc (.cells (bytesRow s cap) 5 fr)) b s := by
  intro k h
  subst hb
  rw [World.cell?_alloc_mark]
  exact bytesRow_at s cap k h
theorem letB_namB {c : Int} (h : letB c = true) : namB c = true := by unfold letB at h; unfold namB; simp at *; omega
theorem isNm_of {s : ByteArray} (h1 : 1 ≤ s.size) (h2 : s.size ≤ 20) (h5 : 0 < s.size) (hL : letB (s[0].toNat : Int) = true) : IsNm s ↔ allNam s s.size := by
  constructor
  · intro hn j hj _
    have := hn.2.2 j hj hj
    unfold namB
    simp
    omega
  · intro ha
    refine ⟨h1, h2, fun k hk hk' => ?_⟩
    have := ha k hk hk
    unfold namB at this
    unfold letB at hL
    simp at this hL
    by_cases h0 : k = 0
    · subst h0; omega
    · omega
theorem not_isNm {s : ByteArray} (h5 : 0 < s.size) (hL : letB (s[0].toNat : Int) = false) : ¬ IsNm s := by
  intro hn
  have := hn.2.2 0 h5 h5
  unfold letB at hL
  simp at hL
  omega

set_option maxHeartbeats 1600000 in
theorem isName_any (s : ByteArray) (w : World) (h1 : 1 ≤ s.size) (h2 : s.size ≤ 20) : Calls Try.prog 35 #[.string s] w fun e w' => (∃ b : Bool, e = .returned (.bool b) ∧ (b = true ↔ IsNm s)) ∧ New w w' := by
  have h3 : ¬ (20 : Int) < s.size := by omega
  have h4 : ¬ (s.size : Int) < 1 := by omega
  have h5 : 0 < s.size := by omega
  have hconv := fun w => run_bytes_of_string (P := Try.prog) w 9 52 5 s Try.underlying9 Try.underlying52 Try.underlying5
  by_cases hL : letB s[0].toNat = true
  · have hI := Lib.hid (isNm_of h1 h2 h5 hL)
    go_enter Try.func35, Try.ntmps35
    go_wp2_with fail
    go_quiet ((go_at_call 46; exact Calls.quiet_of_same (letter_same _ _)))
    go_wp2_with fail
    refine (contains_any s _ _ _ _ ?hB (bytes_made _ _ (by simp) s _ _) (by omega)).mono ?_
    case hB => (rw [World.cell?_alloc_past _ _ _ (by show _ < (w.heap.push _).size; simp), World.cell?_drewN, World.cell?_alloc_at _ _ _ _ rfl]; rfl)
    rintro e w' ⟨⟨c, rfl, hc⟩, rfl⟩
    replace hc := Lib.hid hc
    go_wp2_with fail
    go_ret
    refine ⟨⟨_, rfl, ?_⟩, ?_⟩
    · rw [hI.out, ← hc.out]; simp
    · repeat (first | with_reducible exact new0 _ | with_reducible apply New.alloc | with_reducible apply New.drewN | with_reducible apply New.drew)
  · have hL' : letB s[0].toNat = false := by simpa using hL
    have hI := Lib.hid (not_isNm h5 hL')
    clear hL
    go_enter Try.func35, Try.ntmps35
    go_wp2_with fail
    go_quiet ((go_at_call 46; exact Calls.quiet_of_same (letter_same _ _)))
    go_wp2_with fail
    go_ret
    exact ⟨⟨false, rfl, by simp; exact hI.out⟩, by repeat (first | with_reducible exact new0 _ | with_reducible apply New.alloc | with_reducible apply New.drewN | with_reducible apply New.drew)⟩
set_option maxHeartbeats 800000 in
theorem isName_long (s : ByteArray) (w : World) (h1 : 20 < s.size) : Calls Try.prog 35 #[.string s] w fun e w' => (∃ b : Bool, e = .returned (.bool b) ∧ (b = true ↔ IsNm s)) ∧ New w w' := by
  have h3 : (20 : Int) < s.size := by omega
  have h4 : ¬ (s.size : Int) < 1 := by omega
  go_enter Try.func35, Try.ntmps35
  go_wp2_with fail
  go_quiet (fail)
  go_wp2_with fail
  go_ret
  exact ⟨⟨false, rfl, by simp; exact fun hn => by have := hn.2.1; omega⟩, by repeat (first | with_reducible exact new0 _ | with_reducible apply New.alloc | with_reducible apply New.drewN | with_reducible apply New.drew)⟩
set_option maxHeartbeats 800000 in
theorem isName_none (w : World) : Calls Try.prog 35 #[.string ⟨#[]⟩] w fun e w' => (∃ b : Bool, e = .returned (.bool b) ∧ (b = true ↔ IsNm ⟨#[]⟩)) ∧ New w w' := by
  go_enter Try.func35, Try.ntmps35
  go_wp2_with fail
  go_quiet (fail)
  go_wp2_with fail
  go_ret
  exact ⟨⟨false, rfl, by simp; exact fun hn => absurd hn.1 (by decide)⟩, by repeat (first | with_reducible exact new0 _ | with_reducible apply New.alloc | with_reducible apply New.drewN | with_reducible apply New.drew)⟩
theorem isName_all (s : ByteArray) (w : World) : Calls Try.prog 35 #[.string s] w fun e w' => (∃ b : Bool, e = .returned (.bool b) ∧ (b = true ↔ IsNm s)) ∧ New w w' := by
  by_cases h0 : s.size = 0
  · obtain ⟨⟨l⟩⟩ := s
    have : l = [] := by simpa [ByteArray.size] using h0
    subst this
    exact isName_none w
  · by_cases h1 : s.size ≤ 20
    · exact isName_any s w (by omega) h1
    · exact isName_long s w (by omega)
end Go.Proofs.Ytjkfdmbhiooeiaa
