/-
  The chapter's example, which every statement of this layer opens with, is answered as the chapter says.
-/
import Derived.Test.YtjkfdmbhiooeiaaSlices
namespace Go.Proofs.Ytjkfdmbhiooeiaa
open Go.RowKit
def aS : Nat → Sm := fun j => if j = 0 then ⟨true, true, 0, true⟩ else if j = 1 then ⟨true, true, 5, true⟩ else if j = 2 then ⟨true, false, 0, true⟩ else if j = 3 then ⟨true, true, 11, true⟩ else ⟨true, true, 10, true⟩
def aN : ByteArray := ⟨#[118, 97, 99, 117, 117, 109, 95, 49]⟩
theorem a_valE : valE aN 10 2 1 = 0 := by decide +kernel
theorem a_runE : runE (valE aN 10 2 1) aS 5 = 0 := by decide +kernel
theorem a_runL : runL (valE aN 10 2 1) 10 2 1 aS 5 = [3, 1, 3, 3, 3] := by decide +kernel
theorem a_votV : votV 2 [(1 : Int), 3, 1].length ([(1 : Int), 3, 1].getD · 0) = 1 := by decide +kernel
theorem a_votE : votE 2 [(1 : Int), 3, 1].length ([(1 : Int), 3, 1].getD · 0) = 0 := by decide +kernel
set_option maxHeartbeats 1600000 in
theorem awake_any (w : World) : Calls Try.prog 11 #[] w fun e w' => e = .returned (.bool true) ∧ New w w' := by
  go_enter Try.func11, Try.ntmps11
  go_wp2_with fail
  have hr := fun (W : World) (v : Value) (h : SmV W v 5 aS) => run_any aN 10 2 1 5 aS v W h
  rw [a_runE, a_runL] at hr
  refine (hr _ _ (.inr ⟨w.heap.size + 1, 0, 5, rfl, by simp, fun j hj => ?_⟩)).mono ?_
  · have hj' : j = 0 ∨ j = 1 ∨ j = 2 ∨ j = 3 ∨ j = 4 := by omega
    rcases hj' with rfl | rfl | rfl | rfl | rfl <;> simp [go_sem, aS]
  clear hr
  rintro e w1 ⟨v1, rfl, hv1, h1⟩
  have H1 := Lib.hid (New.trans (((new0 w).alloc _).alloc _) h1)
  have HV1 := Lib.hid hv1
  clear h1 hv1
  go_wp2_with fail
  have hr := fun (W : World) (v : Value) (h : IntV W v [1, 3, 1]) => vote_any 2 v [1, 3, 1] W h
  rw [a_votE, a_votV] at hr
  refine (hr _ _ (.inr ⟨w1.heap.size, 0, 3, rfl, by simp, fun j hj => ?_⟩)).mono ?_
  · have hj' : j = 0 ∨ j = 1 ∨ j = 2 := by simp at hj; omega
    rcases hj' with rfl | rfl | rfl <;> simp [go_sem]
  clear hr
  rintro e w2 ⟨rfl, rfl⟩
  go_wp2_with fail
  refine (equal_v _ _ [3, 1, 3, 3, 3] _ (by decide) (HV1.out.new (((new0 _).alloc _).alloc _)) (.inr ⟨w1.heap.size + 1, 0, 5, rfl, by simp, fun j hj => ?_⟩)).mono ?_
  · have hj' : j = 0 ∨ j = 1 ∨ j = 2 ∨ j = 3 ∨ j = 4 := by simp at hj; omega
    rcases hj' with rfl | rfl | rfl | rfl | rfl <;> simp [go_sem]
  rintro e w3 ⟨rfl, h3⟩
  have H3 := Lib.hid h3
  clear h3
  go_wp2_with fail
  go_ret
  exact ⟨rfl, by repeat (first | with_reducible exact new0 _ | with_reducible apply New.alloc | with_reducible apply New.drewN | with_reducible apply New.drew | (with_reducible refine New.setCell ?_ (by simp <;> omega) _) | (with_reducible refine New.trans ?_ H3.out) | (with_reducible refine New.trans ?_ H1.out))⟩
end Go.Proofs.Ytjkfdmbhiooeiaa
