/-
  A comparison that the reckoner has read, as slices.SortFunc's theorem wants it.
-/
import Derived.Test.YtjgllldbpmmodaaEvSt
namespace Go.Ev
open Go.Proofs Go.Sort Go.Shelf
set_option linter.unusedVariables false
theorem frm_grow {w w' : World} {A B : Nat → Prop} (h : Frm w w' A B) (hA : ∀ k, ¬ A k) : ∃ q os', w' = grow (w.drewN q) os' := by
  obtain ⟨h1, h2, h3, h4, h5, h6, h7⟩ := h
  refine ⟨w'.drawn - w.drawn, w'.heap.extract w.heap.size w'.heap.size, ?_⟩
  obtain ⟨heap', tape', drawn', os', output'⟩ := w'
  obtain ⟨heap, tape, drawn, os, output⟩ := w
  simp only at h1 h2 h3 h4 h5 h6 h7
  subst h1 h2 h3
  unfold grow World.drewN
  simp only [World.mk.injEq, true_and, and_true]
  refine ⟨?_, by omega⟩
  apply Array.ext_getElem?
  intro i
  by_cases hi : i < heap.size
  · rw [h6 i hi (hA i), Array.getElem?_append_left hi]
  · rw [Array.getElem?_append_right (by omega), Array.getElem?_extract]
    rw [show heap.size + (i - heap.size) = i by omega]
    split
    · rfl
    · rw [Array.getElem?_eq_none (by omega)]
/-- A comparison of two structs, read with nothing of one's own. -/
theorem cmp_callR {P : Program} {α : Type} [Inhabited α] {g k : Nat} {enc : α → List Value} {cf : α → α → Int} (pv : α → List PV) (hv : ∀ x σ, VRs σ (pv x) (enc x)) (H' : α → α → Heap) (fr' : Nat)
    (hc : ∀ x y, CallR P g [.agg (pv x), .agg (pv y)] [[]] 0 (.int .i64 (cf x y)) (H' x y) fr') (blk off size : Nat) (w : World) : CmpLays P g #[] enc k cf blk off size w := by
  intro m os dk hs x y cs
  obtain ⟨e, w', fr, ⟨v', σ', rfl, hO⟩, h2⟩ := hc x y (fun _ => none) (sortWorldK enc k w blk off m dk os) (#[.agg (enc x).toArray, .agg (enc y).toArray] ++ #[]) (.cons _ _ _ _ (.agg _ _ (hv x _)) (.cons _ _ _ _ (.agg _ _ (hv y _)) .nil)) ⟨fun n e h => (by cases h), fun n m b e h => (by cases h)⟩ (fun _ _ _ => rfl) cs
  refine ⟨_, w', fr, ⟨?_, frm_grow hO.frm fun k h => ?_⟩, h2⟩
  · cases hO.v
    rfl
  · obtain ⟨n, b, rb, h1, _⟩ := h
    cases h1
end Go.Ev
