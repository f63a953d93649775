/-
  Blocks that hold structs, and rows of cells, kept by whatever makes new memory alone.
-/
import Derived.Test.YtjkfdmbhiooeiaaWalks
namespace Go.Proofs.Ytjkfdmbhiooeiaa
open Go.RowKit

/-- Block p holds these cells, and none of them is frozen. -/
def Blk (w : World) (p : Nat) (cs : Array Value) : Prop := p < w.heap.size ∧ (∀ i, i < cs.size → w.cell? ⟨p, i, none⟩ = cs[i]?) ∧ ∀ o, w.frozen? ⟨p, o, none⟩ = false
theorem Blk.new {w w' : World} {p : Nat} {cs : Array Value} (h : Blk w p cs) (hn : New w w') : Blk w' p cs :=
  ⟨by have := New.size hn; have := h.1; omega, fun i hi => ((ncell hn).1 p i h.1).trans (h.2.1 i hi), fun o => ((ncell hn).2 p o h.1).trans (h.2.2 o)⟩
theorem blk_alloc (w : World) (cs : Array Value) (t : TypeId) : Blk (w.alloc (.cells cs t)) w.heap.size cs :=
  ⟨by simp, fun i _ => World.cell?_alloc_at cs t _ i rfl, fun o => by simp [go_sem]⟩
theorem blk_alloc' (w : World) (cs : Array Value) (t : TypeId) (n : Nat) (hn : n = w.heap.size) : Blk (w.alloc (.cells cs t)) n cs := by subst hn; exact blk_alloc w cs t
theorem Blk.c1 {w : World} {p : Nat} {a0 : Value} (h : Blk w p #[a0]) : w.cell? ⟨p, 0, none⟩ = some a0 ∧ (∀ o, w.frozen? ⟨p, o, none⟩ = false) ∧ p < w.heap.size := ⟨h.2.1 0 (by simp), h.2.2, h.1⟩
theorem Blk.c3 {w : World} {p : Nat} {a0 a1 a2 : Value} (h : Blk w p #[a0, a1, a2]) : w.cell? ⟨p, 0, none⟩ = some a0 ∧ w.cell? ⟨p, 1, none⟩ = some a1 ∧ w.cell? ⟨p, 2, none⟩ = some a2 ∧ (∀ o, w.frozen? ⟨p, o, none⟩ = false) ∧ p < w.heap.size := ⟨h.2.1 0 (by simp), h.2.1 1 (by simp), h.2.1 2 (by simp), h.2.2, h.1⟩
theorem Blk.c4 {w : World} {p : Nat} {a0 a1 a2 a3 : Value} (h : Blk w p #[a0, a1, a2, a3]) : w.cell? ⟨p, 0, none⟩ = some a0 ∧ w.cell? ⟨p, 1, none⟩ = some a1 ∧ w.cell? ⟨p, 2, none⟩ = some a2 ∧ w.cell? ⟨p, 3, none⟩ = some a3 ∧ (∀ o, w.frozen? ⟨p, o, none⟩ = false) ∧ p < w.heap.size := ⟨h.2.1 0 (by simp), h.2.1 1 (by simp), h.2.1 2 (by simp), h.2.1 3 (by simp), h.2.2, h.1⟩
theorem Blk.mk3 {w : World} {p : Nat} {a0 a1 a2 : Value} (hz : p < w.heap.size) (h0 : w.cell? ⟨p, 0, none⟩ = some a0) (h1 : w.cell? ⟨p, 1, none⟩ = some a1) (h2 : w.cell? ⟨p, 2, none⟩ = some a2) (hf : ∀ o, w.frozen? ⟨p, o, none⟩ = false) : Blk w p #[a0, a1, a2] :=
  ⟨hz, fun i hi => by
    have : i = 0 ∨ i = 1 ∨ i = 2 := by simp at hi; omega
    rcases this with rfl | rfl | rfl <;> assumption, hf⟩
theorem Blk.mk4 {w : World} {p : Nat} {a0 a1 a2 a3 : Value} (hz : p < w.heap.size) (h0 : w.cell? ⟨p, 0, none⟩ = some a0) (h1 : w.cell? ⟨p, 1, none⟩ = some a1) (h2 : w.cell? ⟨p, 2, none⟩ = some a2) (h3 : w.cell? ⟨p, 3, none⟩ = some a3) (hf : ∀ o, w.frozen? ⟨p, o, none⟩ = false) : Blk w p #[a0, a1, a2, a3] :=
  ⟨hz, fun i hi => by
    have : i = 0 ∨ i = 1 ∨ i = 2 ∨ i = 3 := by simp at hi; omega
    rcases this with rfl | rfl | rfl | rfl <;> assumption, hf⟩
/-- From here on the world is any one of which this much is known. -/
theorem wp_abs {P : Program} {c : Code} {Q : Exit → Act → World → Prop} {a : Act} {w : World} (S : World → Prop) (h : S w) (k : ∀ W, S W → Code.wp P c Q a W) : Code.wp P c Q a w := k w h
theorem then_abs {K : Act → World → Prop} {Q : Exit → Act → World → Prop} {e : Exit} {a : Act} {w : World} (S : World → Prop) (h : S w) (k : ∀ W, S W → Exit.then K Q e a W) : Exit.then K Q e a w := k w h
end Go.Proofs.Ytjkfdmbhiooeiaa
