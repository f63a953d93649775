/-
  What every function leaves of the world; blocks that hold structs; lists.
-/
import Derived.Test.YtedbjnojogjnkaaRows
import Derived.WalkKit
import Derived.WalkSpells
import Derived.WalkLawsBesides
import Derived.Deep.QuietTactic
import Derived.BigQuiet
import Derived.Lib.Hide
import Derived.Deep.Light
import Derived.Stop.Joined
import Derived.IntWalk
namespace Go.Proofs.Ytedbjnojogjnkaa
open Go.RowKit

/-- What every function of this layer leaves of the world: nothing that was there has changed. -/
def New (w w' : World) : Prop := Below w.heap.size w w'
theorem new0 (w : World) : New w w := Below.refl _ _
theorem New.alloc {w w' : World} (h : New w w') (o : Obj) : New w (w'.alloc o) := Below.alloc h h.size o
theorem New.trans {w w' w'' : World} (h : New w w') (h' : New w' w'') : New w w'' := Below.trans h (Below.mono h' h.size)
theorem New.drew {W w' : World} (h : New W w') : New W w'.drew := Below.drew h
theorem New.setCell {W w' : World} (h : New W w') {p : Addr} (hp : W.heap.size ≤ p.block) (u : Value) : New W (w'.setCell p u) := Below.setCell h hp u
theorem New.size {W w1 : World} (hb : New W w1) : W.heap.size ≤ w1.heap.size := Below.size hb
theorem New.drewN {W w' : World} (h : New W w') (n : Nat) : New W (w'.drewN n) := by
  unfold New at *
  exact ⟨h.os, h.tape, h.output, h.size, h.block⟩
theorem New.grown {W w1 w2 : World} {base : Nat} {e : TypeId} {size n : Nat} {v : Value} {xs : List Value} (h : New W w1) (hg : w1.grownBy w2 v.ownBlock) (ho : w1.ownsRow base e size v n xs) (hb : W.heap.size ≤ base) : New W w2 :=
  Below.grown h hg h.size (fun j hj => by have := (ho.lt j hj).1; omega)
theorem ncell {W w1 : World} (hb : New W w1) : (∀ b o, b < W.heap.size → w1.cell? ⟨b, o, none⟩ = W.cell? ⟨b, o, none⟩) ∧ (∀ b o, b < W.heap.size → w1.frozen? ⟨b, o, none⟩ = W.frozen? ⟨b, o, none⟩) :=
  ⟨fun b o h => Below.cell (p := ⟨b, o, none⟩) hb h, fun b o h => Below.frozen (p := ⟨b, o, none⟩) hb h⟩
theorem ret_bool {a b : Bool} (h : a = b) : Ending.returned (.bool a) = .returned (.bool b) := by rw [h]
theorem ret_int {a b : Int} (h : a = b) : Ending.returned (.int .i64 a) = .returned (.int .i64 b) := by rw [h]
theorem wp_abs {P : Program} {c : Code} {Q : Exit → Act → World → Prop} {a : Act} {w : World} (S : World → Prop) (h : S w) (k : ∀ W, S W → Code.wp P c Q a W) : Code.wp P c Q a w := k w h
theorem then_abs {K : Act → World → Prop} {Q : Exit → Act → World → Prop} {e : Exit} {a : Act} {w : World} (S : World → Prop) (h : S w) (k : ∀ W, S W → Exit.then K Q e a W) : Exit.then K Q e a w := k w h

/-- Block p holds these cells, and none of them is frozen. -/
def Blk (w : World) (p : Nat) (cs : Array Value) : Prop := p < w.heap.size ∧ (∀ i, i < cs.size → w.cell? ⟨p, i, none⟩ = cs[i]?) ∧ ∀ o, w.frozen? ⟨p, o, none⟩ = false
theorem Blk.new {w w' : World} {p : Nat} {cs : Array Value} (h : Blk w p cs) (hn : New w w') : Blk w' p cs :=
  ⟨by have := New.size hn; have := h.1; omega, fun i hi => ((ncell hn).1 p i h.1).trans (h.2.1 i hi), fun o => ((ncell hn).2 p o h.1).trans (h.2.2 o)⟩
theorem blk_alloc (w : World) (cs : Array Value) (t : TypeId) (n : Nat) (hn : n = w.heap.size) : Blk (w.alloc (.cells cs t)) n cs := by
  subst hn
  exact ⟨by simp, fun i _ => World.cell?_alloc_at cs t _ i rfl, fun o => by simp [go_sem]⟩
theorem Blk.grown {W W' : World} {p : Nat} {cs : Array Value} {row : Option Nat} (h : Blk W p cs) (hg : W.grownBy W' row) (hne : some p ≠ row) : Blk W' p cs :=
  have e := hg.block p h.1 hne
  ⟨Nat.lt_of_lt_of_le h.1 hg.size, fun i hi => (World.cell?_of_block (a := ⟨p, i, none⟩) e).trans (h.2.1 i hi), fun o => (World.frozen?_of_block (a := ⟨p, o, none⟩) e).trans (h.2.2 o)⟩
theorem Blk.set {W : World} {h p o : Nat} {cs : Array Value} (H : Blk W h cs) (e : h ≠ p) (a : Value) : Blk (W.setCell ⟨p, o, none⟩ a) h cs :=
  ⟨by simpa using H.1, fun i hi => (World.cell?_setCell_other _ _ _ _ (by simp)).trans (H.2.1 i hi), fun q => by have := H.2.2 q; simpa [go_sem] using this⟩
theorem Blk.c1 {w : World} {p : Nat} {a0 : Value} (h : Blk w p #[a0]) : w.cell? ⟨p, 0, none⟩ = some a0 ∧ (∀ o, w.frozen? ⟨p, o, none⟩ = false) ∧ p < w.heap.size := ⟨h.2.1 0 (by simp), h.2.2, h.1⟩
theorem Blk.mk1 {w : World} {p : Nat} {a0 : Value} (hz : p < w.heap.size) (h0 : w.cell? ⟨p, 0, none⟩ = some a0) (hf : ∀ o, w.frozen? ⟨p, o, none⟩ = false) : Blk w p #[a0] :=
  ⟨hz, fun i hi => by
    have : i = 0 := by simp at hi; omega
    subst this; assumption, hf⟩
theorem Blk.c2 {w : World} {p : Nat} {a0 a1 : Value} (h : Blk w p #[a0, a1]) : w.cell? ⟨p, 0, none⟩ = some a0 ∧ w.cell? ⟨p, 1, none⟩ = some a1 ∧ (∀ o, w.frozen? ⟨p, o, none⟩ = false) ∧ p < w.heap.size := ⟨h.2.1 0 (by simp), h.2.1 1 (by simp), h.2.2, h.1⟩
theorem Blk.mk2 {w : World} {p : Nat} {a0 a1 : Value} (hz : p < w.heap.size) (h0 : w.cell? ⟨p, 0, none⟩ = some a0) (h1 : w.cell? ⟨p, 1, none⟩ = some a1) (hf : ∀ o, w.frozen? ⟨p, o, none⟩ = false) : Blk w p #[a0, a1] :=
  ⟨hz, fun i hi => by
    have : i = 0 ∨ i = 1 := by simp at hi; omega
    rcases this with rfl | rfl <;> assumption, hf⟩
theorem Blk.c3 {w : World} {p : Nat} {a0 a1 a2 : Value} (h : Blk w p #[a0, a1, a2]) : w.cell? ⟨p, 0, none⟩ = some a0 ∧ w.cell? ⟨p, 1, none⟩ = some a1 ∧ w.cell? ⟨p, 2, none⟩ = some a2 ∧ (∀ o, w.frozen? ⟨p, o, none⟩ = false) ∧ p < w.heap.size := ⟨h.2.1 0 (by simp), h.2.1 1 (by simp), h.2.1 2 (by simp), h.2.2, h.1⟩
theorem Blk.mk3 {w : World} {p : Nat} {a0 a1 a2 : Value} (hz : p < w.heap.size) (h0 : w.cell? ⟨p, 0, none⟩ = some a0) (h1 : w.cell? ⟨p, 1, none⟩ = some a1) (h2 : w.cell? ⟨p, 2, none⟩ = some a2) (hf : ∀ o, w.frozen? ⟨p, o, none⟩ = false) : Blk w p #[a0, a1, a2] :=
  ⟨hz, fun i hi => by
    have : i = 0 ∨ i = 1 ∨ i = 2 := by simp at hi; omega
    rcases this with rfl | rfl | rfl <;> assumption, hf⟩
theorem Blk.c4 {w : World} {p : Nat} {a0 a1 a2 a3 : Value} (h : Blk w p #[a0, a1, a2, a3]) : w.cell? ⟨p, 0, none⟩ = some a0 ∧ w.cell? ⟨p, 1, none⟩ = some a1 ∧ w.cell? ⟨p, 2, none⟩ = some a2 ∧ w.cell? ⟨p, 3, none⟩ = some a3 ∧ (∀ o, w.frozen? ⟨p, o, none⟩ = false) ∧ p < w.heap.size := ⟨h.2.1 0 (by simp), h.2.1 1 (by simp), h.2.1 2 (by simp), h.2.1 3 (by simp), h.2.2, h.1⟩
theorem Blk.mk4 {w : World} {p : Nat} {a0 a1 a2 a3 : Value} (hz : p < w.heap.size) (h0 : w.cell? ⟨p, 0, none⟩ = some a0) (h1 : w.cell? ⟨p, 1, none⟩ = some a1) (h2 : w.cell? ⟨p, 2, none⟩ = some a2) (h3 : w.cell? ⟨p, 3, none⟩ = some a3) (hf : ∀ o, w.frozen? ⟨p, o, none⟩ = false) : Blk w p #[a0, a1, a2, a3] :=
  ⟨hz, fun i hi => by
    have : i = 0 ∨ i = 1 ∨ i = 2 ∨ i = 3 := by simp at hi; omega
    rcases this with rfl | rfl | rfl | rfl <;> assumption, hf⟩
theorem Blk.c5 {w : World} {p : Nat} {a0 a1 a2 a3 a4 : Value} (h : Blk w p #[a0, a1, a2, a3, a4]) : w.cell? ⟨p, 0, none⟩ = some a0 ∧ w.cell? ⟨p, 1, none⟩ = some a1 ∧ w.cell? ⟨p, 2, none⟩ = some a2 ∧ w.cell? ⟨p, 3, none⟩ = some a3 ∧ w.cell? ⟨p, 4, none⟩ = some a4 ∧ (∀ o, w.frozen? ⟨p, o, none⟩ = false) ∧ p < w.heap.size := ⟨h.2.1 0 (by simp), h.2.1 1 (by simp), h.2.1 2 (by simp), h.2.1 3 (by simp), h.2.1 4 (by simp), h.2.2, h.1⟩
theorem Blk.mk5 {w : World} {p : Nat} {a0 a1 a2 a3 a4 : Value} (hz : p < w.heap.size) (h0 : w.cell? ⟨p, 0, none⟩ = some a0) (h1 : w.cell? ⟨p, 1, none⟩ = some a1) (h2 : w.cell? ⟨p, 2, none⟩ = some a2) (h3 : w.cell? ⟨p, 3, none⟩ = some a3) (h4 : w.cell? ⟨p, 4, none⟩ = some a4) (hf : ∀ o, w.frozen? ⟨p, o, none⟩ = false) : Blk w p #[a0, a1, a2, a3, a4] :=
  ⟨hz, fun i hi => by
    have : i = 0 ∨ i = 1 ∨ i = 2 ∨ i = 3 ∨ i = 4 := by simp at hi; omega
    rcases this with rfl | rfl | rfl | rfl | rfl <;> assumption, hf⟩
theorem Blk.c6 {w : World} {p : Nat} {a0 a1 a2 a3 a4 a5 : Value} (h : Blk w p #[a0, a1, a2, a3, a4, a5]) : w.cell? ⟨p, 0, none⟩ = some a0 ∧ w.cell? ⟨p, 1, none⟩ = some a1 ∧ w.cell? ⟨p, 2, none⟩ = some a2 ∧ w.cell? ⟨p, 3, none⟩ = some a3 ∧ w.cell? ⟨p, 4, none⟩ = some a4 ∧ w.cell? ⟨p, 5, none⟩ = some a5 ∧ (∀ o, w.frozen? ⟨p, o, none⟩ = false) ∧ p < w.heap.size := ⟨h.2.1 0 (by simp), h.2.1 1 (by simp), h.2.1 2 (by simp), h.2.1 3 (by simp), h.2.1 4 (by simp), h.2.1 5 (by simp), h.2.2, h.1⟩
theorem Blk.mk6 {w : World} {p : Nat} {a0 a1 a2 a3 a4 a5 : Value} (hz : p < w.heap.size) (h0 : w.cell? ⟨p, 0, none⟩ = some a0) (h1 : w.cell? ⟨p, 1, none⟩ = some a1) (h2 : w.cell? ⟨p, 2, none⟩ = some a2) (h3 : w.cell? ⟨p, 3, none⟩ = some a3) (h4 : w.cell? ⟨p, 4, none⟩ = some a4) (h5 : w.cell? ⟨p, 5, none⟩ = some a5) (hf : ∀ o, w.frozen? ⟨p, o, none⟩ = false) : Blk w p #[a0, a1, a2, a3, a4, a5] :=
  ⟨hz, fun i hi => by
    have : i = 0 ∨ i = 1 ∨ i = 2 ∨ i = 3 ∨ i = 4 ∨ i = 5 := by simp at hi; omega
    rcases this with rfl | rfl | rfl | rfl | rfl | rfl <;> assumption, hf⟩
theorem Blk.c7 {w : World} {p : Nat} {a0 a1 a2 a3 a4 a5 a6 : Value} (h : Blk w p #[a0, a1, a2, a3, a4, a5, a6]) : w.cell? ⟨p, 0, none⟩ = some a0 ∧ w.cell? ⟨p, 1, none⟩ = some a1 ∧ w.cell? ⟨p, 2, none⟩ = some a2 ∧ w.cell? ⟨p, 3, none⟩ = some a3 ∧ w.cell? ⟨p, 4, none⟩ = some a4 ∧ w.cell? ⟨p, 5, none⟩ = some a5 ∧ w.cell? ⟨p, 6, none⟩ = some a6 ∧ (∀ o, w.frozen? ⟨p, o, none⟩ = false) ∧ p < w.heap.size := ⟨h.2.1 0 (by simp), h.2.1 1 (by simp), h.2.1 2 (by simp), h.2.1 3 (by simp), h.2.1 4 (by simp), h.2.1 5 (by simp), h.2.1 6 (by simp), h.2.2, h.1⟩
theorem Blk.mk7 {w : World} {p : Nat} {a0 a1 a2 a3 a4 a5 a6 : Value} (hz : p < w.heap.size) (h0 : w.cell? ⟨p, 0, none⟩ = some a0) (h1 : w.cell? ⟨p, 1, none⟩ = some a1) (h2 : w.cell? ⟨p, 2, none⟩ = some a2) (h3 : w.cell? ⟨p, 3, none⟩ = some a3) (h4 : w.cell? ⟨p, 4, none⟩ = some a4) (h5 : w.cell? ⟨p, 5, none⟩ = some a5) (h6 : w.cell? ⟨p, 6, none⟩ = some a6) (hf : ∀ o, w.frozen? ⟨p, o, none⟩ = false) : Blk w p #[a0, a1, a2, a3, a4, a5, a6] :=
  ⟨hz, fun i hi => by
    have : i = 0 ∨ i = 1 ∨ i = 2 ∨ i = 3 ∨ i = 4 ∨ i = 5 ∨ i = 6 := by simp at hi; omega
    rcases this with rfl | rfl | rfl | rfl | rfl | rfl | rfl <;> assumption, hf⟩
theorem Blk.c8 {w : World} {p : Nat} {a0 a1 a2 a3 a4 a5 a6 a7 : Value} (h : Blk w p #[a0, a1, a2, a3, a4, a5, a6, a7]) : w.cell? ⟨p, 0, none⟩ = some a0 ∧ w.cell? ⟨p, 1, none⟩ = some a1 ∧ w.cell? ⟨p, 2, none⟩ = some a2 ∧ w.cell? ⟨p, 3, none⟩ = some a3 ∧ w.cell? ⟨p, 4, none⟩ = some a4 ∧ w.cell? ⟨p, 5, none⟩ = some a5 ∧ w.cell? ⟨p, 6, none⟩ = some a6 ∧ w.cell? ⟨p, 7, none⟩ = some a7 ∧ (∀ o, w.frozen? ⟨p, o, none⟩ = false) ∧ p < w.heap.size := ⟨h.2.1 0 (by simp), h.2.1 1 (by simp), h.2.1 2 (by simp), h.2.1 3 (by simp), h.2.1 4 (by simp), h.2.1 5 (by simp), h.2.1 6 (by simp), h.2.1 7 (by simp), h.2.2, h.1⟩
theorem Blk.mk8 {w : World} {p : Nat} {a0 a1 a2 a3 a4 a5 a6 a7 : Value} (hz : p < w.heap.size) (h0 : w.cell? ⟨p, 0, none⟩ = some a0) (h1 : w.cell? ⟨p, 1, none⟩ = some a1) (h2 : w.cell? ⟨p, 2, none⟩ = some a2) (h3 : w.cell? ⟨p, 3, none⟩ = some a3) (h4 : w.cell? ⟨p, 4, none⟩ = some a4) (h5 : w.cell? ⟨p, 5, none⟩ = some a5) (h6 : w.cell? ⟨p, 6, none⟩ = some a6) (h7 : w.cell? ⟨p, 7, none⟩ = some a7) (hf : ∀ o, w.frozen? ⟨p, o, none⟩ = false) : Blk w p #[a0, a1, a2, a3, a4, a5, a6, a7] :=
  ⟨hz, fun i hi => by
    have : i = 0 ∨ i = 1 ∨ i = 2 ∨ i = 3 ∨ i = 4 ∨ i = 5 ∨ i = 6 ∨ i = 7 := by simp at hi; omega
    rcases this with rfl | rfl | rfl | rfl | rfl | rfl | rfl | rfl <;> assumption, hf⟩

theorem own_new {w w' : World} {base : Nat} {e : TypeId} {size : Nat} {v : Value} {n : Nat} {xs : List Value} (h : w.ownsRow base e size v n xs) (hn : New w w') : w'.ownsRow base e size v n xs :=
  h.kept (row := none) ⟨hn.os, hn.tape, hn.output, hn.size, fun k hk _ => hn.block k hk⟩ (by cases v.ownBlock <;> simp)

theorem own_mono {w : World} {base base' : Nat} {e : TypeId} {size : Nat} {v : Value} {n : Nat} {xs : List Value} (h : w.ownsRow base e size v n xs) (hb : base' ≤ base) : w.ownsRow base' e size v n xs := by
  refine ⟨h.1, ?_⟩
  rcases h.2 with hn | ⟨g, cap, cur, h1, h2, h3⟩
  · exact .inl hn
  · exact .inr ⟨g, cap, cur, h1, Nat.le_trans hb h2, h3⟩

/-- A list of n elements of m cells each: the i-th cell of the j-th is F j i. -/
def Row (w : World) (v : Value) (n m : Nat) (F : Nat → Nat → Value) : Prop := (n = 0 ∧ ∃ (A : Option Addr) (cap : Nat), v = .slice A 0 cap) ∨
  ∃ (b off cap : Nat), v = .slice (some ⟨b, off, none⟩) n cap ∧ (n ≤ cap ∧ b < w.heap.size) ∧ ∀ j, j < n → ∀ i, i < m → w.cell? ⟨b, off + (j * m + i), none⟩ = some (F j i)
theorem Row.new {W w1 : World} {v : Value} {n m : Nat} {F : Nat → Nat → Value} (h : Row W v n m F) (hb : New W w1) : Row w1 v n m F := by
  rcases h with h | ⟨b, off, cap, h1, h2, h3⟩
  · exact .inl h
  · exact .inr ⟨b, off, cap, h1, ⟨h2.1, by have := New.size hb; have := h2.2; omega⟩, fun j hj i hi => ((ncell hb).1 _ _ h2.2).trans (h3 j hj i hi)⟩
theorem Row.len {w : World} {v : Value} {n m : Nat} {F : Nat → Nat → Value} (h : Row w v n m F) : ∃ (A : Option Addr) (cap : Nat), v = .slice A n cap := by
  rcases h with ⟨rfl, A, cap, rfl⟩ | ⟨b, off, cap, rfl, _⟩
  · exact ⟨A, cap, rfl⟩
  · exact ⟨_, cap, rfl⟩
theorem Row.congr {w : World} {v : Value} {n m : Nat} {F G : Nat → Nat → Value} (h : Row w v n m F) (e : ∀ j, j < n → ∀ i, i < m → F j i = G j i) : Row w v n m G := by
  rcases h with h | ⟨b, off, cap, h1, h2, h3⟩
  · exact .inl h
  · exact .inr ⟨b, off, cap, h1, h2, fun j hj i hi => by rw [h3 j hj i hi, e j hj i hi]⟩
/-- The cells of such a list, one behind the other. -/
def flat (n m : Nat) (F : Nat → Nat → Value) : List Value := (List.range (n * m)).map fun j => F (j / m) (j % m)
theorem flat_len (n m : Nat) (F : Nat → Nat → Value) : (flat n m F).length = n * m := by simp [flat]
theorem flat_at {n m : Nat} {F : Nat → Nat → Value} {j i : Nat} (hj : j < n) (hi : i < m) : (flat n m F)[j * m + i]? = some (F j i) := by
  have hlt : j * m + i < n * m := by
    have : (j + 1) * m ≤ n * m := Nat.mul_le_mul_right m hj
    rw [Nat.add_mul] at this
    omega
  have e1 : (j * m + i) / m = j := by
    rw [Nat.mul_comm, Nat.mul_add_div (by omega), Nat.div_eq_of_lt hi]; rfl
  have e2 : (j * m + i) % m = i := by
    rw [Nat.mul_comm, Nat.mul_add_mod, Nat.mod_eq_of_lt hi]
  simp [flat, hlt, e1, e2]
theorem flat_snoc (n m : Nat) (F : Nat → Nat → Value) : flat (n + 1) m F = flat n m F ++ (List.range m).map (F n) := by
  apply List.ext_getElem?
  intro k
  have hs : (n + 1) * m = n * m + m := by rw [Nat.add_mul, Nat.one_mul]
  by_cases h0 : m = 0
  · subst h0; simp [flat]
  by_cases hk : k < n * m
  · rw [List.getElem?_append_left (by rw [flat_len]; exact hk)]
    simp [flat, hk, show k < (n + 1) * m by omega]
  · rw [List.getElem?_append_right (by rw [flat_len]; omega), flat_len]
    by_cases hk2 : k < n * m + m
    · have e : k = n * m + (k - n * m) := by omega
      have h1 := flat_at (F := F) (show n < n + 1 by omega) (show k - n * m < m by omega)
      rw [← e] at h1
      rw [h1]
      simp [show k - n * m < m by omega]
    · rw [List.getElem?_eq_none (by rw [flat_len]; omega), List.getElem?_eq_none (by simp; omega)]
theorem row_own {w : World} {base n m : Nat} {e : TypeId} {v : Value} {F : Nat → Nat → Value} (h : w.ownsRow base e m v n (flat n m F)) : Row w v n m F := by
  have h0 := h
  rcases h.2 with ⟨rfl, hz⟩ | ⟨g, cap, cur, rfl, _, hg, hcap, _⟩
  · exact .inl ⟨hz, none, 0, rfl⟩
  · refine .inr ⟨g, 0, cap, rfl, ⟨hcap, (Array.getElem?_eq_some_iff.1 hg).1⟩, fun j hj i hi => ?_⟩
    have c := h0.cells (g := g) rfl (j * m + i) (F j i) (flat_at hj hi)
    have hadd : ∀ k, (⟨g, 0, none⟩ : Addr).add k = ⟨g, k, none⟩ := fun k => by unfold Addr.add; split <;> simp_all
    rw [hadd] at c
    simpa using c
/-- What a list's cells are at an address, for the laws on append. -/
theorem flat_cells {w : World} {b off n m : Nat} {F : Nat → Nat → Value} (hm : 0 < m) (h : ∀ j, j < n → ∀ i, i < m → w.cell? ⟨b, off + (j * m + i), none⟩ = some (F j i)) :
    ∀ j u, (flat n m F)[j]? = some u → w.cell? ((⟨b, off, none⟩ : Addr).add j) = some u := by
  intro j u hu
  have hj : j < n * m := by
    have := (List.getElem?_eq_some_iff.1 hu).1
    rwa [flat_len] at this
  have hadd : (⟨b, off, none⟩ : Addr).add j = ⟨b, off + j, none⟩ := by unfold Addr.add; split <;> simp_all
  rw [hadd]
  have h1 : j / m < n := (Nat.div_lt_iff_lt_mul hm).2 hj
  have h2 : j % m < m := Nat.mod_lt _ hm
  have h3 : j / m * m + j % m = j := Nat.div_add_mod' j m
  have := h _ h1 _ h2
  rw [h3] at this
  rw [this, ← hu]
  simp [flat, hj]
theorem flat_one {n m : Nat} {F : Nat → Nat → Value} (h : ∀ j i, (F j i).oneCell' = true) : ∀ u ∈ flat n m F, u.oneCell' = true := by
  intro u hu
  simp only [flat, List.mem_map] at hu
  obtain ⟨j, _, rfl⟩ := hu
  exact h _ _
end Go.Proofs.Ytedbjnojogjnkaa
