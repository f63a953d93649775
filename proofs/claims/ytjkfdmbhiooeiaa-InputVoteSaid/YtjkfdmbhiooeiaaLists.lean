/-
  Lists of integers and of samples; the states of a run.
-/
import Derived.Test.YtjkfdmbhiooeiaaFlt
namespace Go.Proofs.Ytjkfdmbhiooeiaa
open Go.RowKit

theorem info3 : (Try.prog.info? 3).map (fun i => (i.zero, i.size, i.bytes)) = some (some (.int .i64 0), 1, 8) := by kernel_rfl
def ints (l : List Int) : List Value := l.map (Value.int .i64)
theorem own_new {w w' : World} {base : Nat} {e : TypeId} {size : Nat} {v : Value} {n : Nat} {xs : List Value} (h : w.ownsRow base e size v n xs) (hn : New w w') : w'.ownsRow base e size v n xs :=
  h.kept (row := none) ⟨hn.os, hn.tape, hn.output, hn.size, fun k hk _ => hn.block k hk⟩ (by cases v.ownBlock <;> simp)
theorem Blk.grown {W W' : World} {p : Nat} {cs : Array Value} {row : Option Nat} (h : Blk W p cs) (hg : W.grownBy W' row) (hne : some p ≠ row) : Blk W' p cs :=
  have e := hg.block p h.1 hne
  ⟨Nat.lt_of_lt_of_le h.1 hg.size, fun i hi => (World.cell?_of_block (a := ⟨p, i, none⟩) e).trans (h.2.1 i hi), fun o => (World.frozen?_of_block (a := ⟨p, o, none⟩) e).trans (h.2.2 o)⟩

/-- A slice's value holds these integers. -/
def IntV (w : World) (v : Value) (l : List Int) : Prop := (l = [] ∧ ∃ (A : Option Addr) (cap : Nat), v = .slice A 0 cap) ∨ ∃ (b off cap : Nat), v = .slice (some ⟨b, off, none⟩) l.length cap ∧ b < w.heap.size ∧ ∀ j, j < l.length → w.cell? ⟨b, off + j, none⟩ = some (.int .i64 (l.getD j 0))
theorem IntV.new {W w1 : World} {v : Value} {l : List Int} (h : IntV W v l) (hb : New W w1) : IntV w1 v l := by
  rcases h with h | ⟨b, off, cap, h1, h2, h3⟩
  · exact .inl h
  · exact .inr ⟨b, off, cap, h1, by have := New.size hb; omega, fun j hj => ((ncell hb).1 _ _ h2).trans (h3 j hj)⟩
theorem intV_own {w : World} {base : Nat} {v : Value} {l : List Int} (h : w.ownsRow base 3 1 v l.length (ints l)) : IntV w v l := by
  have h0 := h
  rcases h.2 with ⟨rfl, hz⟩ | ⟨g, cap, cur, rfl, _, hg, _⟩
  · exact .inl ⟨List.length_eq_zero_iff.1 hz, none, 0, rfl⟩
  · refine .inr ⟨g, 0, cap, rfl, (Array.getElem?_eq_some_iff.1 hg).1, fun j hj => ?_⟩
    have c := h0.cells (g := g) rfl j (.int .i64 (l.getD j 0)) (by simp [ints, hj])
    have hadd : (⟨g, 0, none⟩ : Addr).add j = ⟨g, j, none⟩ := by unfold Addr.add; split <;> simp_all
    rw [hadd] at c
    simpa using c

/-- A sample. -/
structure Sm where
  a : Bool
  b : Bool
  g : Int
  v : Bool
/-- These samples lie in block b, from the place off on. -/
def Smps (w : World) (b off n : Nat) (s : Nat → Sm) : Prop := b < w.heap.size ∧ ∀ j, j < n → w.cell? ⟨b, off + j * 4, none⟩ = some (.bool (s j).a) ∧ w.cell? ⟨b, off + j * 4 + 1, none⟩ = some (.bool (s j).b) ∧ w.cell? ⟨b, off + j * 4 + 2, none⟩ = some (.int .i64 (s j).g) ∧ w.cell? ⟨b, off + j * 4 + 3, none⟩ = some (.bool (s j).v)
theorem Smps.new {W w1 : World} {b off n : Nat} {s : Nat → Sm} (h : Smps W b off n s) (hb : New W w1) : Smps w1 b off n s :=
  ⟨by have := New.size hb; have := h.1; omega, fun j hj => by
    obtain ⟨h0, h1, h2, h3⟩ := h.2 j hj
    exact ⟨((ncell hb).1 _ _ h.1).trans h0, ((ncell hb).1 _ _ h.1).trans h1, ((ncell hb).1 _ _ h.1).trans h2, ((ncell hb).1 _ _ h.1).trans h3⟩⟩

/-- A filter's state. -/
structure Fl where
  s : Int
  c : Int
  n : Int
def rawK (ma : Int) (s : Sm) : Int := rawI ma s.a s.b s.g s.v
def stp (ri fa : Int) (f : Fl) (r : Int) : Fl := ⟨stpS ri fa f.s f.c f.n r, stpC ri fa f.s f.c f.n r, stpN ri fa f.s f.c f.n r⟩
def flt (ma ri fa : Int) (s : Nat → Sm) : Nat → Fl
  | 0 => ⟨3, 0, 0⟩
  | k + 1 => stp ri fa (flt ma ri fa s k) (rawK ma (s k))
def lst (ma ri fa : Int) (s : Nat → Sm) : Nat → List Int
  | 0 => []
  | k + 1 => lst ma ri fa s k ++ [(flt ma ri fa s (k + 1)).s]
theorem lst_len (ma ri fa : Int) (s : Nat → Sm) (k : Nat) : (lst ma ri fa s k).length = k := by
  induction k with
  | zero => rfl
  | succ k ih => simp [lst, ih]
theorem lst_get (ma ri fa : Int) (s : Nat → Sm) (k : Nat) : ∀ j, j < k → (lst ma ri fa s k).getD j 0 = (flt ma ri fa s (j + 1)).s := by
  induction k with
  | zero => intro j hj; omega
  | succ k ih =>
    intro j hj
    unfold lst
    by_cases e : j = k
    · subst e
      simp [List.getD_eq_getElem?_getD, lst_len]
    · have hl : j < (lst ma ri fa s k).length := by rw [lst_len]; omega
      have := ih j (by omega)
      simp only [List.getD_eq_getElem?_getD] at this ⊢
      rw [List.getElem?_append_left hl]
      exact this
theorem stp_n {ri fa : Int} (r2 : ri ≤ 100) (r4 : fa ≤ 100) {f : Fl} (h : 0 ≤ f.n ∧ f.n < 100) (r : Int) : 0 ≤ (stp ri fa f r).n ∧ (stp ri fa f r).n < 100 := by
  unfold stp stpN
  have hc : 1 ≤ cntI f.s f.c f.n r := by unfold cntI; split <;> omega
  have hn : nedI ri fa r ≤ 100 := by unfold nedI; split <;> omega
  show 0 ≤ (if r = f.s then (0 : Int) else if nedI ri fa r ≤ cntI f.s f.c f.n r then 0 else cntI f.s f.c f.n r) ∧ (if r = f.s then (0 : Int) else if nedI ri fa r ≤ cntI f.s f.c f.n r then 0 else cntI f.s f.c f.n r) < 100
  split
  · omega
  · split <;> omega
theorem flt_n (ma : Int) {ri fa : Int} (r2 : ri ≤ 100) (r4 : fa ≤ 100) (s : Nat → Sm) (k : Nat) : 0 ≤ (flt ma ri fa s k).n ∧ (flt ma ri fa s k).n < 100 := by
  induction k with
  | zero => simp [flt]
  | succ k ih => exact stp_n r2 r4 ih _
def goodK (s : Nat → Sm) (k : Nat) : Bool := insB (s k).g 0 1099511627776
def allG (s : Nat → Sm) (n : Nat) : Bool := (List.range n).all (goodK s)
theorem allG_iff (s : Nat → Sm) (n : Nat) : allG s n = true ↔ ∀ j, j < n → goodK s j = true := by simp [allG, List.all_eq_true]
def runE (v : Int) (s : Nat → Sm) (n : Nat) : Int := if v ≠ 0 then v else if 1000 < n then 3 else if allG s n = true then 0 else 6
def runL (v ma ri fa : Int) (s : Nat → Sm) (n : Nat) : List Int := if runE v s n = 0 then lst ma ri fa s n else []
def RunPost (w : World) (l : List Int) (er : Int) (e : Ending) (w' : World) : Prop := ∃ v, e = .returned (.tuple #[v, .int .i64 er]) ∧ IntV w' v l ∧ New w w'
end Go.Proofs.Ytjkfdmbhiooeiaa
