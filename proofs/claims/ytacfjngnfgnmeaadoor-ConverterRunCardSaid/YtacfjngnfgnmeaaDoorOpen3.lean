/-
  How scripts open: slices of steps.
-/
import Derived.Test.YtacfjngnfgnmeaaDoorOpen
import Derived.Test.YtacfjngnfgnmeaaDoorClone
import Derived.Deep.Slices
namespace Go.Proofs.YtacfjngnfgnmeaaDoor
open Go.ChangeShapes Go.WideShapes Go.ChangeAt Go.RowKit Go.Deep

theorem cells41 : Tryd.prog.cellsOf 41 = 2 := by kernel_rfl
theorem open_steps {H : Type} {enc : TypeId × Value → H} {w : World} {base : Nat} {held : Bool} {r : Reach} {b0 : Nat} {v : Value} {d : DataW H} {p : List MemPlace}
    (hv : Value.okWide Tryd.prog w r b0 36 v) (h : DataW.Trod enc Tryd.prog w base (fun _ => true) held 36 v d p) : ∃ (A : Option Addr) (n cap : Nat) (K V : Nat → Int), v = .slice A n cap ∧ StV w v n K V := by
  obtain ⟨A, len, cap, rfl⟩ := okWide_slice Tryd.underlying36 hv
  obtain ⟨fuel, hf⟩ := h
  rcases open_slice Tryd.underlying36 hf with ⟨h0, _⟩ | ⟨a, len', cap', m, n, D, Pl, hcs, hb, hl, hm, hmm, _, hi⟩
  · have e : Value.slice A len cap = .slice none 0 0 := by simpa [Value.cells] using h0
    cases e
    exact ⟨none, 0, 0, fun _ => 0, fun _ => 0, rfl, .inl ⟨rfl, none, 0, rfl⟩⟩
  · have e : Value.slice A len cap = .slice (some a) len' cap' := by simpa [Value.cells] using hcs
    cases e
    simp only [if_true] at hmm
    by_cases hz : len = 0
    · subst hz; exact ⟨some a, 0, cap, fun _ => 0, fun _ => 0, rfl, .inl ⟨rfl, some a, cap, rfl⟩⟩
    have key : ∀ j, j < len → ∃ x y : Int, w.cell? (a.add (j * 2)) = some (.int .i64 x) ∧ w.cell? (a.add (j * 2 + 1)) = some (.int .i64 y) := fun j hj => by
      obtain ⟨cs', hc, ht⟩ := hi j (by omega)
      rw [cells41] at hc
      obtain ⟨_, hcl, hat⟩ := World.cells?_some hc
      obtain ⟨xs, n', _, _, hlen, hn, hel⟩ := DataW.trod_struct Tryd.underlying41 ht
      have e0 : DataW.trod _ Tryd.prog w base _ held n' 3 ((cs'.drop 0).take (Tryd.prog.cellsOf 3)) = xs[0]? := hel 0 { name := "Kind", type := 3, offset := 0, embedded := false, tag := "", pkgPath := "", byteOffset := 0 } rfl
      have e1 : DataW.trod _ Tryd.prog w base _ held n' 3 ((cs'.drop 1).take (Tryd.prog.cellsOf 3)) = xs[1]? := hel 1 { name := "Value", type := 3, offset := 1, embedded := false, tag := "", pkgPath := "", byteOffset := 8 } rfl
      rw [cells3'] at e0 e1
      match cs', hcl with
      | [c0, c1], _ =>
        match xs, hn with
        | [x0, x1], _ =>
          simp at e0 e1
          obtain ⟨x, hx, _, _⟩ := DataW.trod_int Tryd.underlying3 e0
          obtain ⟨y, hy, _, _⟩ := DataW.trod_int Tryd.underlying3 e1
          simp at hx hy
          have a0 := hat 0 (by decide)
          have a1 := hat 1 (by decide)
          rw [Addr.add_add] at a0 a1
          simp at a0 a1
          exact ⟨x, y, by rw [a0, hx], by rw [a1, hy]⟩
    obtain ⟨b, off, spot⟩ := a
    have hc0 : w.cell? ⟨b, off, spot⟩ = some (.int .i64 (key 0 (by omega)).choose) := by
      have := (key 0 (by omega)).choose_spec.choose_spec.1
      simpa [Addr.add] using this
    have hspot : spot = none := World.cell?_spot hc0
    subst hspot
    have hadd : ∀ k, (⟨b, off, none⟩ : Addr).add k = ⟨b, off + k, none⟩ := fun k => by unfold Addr.add; split <;> simp_all
    have key2 : ∀ j, j < len → ∃ x y : Int, w.cell? ⟨b, off + j * 2, none⟩ = some (.int .i64 x) ∧ w.cell? ⟨b, off + j * 2 + 1, none⟩ = some (.int .i64 y) := fun j hj => by
      have h := key j hj
      rw [hadd, hadd] at h
      exact h
    refine ⟨_, len, cap, fun j => if hj : j < len then (key2 j hj).choose else 0, fun j => if hj : j < len then (key2 j hj).choose_spec.choose else 0, rfl, .inr ⟨b, off, cap, rfl, World.block_lt_of_cell? w _ hc0, fun j hj => ?_⟩⟩
    have hs := (key2 j hj).choose_spec.choose_spec
    simp only [hj, dif_pos]
    exact hs
end Go.Proofs.YtacfjngnfgnmeaaDoor
