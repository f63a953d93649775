/-
  How descriptions open: slices of pairs of small numbers.
-/
import Derived.Test.YtacfjngnfgnmeaaDoorOpen
import Derived.Test.YtacfjngnfgnmeaaDoorLawArr
import Derived.Deep.Slices
namespace Go.Proofs.YtacfjngnfgnmeaaDoor
open Go.ChangeShapes Go.WideShapes Go.ChangeAt Go.RowKit Go.Deep

theorem cells60 : Tryd.prog.cellsOf 60 = 2 := by kernel_rfl
theorem cells47 : Tryd.prog.cellsOf 47 = 1 := by kernel_rfl
theorem u16_bd {z : Int} (h : (Lit.int .u16 z).wf = true) : 0 ≤ z ∧ z ≤ 65535 := by
  simp [Lit.wf, IntKind.min, IntKind.max, IntKind.signed, IntKind.bits] at h
  exact ⟨by omega, by omega⟩
theorem u8_bd {z : Int} (h : (Lit.int .u8 z).wf = true) : 0 ≤ z ∧ z ≤ 255 := by
  simp [Lit.wf, IntKind.min, IntKind.max, IntKind.signed, IntKind.bits] at h
  exact ⟨by omega, by omega⟩

theorem open_prs {H : Type} {enc : TypeId × Value → H} {w : World} {base : Nat} {held : Bool} {r : Reach} {b0 : Nat} {v : Value} {d : DataW H} {p : List MemPlace}
    (hv : Value.okWide Tryd.prog w r b0 48 v) (h : DataW.Trod enc Tryd.prog w base (fun _ => true) held 48 v d p) : PrsV w v := by
  obtain ⟨A, len, cap, rfl⟩ := okWide_slice Tryd.underlying48 hv
  obtain ⟨fuel, hf⟩ := h
  rcases open_slice Tryd.underlying48 hf with ⟨h0, _⟩ | ⟨a, len', cap', m, n, D, Pl, hcs, hb, hl, hm, hmm, _, hi⟩
  · have e : Value.slice A len cap = .slice none 0 0 := by simpa [Value.cells] using h0
    cases e
    exact .inl ⟨none, 0, rfl⟩
  · have e : Value.slice A len cap = .slice (some a) len' cap' := by simpa [Value.cells] using hcs
    cases e
    simp only [if_true] at hmm
    by_cases hz : len = 0
    · subst hz; exact .inl ⟨some a, cap, rfl⟩
    have key : ∀ j, j < len → ∃ x y : Int, w.cell? (a.add (j * 2)) = some (.int .u16 x) ∧ w.cell? (a.add (j * 2 + 1)) = some (.int .u16 y) ∧ 0 ≤ x ∧ x ≤ 65535 ∧ 0 ≤ y ∧ y ≤ 65535 := fun j hj => by
      obtain ⟨cs', hc, ht⟩ := hi j (by omega)
      rw [cells60] at hc
      obtain ⟨_, hcl, hat⟩ := World.cells?_some hc
      obtain ⟨xs, n', _, _, hlen, hn, hel⟩ := DataW.trod_array Tryd.underlying60 ht
      have e0 := hel 0 (by decide)
      have e1 := hel 1 (by decide)
      rw [cells47] at e0 e1
      match cs', hcl with
      | [c0, c1], _ =>
        match xs, hn with
        | [x0, x1], _ =>
          simp at e0 e1
          obtain ⟨x, hx, _, wx⟩ := DataW.trod_int Tryd.underlying47 e0
          obtain ⟨y, hy, _, wy⟩ := DataW.trod_int Tryd.underlying47 e1
          simp at hx hy
          have a0 := hat 0 (by decide)
          have a1 := hat 1 (by decide)
          rw [Addr.add_add] at a0 a1
          simp at a0 a1
          obtain ⟨x1', x2'⟩ := u16_bd wx
          obtain ⟨y1', y2'⟩ := u16_bd wy
          exact ⟨x, y, by rw [a0, hx], by rw [a1, hy], x1', x2', y1', y2'⟩
    obtain ⟨b, off, spot⟩ := a
    have hc0 : w.cell? ⟨b, off, spot⟩ = some (.int .u16 (key 0 (by omega)).choose) := by
      have := (key 0 (by omega)).choose_spec.choose_spec.1
      simpa [Addr.add] using this
    have hspot : spot = none := World.cell?_spot hc0
    subst hspot
    have hadd : ∀ k, (⟨b, off, none⟩ : Addr).add k = ⟨b, off + k, none⟩ := fun k => by unfold Addr.add; split <;> simp_all
    have key2 : ∀ j, j < len → ∃ x y : Int, w.cell? ⟨b, off + j * 2, none⟩ = some (.int .u16 x) ∧ w.cell? ⟨b, off + j * 2 + 1, none⟩ = some (.int .u16 y) ∧ 0 ≤ x ∧ x ≤ 65535 ∧ 0 ≤ y ∧ y ≤ 65535 := fun j hj => by
      have h := key j hj
      rw [hadd, hadd] at h
      exact h
    refine .inr ⟨b, off, len, cap, fun j => if hj : j < len then (key2 j hj).choose else 0, fun j => if hj : j < len then (key2 j hj).choose_spec.choose else 0, rfl, by unfold maxLen at hm; omega, World.block_lt_of_cell? w _ hc0, fun j hj => ?_⟩
    have hs := (key2 j hj).choose_spec.choose_spec
    simp only [hj, dif_pos]
    exact hs
end Go.Proofs.YtacfjngnfgnmeaaDoor
