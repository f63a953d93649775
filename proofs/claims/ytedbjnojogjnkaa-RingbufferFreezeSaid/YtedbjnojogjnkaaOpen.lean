/-
  How the arguments of the statements of layer 51 open.
-/
import Derived.Test.YtedbjnojogjnkaaKit
import Derived.Test.YtedbjnojogjnkaaPut
namespace Go.Proofs.Ytedbjnojogjnkaa
open Go.ChangeShapes Go.WideShapes Go.ChangeAt Go.RowKit

theorem own : ownKnob Try.prog.godebug = none := by kernel_rfl
theorem laidOut : laidOutB Try.prog = true := by kernel_rfl
theorem cells3 : Try.prog.cellsOf 3 = 1 := by kernel_rfl
theorem cells4 : Try.prog.cellsOf 4 = 1 := by kernel_rfl
theorem cells22 : Try.prog.cellsOf 22 = 1 := by kernel_rfl
theorem cells24 : Try.prog.cellsOf 24 = 6 := by kernel_rfl
theorem cells26 : Try.prog.cellsOf 26 = 3 := by kernel_rfl
section
variable {H : Type} {enc : TypeId × Value → H} {P : Program}
/-- One field's cell is read as a value of the field's type is. -/
theorem open_field {w : World} {base fuel : Nat} {spare : Nat → Bool} {held : Bool} {t : TypeId} {fs : Array Field} {cs : List Value} {x : DataW H × List MemPlace}
    (hs : P.underlying t = some (.struct fs)) (h : DataW.trod enc P w base spare held fuel t cs = some x) (hlen : cs.length = fs.size)
    (i : Nat) (f : Field) (hf : fs[i]? = some f) (ho : f.offset = i) (h1 : P.cellsOf f.type = 1) : ∃ (c : Value) (n : Nat) (y : DataW H × List MemPlace), cs[i]? = some c ∧ DataW.trod enc P w base spare held n f.type [c] = some y := by
  obtain ⟨xs, n, _, _, _, hx, hg⟩ := DataW.trod_struct hs h
  have hi : i < fs.size := (Array.getElem?_eq_some_iff.1 hf).1
  have hgi := hg i f hf
  rw [ho, h1, List.drop_eq_getElem_cons (by omega)] at hgi
  simp only [List.take_succ_cons, List.take_zero] at hgi
  rw [List.getElem?_eq_getElem (by omega)] at hgi
  exact ⟨cs[i], _, _, List.getElem?_eq_getElem (by omega), hgi⟩
end
section
variable {H : Type} {enc : TypeId × Value → H} {w : World} {base : Nat} {held : Bool} {r : Reach} {b0 : Nat} {v : Value} {d : DataW H} {p : List MemPlace}
theorem el26 (cs : List Value) (fuel : Nat) (x : DataW H × List MemPlace) (hl : cs.length = 3) (hx : DataW.trod enc Try.prog w base (fun _ => true) held fuel 26 cs = some x) : ∃ (t y : Int) (g : Bool), cs = [.int .i64 t, .int .i64 y, .bool g] := by
  have hc := open_cells Try.underlying26 (fun i f hf => by
    match i, hf with
    | 0, hf => cases hf; exact ⟨rfl, cells3⟩
    | 1, hf => cases hf; exact ⟨rfl, cells3⟩
    | 2, hf => cases hf; exact ⟨rfl, cells4⟩) hx hl
  obtain ⟨_, c0, t, rfl, _⟩ := hc 0 _ (.int .i64) rfl Try.underlying3
  obtain ⟨_, c1, y, rfl, _⟩ := hc 1 _ (.int .i64) rfl Try.underlying3
  obtain ⟨_, c2, g, rfl⟩ := hc 2 _ .bool rfl Try.underlying4
  refine ⟨t, y, g, ?_⟩
  apply List.ext_getElem?
  intro i
  match i with
  | 0 => exact c0
  | 1 => exact c1
  | 2 => exact c2
  | n + 3 => rw [List.getElem?_eq_none (by omega), List.getElem?_eq_none (by simp)]
/-- A list of samples, as it is read. -/
theorem open_list {c : Value} {fuel : Nat} {x : DataW H × List MemPlace} (hf : DataW.trod enc Try.prog w base (fun _ => true) held fuel 22 [c] = some x) : ∃ (A : Option Addr) (n cap : Nat) (M : Nat → Ms), c = .slice A n cap ∧ MsV w (.slice A n cap) n M := by
  rcases Go.Deep.open_slice Try.underlying22 hf with ⟨h0, _⟩ | ⟨a, len, cap, k, n, Dd, Pl, hcs, hb, hl, hcap, hk, _, hi⟩
  · have e : c = .slice none 0 0 := by simpa using h0
    exact ⟨none, 0, 0, fun _ => ⟨0, 0, false⟩, e, .inl ⟨rfl, none, 0, rfl⟩⟩
  · have e : c = .slice (some a) len cap := by simpa using hcs
    simp only [if_true] at hk
    by_cases hz : len = 0
    · subst hz; exact ⟨some a, 0, cap, fun _ => ⟨0, 0, false⟩, e, .inl ⟨rfl, some a, cap, rfl⟩⟩
    have key : ∀ j, j < len → ∃ m : Ms, w.cell? (a.add (j * 3)) = some (.int .i64 m.t) ∧ w.cell? (a.add (j * 3 + 1)) = some (.int .i64 m.x) ∧ w.cell? (a.add (j * 3 + 2)) = some (.bool m.g) := fun j hj => by
      obtain ⟨cs', hc, ht'⟩ := hi j (by omega)
      rw [cells26] at hc
      obtain ⟨_, hcl, hat⟩ := World.cells?_some hc
      obtain ⟨t, y, g, rfl⟩ := el26 cs' n _ hcl ht'
      refine ⟨⟨t, y, g⟩, ?_, ?_, ?_⟩
      · have := hat 0 (by decide); rw [Go.Deep.add_add] at this; exact this
      · have := hat 1 (by decide); rw [Go.Deep.add_add] at this; exact this
      · have := hat 2 (by decide); rw [Go.Deep.add_add] at this; exact this
    obtain ⟨b, off, spot⟩ := a
    have hspot : spot = none := by
      obtain ⟨m, hc, _⟩ := key 0 (by omega)
      simp [Addr.add] at hc
      exact World.cell?_spot hc
    subst hspot
    have hadd : ∀ k, (⟨b, off, none⟩ : Addr).add k = ⟨b, off + k, none⟩ := fun k => by unfold Addr.add; split <;> simp_all
    have hbz : b < w.heap.size := by
      obtain ⟨m, hc, _⟩ := key 0 (by omega)
      have := World.block_lt_of_cell? w _ hc
      rwa [hadd] at this
    have key2 : ∀ j, j < len → ∃ m : Ms, w.cell? ⟨b, off + j * 3, none⟩ = some (.int .i64 m.t) ∧ w.cell? ⟨b, off + j * 3 + 1, none⟩ = some (.int .i64 m.x) ∧ w.cell? ⟨b, off + j * 3 + 2, none⟩ = some (.bool m.g) := fun j hj => by
      obtain ⟨m, h0, h1, h2⟩ := key j hj
      rw [hadd] at h0 h1 h2
      exact ⟨m, h0, h1, h2⟩
    refine ⟨_, len, cap, fun j => if h : j < len then Classical.choose (key2 j h) else ⟨0, 0, false⟩, e, .inr ⟨b, off, cap, rfl, hl, hbz, fun j hj => ?_⟩⟩
    have := Classical.choose_spec (key2 j hj)
    simp only [dif_pos hj]
    exact this
theorem open_buffer (hv : Value.okWide Try.prog w r b0 24 v) (h : DataW.Trod enc Try.prog w base (fun _ => true) held 24 v d p) : ∃ (ca af : Int) (A : Option Addr) (n cap : Nat) (M : Nat → Ms) (ov re : Int) (fz : Bool), v = .agg #[.int .i64 ca, .int .i64 af, .slice A n cap, .int .i64 ov, .int .i64 re, .bool fz] ∧ MsV w (.slice A n cap) n M := by
  obtain ⟨cs, rfl, hsz⟩ := okWide_struct Try.underlying24 hv
  obtain ⟨fuel, hf⟩ := h
  have hsz6 : cs.size = 6 := by rw [hsz]; exact cells24
  have hl : cs.toList.length = 6 := by simpa using hsz6
  have F := fun i f h1 h2 h3 => open_field (i := i) (f := f) Try.underlying24 hf hl h1 h2 h3
  obtain ⟨_, _, _, c0, t0⟩ := F 0 _ rfl rfl cells3
  obtain ⟨_, _, _, c1, t1⟩ := F 1 _ rfl rfl cells3
  obtain ⟨_, _, _, c2, t2⟩ := F 2 _ rfl rfl cells22
  obtain ⟨_, _, _, c3, t3⟩ := F 3 _ rfl rfl cells3
  obtain ⟨_, _, _, c4, t4⟩ := F 4 _ rfl rfl cells3
  obtain ⟨_, _, _, c5, t5⟩ := F 5 _ rfl rfl cells4
  obtain ⟨ca, rfl, _⟩ := fits_of (d := .int .i64) Try.underlying3 t0
  obtain ⟨af, rfl, _⟩ := fits_of (d := .int .i64) Try.underlying3 t1
  obtain ⟨A, n, cap, M, rfl, hM⟩ := open_list t2
  obtain ⟨ov, rfl, _⟩ := fits_of (d := .int .i64) Try.underlying3 t3
  obtain ⟨re, rfl, _⟩ := fits_of (d := .int .i64) Try.underlying3 t4
  obtain ⟨fz, rfl⟩ := fits_of (d := .bool) Try.underlying4 t5
  refine ⟨ca, af, A, n, cap, M, ov, re, fz, ?_, hM⟩
  congr 1
  apply Array.ext_getElem?
  intro i
  match i with
  | 0 => simpa [Value.cells] using c0
  | 1 => simpa [Value.cells] using c1
  | 2 => simpa [Value.cells] using c2
  | 3 => simpa [Value.cells] using c3
  | 4 => simpa [Value.cells] using c4
  | 5 => simpa [Value.cells] using c5
  | n + 6 => rw [Array.getElem?_eq_none (by omega), Array.getElem?_eq_none (by simp)]
end
end Go.Proofs.Ytedbjnojogjnkaa
