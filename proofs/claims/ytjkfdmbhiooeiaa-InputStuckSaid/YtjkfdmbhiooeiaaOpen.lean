/-
  How the arguments of the statements of layer 43 open.
-/
import Derived.Test.YtjkfdmbhiooeiaaKit
import Derived.Test.YtjkfdmbhiooeiaaAwake
namespace Go.Proofs.Ytjkfdmbhiooeiaa
open Go.ChangeShapes Go.WideShapes Go.ChangeAt Go.RowKit

theorem own : ownKnob Try.prog.godebug = none := by kernel_rfl
theorem laidOut : laidOutB Try.prog = true := by kernel_rfl
theorem cells3 : Try.prog.cellsOf 3 = 1 := by kernel_rfl
theorem cells4 : Try.prog.cellsOf 4 = 1 := by kernel_rfl
theorem cells5 : Try.prog.cellsOf 5 = 1 := by kernel_rfl
theorem cells9 : Try.prog.cellsOf 9 = 1 := by kernel_rfl
theorem cells23 : Try.prog.cellsOf 23 = 4 := by kernel_rfl
theorem cells25 : Try.prog.cellsOf 25 = 4 := by kernel_rfl
theorem cells34 : Try.prog.cellsOf 34 = 3 := by kernel_rfl
section
variable {H : Type} {enc : TypeId × Value → H} {w : World} {base : Nat} {held : Bool} {r : Reach} {b0 : Nat} {v : Value} {d : DataW H} {p : List MemPlace}
theorem open_input {spare : Nat → Bool} (hv : Value.okWide Try.prog w r b0 23 v) (h : DataW.Trod enc Try.prog w base spare held 23 v d p) : ∃ (nm : ByteArray) (ma ri fa : Int), v = .agg #[.string nm, .int .i64 ma, .int .i64 ri, .int .i64 fa] := by
  obtain ⟨cs, rfl, hsz, hc⟩ := open_struct Try.underlying23 (fun i f hf => by
    match i, hf with
    | 0, hf => cases hf; exact ⟨rfl, cells9⟩
    | 1, hf => cases hf; exact ⟨rfl, cells3⟩
    | 2, hf => cases hf; exact ⟨rfl, cells3⟩
    | 3, hf => cases hf; exact ⟨rfl, cells3⟩) cells23 hv h
  obtain ⟨_, c0, nm, rfl⟩ := hc 0 _ .string rfl Try.underlying9
  obtain ⟨_, c1, ma, rfl, _⟩ := hc 1 _ (.int .i64) rfl Try.underlying3
  obtain ⟨_, c2, ri, rfl, _⟩ := hc 2 _ (.int .i64) rfl Try.underlying3
  obtain ⟨_, c3, fa, rfl, _⟩ := hc 3 _ (.int .i64) rfl Try.underlying3
  refine ⟨nm, ma, ri, fa, ?_⟩
  congr 1
  apply Array.ext_getElem?
  intro i
  match i with
  | 0 => exact c0
  | 1 => exact c1
  | 2 => exact c2
  | 3 => exact c3
  | n + 4 => rw [Array.getElem?_eq_none (by rw [hsz]; simp), Array.getElem?_eq_none (by simp)]
theorem open_sample {spare : Nat → Bool} (hv : Value.okWide Try.prog w r b0 25 v) (h : DataW.Trod enc Try.prog w base spare held 25 v d p) : ∃ (a b : Bool) (ag : Int) (va : Bool), v = .agg #[.bool a, .bool b, .int .i64 ag, .bool va] := by
  obtain ⟨cs, rfl, hsz, hc⟩ := open_struct Try.underlying25 (fun i f hf => by
    match i, hf with
    | 0, hf => cases hf; exact ⟨rfl, cells4⟩
    | 1, hf => cases hf; exact ⟨rfl, cells4⟩
    | 2, hf => cases hf; exact ⟨rfl, cells3⟩
    | 3, hf => cases hf; exact ⟨rfl, cells4⟩) cells25 hv h
  obtain ⟨_, c0, a, rfl⟩ := hc 0 _ .bool rfl Try.underlying4
  obtain ⟨_, c1, b, rfl⟩ := hc 1 _ .bool rfl Try.underlying4
  obtain ⟨_, c2, ag, rfl, _⟩ := hc 2 _ (.int .i64) rfl Try.underlying3
  obtain ⟨_, c3, va, rfl⟩ := hc 3 _ .bool rfl Try.underlying4
  refine ⟨a, b, ag, va, ?_⟩
  congr 1
  apply Array.ext_getElem?
  intro i
  match i with
  | 0 => exact c0
  | 1 => exact c1
  | 2 => exact c2
  | 3 => exact c3
  | n + 4 => rw [Array.getElem?_eq_none (by rw [hsz]; simp), Array.getElem?_eq_none (by simp)]
theorem open_filter {spare : Nat → Bool} (hv : Value.okWide Try.prog w r b0 34 v) (h : DataW.Trod enc Try.prog w base spare held 34 v d p) : ∃ (fs fc fn : Int), v = .agg #[.int .i64 fs, .int .i64 fc, .int .i64 fn] := by
  obtain ⟨cs, rfl, hsz, hc⟩ := open_struct Try.underlying34 (fun i f hf => by
    match i, hf with
    | 0, hf => cases hf; exact ⟨rfl, cells3⟩
    | 1, hf => cases hf; exact ⟨rfl, cells3⟩
    | 2, hf => cases hf; exact ⟨rfl, cells3⟩) cells34 hv h
  obtain ⟨_, c0, fs, rfl, _⟩ := hc 0 _ (.int .i64) rfl Try.underlying3
  obtain ⟨_, c1, fc, rfl, _⟩ := hc 1 _ (.int .i64) rfl Try.underlying3
  obtain ⟨_, c2, fn, rfl, _⟩ := hc 2 _ (.int .i64) rfl Try.underlying3
  refine ⟨fs, fc, fn, ?_⟩
  congr 1
  apply Array.ext_getElem?
  intro i
  match i with
  | 0 => exact c0
  | 1 => exact c1
  | 2 => exact c2
  | n + 3 => rw [Array.getElem?_eq_none (by rw [hsz]; simp), Array.getElem?_eq_none (by simp)]
theorem open_states (hv : Value.okWide Try.prog w r b0 39 v) (h : DataW.Trod enc Try.prog w base (fun _ => true) held 39 v d p) : ∃ (A : Option Addr) (cap : Nat) (l : List Int), v = .slice A l.length cap ∧ IntV w v l := by
  obtain ⟨A, n, cap, rfl, hR⟩ := open_plain Try.underlying39 Try.underlying3 cells3 hv h
  rcases hR with ⟨rfl, A', cap', e⟩ | ⟨b, off, cap', e, hb, hc⟩
  · exact ⟨A, cap, [], rfl, .inl ⟨rfl, A', cap', e⟩⟩
  · have key : ∀ j, j < n → ∃ z : Int, w.cell? ⟨b, off + j, none⟩ = some (.int .i64 z) := fun j hj => by
      obtain ⟨c, h1, z, rfl, _⟩ := hc j hj 0 (by decide)
      exact ⟨z, by simpa using h1⟩
    refine ⟨A, cap, (List.range n).map fun j => if hj : j < n then (key j hj).choose else 0, by simp, .inr ⟨b, off, cap', by simpa using e, hb, fun j hj => ?_⟩⟩
    have hj' : j < n := by simpa using hj
    rw [(key j hj').choose_spec]
    simp [List.getD_eq_getElem?_getD, hj']
theorem open_samples (hv : Value.okWide Try.prog w r b0 38 v) (h : DataW.Trod enc Try.prog w base (fun _ => true) held 38 v d p) : ∃ (A : Option Addr) (n cap : Nat) (s : Nat → Sm), v = .slice A n cap ∧ SmV w v n s := by
  obtain ⟨A, n, cap, rfl, hR⟩ := open_structs (D := fun i => if i = 2 then .int .i64 else .bool) Try.underlying38 Try.underlying25 (by decide) cells25 (fun i f hf => by
    match i, hf with
    | 0, hf => cases hf; exact ⟨rfl, cells4, Try.underlying4⟩
    | 1, hf => cases hf; exact ⟨rfl, cells4, Try.underlying4⟩
    | 2, hf => cases hf; exact ⟨rfl, cells3, Try.underlying3⟩
    | 3, hf => cases hf; exact ⟨rfl, cells4, Try.underlying4⟩) hv h
  rcases hR with ⟨rfl, A', cap', e⟩ | ⟨b, off, cap', e, hb, hc⟩
  · exact ⟨A, 0, cap, aS, rfl, .inl ⟨rfl, A', cap', e⟩⟩
  · have key : ∀ j, j < n → ∃ s : Sm, w.cell? ⟨b, off + j * 4, none⟩ = some (.bool s.a) ∧ w.cell? ⟨b, off + j * 4 + 1, none⟩ = some (.bool s.b) ∧ w.cell? ⟨b, off + j * 4 + 2, none⟩ = some (.int .i64 s.g) ∧ w.cell? ⟨b, off + j * 4 + 3, none⟩ = some (.bool s.v) := fun j hj => by
      obtain ⟨_, h0, x0, rfl⟩ := hc j hj 0 (by decide)
      obtain ⟨_, h1, x1, rfl⟩ := hc j hj 1 (by decide)
      obtain ⟨_, h2, x2, rfl, _⟩ := hc j hj 2 (by decide)
      obtain ⟨_, h3, x3, rfl⟩ := hc j hj 3 (by decide)
      exact ⟨⟨x0, x1, x2, x3⟩, h0, h1, h2, h3⟩
    refine ⟨A, n, cap, fun j => if hj : j < n then (key j hj).choose else ⟨false, false, 0, false⟩, rfl, .inr ⟨b, off, cap', e, hb, fun j hj => ?_⟩⟩
    have hs := (key j hj).choose_spec
    simp only [hj, dif_pos]
    exact hs
end
end Go.Proofs.Ytjkfdmbhiooeiaa
