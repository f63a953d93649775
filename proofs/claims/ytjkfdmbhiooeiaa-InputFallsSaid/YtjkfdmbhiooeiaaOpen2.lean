/-
  How the arguments of the statements on runs of descriptions open.
-/
import Derived.Test.YtjkfdmbhiooeiaaOpen
import Derived.Test.YtjkfdmbhiooeiaaLawG
namespace Go.Proofs.Ytjkfdmbhiooeiaa
open Go.ChangeShapes Go.WideShapes Go.ChangeAt Go.RowKit

theorem u8_bd {z : Int} (h : (Lit.int .u8 z).wf = true) : 0 ≤ z ∧ z ≤ 255 := by
  simp [Lit.wf, IntKind.min, IntKind.max, IntKind.signed, IntKind.bits] at h
  exact ⟨by omega, by omega⟩

theorem okw_array {w : World} {r : Reach} {b0 : Nat} {v : Value} (hv : Value.okWide Try.prog w r b0 51 v) : ∃ cs, v = .agg cs ∧ cs.size = Try.prog.cellsOf 51 := by
  simp only [Value.okWide, Try.underlying51] at hv
  obtain ⟨cs, h1, h2, _⟩ := hv
  exact ⟨cs, h1, h2⟩
theorem open_three {H : Type} {enc : TypeId × Value → H} {w : World} {base : Nat} {spare : Nat → Bool} {held : Bool} {r : Reach} {b0 : Nat} {v : Value} {d : DataW H} {p : List MemPlace}
    (hv : Value.okWide Try.prog w r b0 51 v) (h : DataW.Trod enc Try.prog w base spare held 51 v d p) : ∃ x y z : Int, v = .agg #[.int .u8 x, .int .u8 y, .int .u8 z] ∧ (0 ≤ x ∧ x ≤ 255) ∧ (0 ≤ y ∧ y ≤ 255) ∧ (0 ≤ z ∧ z ≤ 255) := by
  have c51 : Try.prog.cellsOf 51 = 3 := by kernel_rfl
  obtain ⟨cs, rfl, hsz⟩ := okw_array hv
  obtain ⟨fuel, hf⟩ := h
  obtain ⟨xs, n', _, _, _, hn, hel⟩ := DataW.trod_array Try.underlying51 hf
  rw [c51] at hsz
  obtain ⟨l⟩ := cs
  have hc : (Value.agg ⟨l⟩).cells = ⟨l⟩ := rfl
  rw [hc, cells5] at hel
  match l, hsz with
  | [c0, c1, c2], _ =>
    match xs, hn with
    | [x0, x1, x2], _ =>
      have e0 := hel 0 (by decide)
      have e1 := hel 1 (by decide)
      have e2 := hel 2 (by decide)
      simp at e0 e1 e2
      obtain ⟨x, hx, _, wx⟩ := DataW.trod_int Try.underlying5 e0
      obtain ⟨y, hy, _, wy⟩ := DataW.trod_int Try.underlying5 e1
      obtain ⟨z, hz, _, wz⟩ := DataW.trod_int Try.underlying5 e2
      simp at hx hy hz
      subst hx hy hz
      exact ⟨x, y, z, rfl, u8_bd wx, u8_bd wy, u8_bd wz⟩
theorem open_bytes {H : Type} {enc : TypeId × Value → H} {w : World} {base : Nat} {held : Bool} {r : Reach} {b0 : Nat} {v : Value} {d : DataW H} {p : List MemPlace}
    (hv : Value.okWide Try.prog w r b0 52 v) (h : DataW.Trod enc Try.prog w base (fun _ => true) held 52 v d p) : ∃ (A : Option Addr) (n cap : Nat) (X : Nat → Int), v = .slice A n cap ∧ BytV w v n X := by
  obtain ⟨A, n, cap, rfl, hR⟩ := open_plain Try.underlying52 Try.underlying5 cells5 hv h
  rcases hR with ⟨rfl, A', cap', e⟩ | ⟨b, off, cap', e, hb, hc⟩
  · exact ⟨A, 0, cap, fun _ => 0, rfl, .inl ⟨rfl, A', cap', e⟩⟩
  · have key : ∀ j, j < n → ∃ z : Int, w.cell? ⟨b, off + j, none⟩ = some (.int .u8 z) ∧ 0 ≤ z ∧ z ≤ 255 := fun j hj => by
      obtain ⟨c, h1, z, rfl, hz⟩ := hc j hj 0 (by decide)
      exact ⟨z, by simpa using h1, u8_bd hz⟩
    refine ⟨A, n, cap, fun j => if hj : j < n then (key j hj).choose else 0, rfl, .inr ⟨b, off, cap', e, hb, fun j hj => ?_⟩⟩
    have hs := (key j hj).choose_spec
    simp only [hj, dif_pos]
    exact hs
end Go.Proofs.Ytjkfdmbhiooeiaa
