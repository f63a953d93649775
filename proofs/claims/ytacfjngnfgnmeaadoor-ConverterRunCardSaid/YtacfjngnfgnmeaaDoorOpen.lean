/-
  What the listed table holds, and how the arguments of the statements of layer 25 open.
-/
import Derived.Test.YtacfjngnfgnmeaaDoorKit
import Derived.Test.YtacfjngnfgnmeaaDoorLaws
import Derived.LaidMore
import Derived.Stop.Joined
namespace Go.Proofs.YtacfjngnfgnmeaaDoor
open Go.ChangeShapes Go.WideShapes Go.ChangeAt Go.RowKit

theorem own : ownKnob Tryd.prog.godebug = none := by kernel_rfl
theorem laidOut : laidOutB Tryd.prog = true := by kernel_rfl
theorem gNames : Tryd.prog.globalNamed "betatron/converter.names" = some 0 := by kernel_rfl
theorem tNames : (Tryd.prog.globals[0]?).map (·.type) = some 55 := by kernel_rfl
theorem cells9 : Tryd.prog.cellsOf 9 = 1 := by kernel_rfl
theorem cells55 : Tryd.prog.cellsOf 55 = 5 := by kernel_rfl
theorem cells3' : Tryd.prog.cellsOf 3 = 1 := by kernel_rfl
theorem cells23 : Tryd.prog.cellsOf 23 = 6 := by kernel_rfl

/-- The heap that the program's own initialisers leave meets the condition. -/
theorem door_met (os : Os) (args : Array Value) : laidMetH Tryd.prog [("betatron/converter.names", Rows.laid_betatron_converter_names)] ((World.doorLaid Tryd.prog 400 os).forCall (fun _ _ => 0) ⟨#[], args, []⟩).memory :=
  laidMetH_of_parts3 (fuel := 8) (laidMet_of_run' 8 (by kernel_rfl) (by kernel_rfl)) (by kernel_rfl) (by kernel_rfl)

/-- The condition gives the table's cells. -/
theorem nm_of {W : World} (h : laidMetH Tryd.prog [("betatron/converter.names", Rows.laid_betatron_converter_names)] W) : Nm W := by
  rw [MakeChecks.laidMetH_plain _ _ _ (by kernel_rfl)] at h
  obtain ⟨ps, ⟨g0, t0, cs0, f0, p0, q0, hg0, ht0, hv0, hd0, _, _⟩, _⟩ := h
  obtain rfl := Option.some.inj (gNames.symm.trans hg0)
  obtain rfl := Option.some.inj (tNames.symm.trans ht0)
  obtain ⟨xs, m1, rfl, hx1, hlen, hn3, hel⟩ := DataW.trod_array Tryd.underlying55 hd0
  rw [cells55] at hlen
  simp only [Rows.laid_betatron_converter_names, Prod.mk.injEq, DataW.agg.injEq] at hx1
  have key : ∀ i, i < 5 → ∃ s : ByteArray, W.cell? ⟨0, i, none⟩ = some (.string s) ∧ (xs.map (·.1))[i]? = some (.lit (.string s.data.toList)) := fun i hi => by
    have h1 := hel i hi
    rw [cells9, Nat.mul_one] at h1
    have hxi : xs[i]? = some (xs[i]'(by omega)) := List.getElem?_eq_getElem (by omega)
    rw [hxi] at h1
    obtain ⟨s, hs, hd, _⟩ := DataW.trod_string Tryd.underlying9 h1
    refine ⟨s, ?_, by simp [hxi, hd]⟩
    have hc := World.var?_cell hg0 hv0 i
    rw [List.drop_eq_getElem_cons (by simpa using (by omega : i < cs0.toList.length))] at hs
    simp at hs
    have hi' : i < cs0.size := by simpa using (by omega : i < cs0.toList.length)
    rw [← hs, ← Array.getElem?_eq_getElem hi']
    exact hc
  rw [← hx1.1] at key
  have fin : ∀ i (l : List UInt8), i < 5 → ([DataW.lit (.string [111, 102, 102]), .lit (.string [115, 116, 97, 110, 100, 98, 121]), .lit (.string [111, 110]), .lit (.string [114, 97, 109, 112, 105, 110, 103]), .lit (.string [102, 97, 117, 108, 116])] : List (DataW Unit))[i]? = some (.lit (.string l)) → W.cell? ⟨0, i, none⟩ = some (.string ⟨l.toArray⟩) := fun i l hi hl => by
    obtain ⟨s, h1, h2⟩ := key i hi
    rw [hl] at h2
    simp only [Option.some.injEq, DataW.lit.injEq, Lit.string.injEq] at h2
    rw [h1, h2]
  have c0 := fin 0 _ (by decide) rfl
  exact ⟨c0, fin 1 _ (by decide) rfl, fin 2 _ (by decide) rfl, fin 3 _ (by decide) rfl, fin 4 _ (by decide) rfl, World.block_lt_of_cell? W _ c0⟩

theorem open_conv {H : Type} {enc : TypeId × Value → H} {w : World} {base : Nat} {spare : Nat → Bool} {held : Bool} {r : Reach} {b0 : Nat} {v : Value} {d : DataW H} {p : List MemPlace}
    (hv : Value.okWide Tryd.prog w r b0 23 v) (h : DataW.Trod enc Tryd.prog w base spare held 23 v d p) : ∃ s cu tg mn mx st : Int, v = .agg #[.int .i64 s, .int .i64 cu, .int .i64 tg, .int .i64 mn, .int .i64 mx, .int .i64 st] := by
  obtain ⟨zs, rfl, _⟩ := open_ints Tryd.underlying23 Tryd.underlying3 cells3' cells23 (fun i f hf => by
    match i, hf with
    | 0, hf => cases hf; exact ⟨rfl, rfl⟩
    | 1, hf => cases hf; exact ⟨rfl, rfl⟩
    | 2, hf => cases hf; exact ⟨rfl, rfl⟩
    | 3, hf => cases hf; exact ⟨rfl, rfl⟩
    | 4, hf => cases hf; exact ⟨rfl, rfl⟩
    | 5, hf => cases hf; exact ⟨rfl, rfl⟩
    | n + 6, hf => simp at hf) hv h
  exact ⟨zs 0, zs 1, zs 2, zs 3, zs 4, zs 5, rfl⟩
end Go.Proofs.YtacfjngnfgnmeaaDoor
