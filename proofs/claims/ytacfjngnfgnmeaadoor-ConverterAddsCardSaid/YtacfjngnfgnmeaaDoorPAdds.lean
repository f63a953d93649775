/-
  The statement ConverterAdds holds: for every description of a converter, ticks add up, all at once, in two parts, and one by one, and in each tick the current changes by at most Step. Its card ties the table of the states' names to the program's text.
-/
import Derived.Test.YtacfjngnfgnmeaaDoorOpen2
import Derived.Test.YtacfjngnfgnmeaaDoorLawAdds
import Derived.Test.YtacfjngnfgnmeaaDoorOpen
import Derived.Test.YtacfjngnfgnmeaaDoorCards
import Derived.Test.YtacfjngnfgnmeaaDoorTie
import Derived.SevenTiedAt
namespace Go.Proofs.YtacfjngnfgnmeaaDoor
open Go.ChangeShapes Go.WideShapes Go.ChangeAt Go.RowKit

theorem okw_array {w : World} {r : Reach} {b0 : Nat} {v : Value} (hv : Value.okWide Tryd.prog w r b0 49 v) : ∃ cs, v = .agg cs ∧ cs.size = Tryd.prog.cellsOf 49 := by
  simp only [Value.okWide, Tryd.underlying49] at hv
  obtain ⟨cs, h1, h2, _⟩ := hv
  exact ⟨cs, h1, h2⟩
theorem open_three {H : Type} {enc : TypeId × Value → H} {w : World} {base : Nat} {spare : Nat → Bool} {held : Bool} {r : Reach} {b0 : Nat} {v : Value} {d : DataW H} {p : List MemPlace}
    (hv : Value.okWide Tryd.prog w r b0 49 v) (h : DataW.Trod enc Tryd.prog w base spare held 49 v d p) : ∃ x y z : Int, v = .agg #[.int .u8 x, .int .u8 y, .int .u8 z] ∧ (0 ≤ x ∧ x ≤ 255) ∧ (0 ≤ y ∧ y ≤ 255) ∧ (0 ≤ z ∧ z ≤ 255) := by
  have c49 : Tryd.prog.cellsOf 49 = 3 := by kernel_rfl
  have c5 : Tryd.prog.cellsOf 5 = 1 := by kernel_rfl
  obtain ⟨cs, rfl, hsz⟩ := okw_array hv
  obtain ⟨fuel, hf⟩ := h
  obtain ⟨xs, n', _, _, _, hn, hel⟩ := DataW.trod_array Tryd.underlying49 hf
  rw [c49] at hsz
  obtain ⟨l⟩ := cs
  have hc : (Value.agg ⟨l⟩).cells = ⟨l⟩ := rfl
  rw [hc, c5] at hel
  match l, hsz with
  | [c0, c1, c2], _ =>
    match xs, hn with
    | [x0, x1, x2], _ =>
      have e0 := hel 0 (by decide)
      have e1 := hel 1 (by decide)
      have e2 := hel 2 (by decide)
      simp at e0 e1 e2
      obtain ⟨x, hx, _, wx⟩ := DataW.trod_int Tryd.underlying5 e0
      obtain ⟨y, hy, _, wy⟩ := DataW.trod_int Tryd.underlying5 e1
      obtain ⟨z, hz, _, wz⟩ := DataW.trod_int Tryd.underlying5 e2
      simp at hx hy hz
      subst hx hy hz
      exact ⟨x, y, z, rfl, u8_bd wx, u8_bd wy, u8_bd wz⟩

set_option maxRecDepth 100000 in
theorem converterAdds_lifted (os : Os) (started : os.Started) (H : Type) (enc : TypeId × Value → H) :
    ReturnsInHanded {} Tryd.checked os 8 .any (fun w args => (Rows.converterAddsSpec.pre enc Tryd.prog Tryd.f8 [] false w args ∧ laidMetH Tryd.prog [("betatron/converter.names", Rows.laid_betatron_converter_names)] w) ∧ sizedMet enc Tryd.prog Tryd.f8 (OpenSpec.ofChange Rows.converterAddsSpec) false w args)
      (Rows.converterAddsSpec.post enc Tryd.prog Tryd.f8 false true false false) := by
  refine returnsInHanded_of_change_and (C := Tryd.checked) (X := fun w _ => laidMetH Tryd.prog [("betatron/converter.names", Rows.laid_betatron_converter_names)] w) (fun _ _ _ hh h => h.of_heap hh) own started (by kernel_rfl) Tryd.func8
    (ChangeSpec.witness_shaped (enc := enc) (C := Tryd.checked) (os := os) (X := fun w _ => laidMetH Tryd.prog [("betatron/converter.names", Rows.laid_betatron_converter_names)] w) false (World.doorLaid Tryd.prog 400 os) #[.int .u16 0, .slice none 0 0, .agg #[.int .u8 0, .int .u8 0, .int .u8 0]] 8 rfl (World.shaped_of_RefB (by kernel_rfl) (by kernel_rfl)) (by kernel_rfl) (by kernel_rfl) (by kernel_rfl) (door_met os _)) ?_
  intro W base args ds gs before hval0 hW _ hreach0 hL _
  have hval : ∀ (j : Nat) t v, Tryd.f8.params[j]? = some t → args[j]? = some v → Value.okWide Tryd.prog W .any base t v := hval0
  have hW' := hW
  obtain ⟨p, q, hA0, hV, rfl, hfz, hnd⟩ := hW
  have hA : DataW.TrodAll enc Tryd.prog W 0 (fun _ => true) true Tryd.f8.params.toList args.toList ds p := hA0
  rw [Tryd.params8] at hA hval
  obtain ⟨v0, v1, v2, d0, d1, d2, p0, p1, p2, rfl, rfl, rfl, h0, h1, h2⟩ := trodAll_three hA
  obtain ⟨rfl, rfl⟩ := trodVars_none hV
  obtain ⟨n0, rfl, -, -, wf0⟩ := open_int Tryd.underlying47 (hval 0 47 v0 rfl rfl) h0
  obtain ⟨lo0, hi0⟩ := u16_bd wf0
  have hP := open_prs (hval 1 48 v1 rfl rfl) h1
  obtain ⟨a0, a1, a2, rfl, b0, b1, b2⟩ := open_three (hval 2 49 v2 rfl rfl) h2

  refine (law_adds n0 v1 a0 a1 a2 W (nm_of hL) lo0 hi0 b2.1 b2.2 b0.1 b0.2 b1.1 b1.2 hP).mono fun e W' ⟨he, hb⟩ => ?_
  subst he
  exact ⟨_, rfl, law_done laidOut (by rw [Tryd.params8]; exact of_decide_eq_true (by kernel_rfl)) (by kernel_rfl) Tryd.underlying4 rfl hW' rfl hb⟩

theorem converterAdds_holds : Rows.ConverterAddsSaid :=
  OpenClaim.holds_of_wide 8 Tryd.f8 rfl rfl rfl rfl rfl rfl rfl ⟨rfl, rfl, rfl, rfl, rfl⟩ rfl rfl rfl rfl rfl (by kernel_rfl) Tryd.func8 (by kernel_rfl)
    (of_decide_eq_true (by kernel_rfl)) (by unfold Func.isWrapper; first | (rw [if_pos (by decide +kernel)]; kernel_rfl) | (rw [if_neg (by decide +kernel)]; exact ⟨rfl, rfl⟩))
    (fun os started H enc _ => converterAdds_lifted os started H enc)

theorem converterAdds_card : Rows.ConverterAddsCardSaid :=
  Claim7.holds_tied_plain_at .later [] [.data] true (true, "867ce1f3e5a8dcaf9792870a0361571d4a828cb2ec3ee3c4abb95d4c8e4e1949") false
    converterAdds_holds (fun _ h => by cases h) (by kernel_rfl) (fun _ h => by cases h) converterAdds_row_tie rfl ⟨rfl, rfl⟩ (by kernel_rfl) rfl
    (fun f fn hf hfn => by
      obtain rfl : f = 8 := Option.some.inj ((show Tryd.prog.funcNamed "betatron/betatronlaw25.ConverterAdds" = some 8 by kernel_rfl).symm.trans hf) |>.symm
      obtain rfl : fn = Tryd.f8 := (Option.some.inj (Tryd.func8.symm.trans hfn)).symm
      exact ⟨by kernel_rfl, fun j t ht => by
        rw [Tryd.params8] at ht
        have hm : t ∈ [47, 48, 49] := by simpa using Array.mem_of_getElem? ht
        have hall : ([47, 48, 49].all fun u => !Tryd.prog.wantsStandIn u) = true := by kernel_rfl
        exact (show Tryd.prog.wantsStandIn t = false by simpa using List.all_eq_true.1 hall t hm)⟩)
    (by kernel_rfl)
#print axioms converterAdds_card
end Go.Proofs.YtacfjngnfgnmeaaDoor
