/-
  The statement ConverterTrips holds: for every description of a converter, one that is not off trips into a fault, cannot be set any more, and can be reset behind Remaining ticks and not earlier. Its card ties the table of the states' names to the program's text.
-/
import Derived.Test.YtacfjngnfgnmeaaDoorOpen2
import Derived.Test.YtacfjngnfgnmeaaDoorLawTrips
import Derived.Test.YtacfjngnfgnmeaaDoorOpen
import Derived.Test.YtacfjngnfgnmeaaDoorCards
import Derived.Test.YtacfjngnfgnmeaaDoorTie
import Derived.SevenTiedAt
namespace Go.Proofs.YtacfjngnfgnmeaaDoor
open Go.ChangeShapes Go.WideShapes Go.ChangeAt Go.RowKit

set_option maxRecDepth 100000 in
theorem converterTrips_lifted (os : Os) (started : os.Started) (H : Type) (enc : TypeId × Value → H) :
    ReturnsInHanded {} Tryd.checked os 10 .any (fun w args => (Rows.converterTripsSpec.pre enc Tryd.prog Tryd.f10 [] false w args ∧ laidMetH Tryd.prog [("betatron/converter.names", Rows.laid_betatron_converter_names)] w) ∧ sizedMet enc Tryd.prog Tryd.f10 (OpenSpec.ofChange Rows.converterTripsSpec) false w args)
      (Rows.converterTripsSpec.post enc Tryd.prog Tryd.f10 false true false false) := by
  refine returnsInHanded_of_change_and (C := Tryd.checked) (X := fun w _ => laidMetH Tryd.prog [("betatron/converter.names", Rows.laid_betatron_converter_names)] w) (fun _ _ _ hh h => h.of_heap hh) own started (by kernel_rfl) Tryd.func10
    (ChangeSpec.witness_shaped (enc := enc) (C := Tryd.checked) (os := os) (X := fun w _ => laidMetH Tryd.prog [("betatron/converter.names", Rows.laid_betatron_converter_names)] w) false (World.doorLaid Tryd.prog 400 os) #[.int .u16 0, .int .u8 0, .slice none 0 0] 8 rfl (World.shaped_of_RefB (by kernel_rfl) (by kernel_rfl)) (by kernel_rfl) (by kernel_rfl) (by kernel_rfl) (door_met os _)) ?_
  intro W base args ds gs before hval0 hW _ hreach0 hL _
  have hval : ∀ (j : Nat) t v, Tryd.f10.params[j]? = some t → args[j]? = some v → Value.okWide Tryd.prog W .any base t v := hval0
  have hW' := hW
  obtain ⟨p, q, hA0, hV, rfl, hfz, hnd⟩ := hW
  have hA : DataW.TrodAll enc Tryd.prog W 0 (fun _ => true) true Tryd.f10.params.toList args.toList ds p := hA0
  rw [Tryd.params10] at hA hval
  obtain ⟨v0, v1, v2, d0, d1, d2, p0, p1, p2, rfl, rfl, rfl, h0, h1, h2⟩ := trodAll_three hA
  obtain ⟨rfl, rfl⟩ := trodVars_none hV
  obtain ⟨n0, rfl, -, -, wf0⟩ := open_int Tryd.underlying47 (hval 0 47 v0 rfl rfl) h0
  obtain ⟨lo0, hi0⟩ := u16_bd wf0
  obtain ⟨n1, rfl, -, -, wf1⟩ := open_int Tryd.underlying5 (hval 1 5 v1 rfl rfl) h1
  obtain ⟨lo1, hi1⟩ := u8_bd wf1
  have hP := open_prs (hval 2 48 v2 rfl rfl) h2

  refine (law_trips n0 n1 v2 W (nm_of hL) lo0 hi0 lo1 hi1 hP).mono fun e W' ⟨he, hb⟩ => ?_
  subst he
  exact ⟨_, rfl, law_done laidOut (by rw [Tryd.params10]; exact of_decide_eq_true (by kernel_rfl)) (by kernel_rfl) Tryd.underlying4 rfl hW' rfl hb⟩

theorem converterTrips_holds : Rows.ConverterTripsSaid :=
  OpenClaim.holds_of_wide 10 Tryd.f10 rfl rfl rfl rfl rfl rfl rfl ⟨rfl, rfl, rfl, rfl, rfl⟩ rfl rfl rfl rfl rfl (by kernel_rfl) Tryd.func10 (by kernel_rfl)
    (of_decide_eq_true (by kernel_rfl)) (by unfold Func.isWrapper; first | (rw [if_pos (by decide +kernel)]; kernel_rfl) | (rw [if_neg (by decide +kernel)]; exact ⟨rfl, rfl⟩))
    (fun os started H enc _ => converterTrips_lifted os started H enc)

theorem converterTrips_card : Rows.ConverterTripsCardSaid :=
  Claim7.holds_tied_plain_at .later [] [.data] true (true, "867ce1f3e5a8dcaf9792870a0361571d4a828cb2ec3ee3c4abb95d4c8e4e1949") false
    converterTrips_holds (fun _ h => by cases h) (by kernel_rfl) (fun _ h => by cases h) converterTrips_row_tie rfl ⟨rfl, rfl⟩ (by kernel_rfl) rfl
    (fun f fn hf hfn => by
      obtain rfl : f = 10 := Option.some.inj ((show Tryd.prog.funcNamed "betatron/betatronlaw25.ConverterTrips" = some 10 by kernel_rfl).symm.trans hf) |>.symm
      obtain rfl : fn = Tryd.f10 := (Option.some.inj (Tryd.func10.symm.trans hfn)).symm
      exact ⟨by kernel_rfl, fun j t ht => by
        rw [Tryd.params10] at ht
        have hm : t ∈ [47, 5, 48] := by simpa using Array.mem_of_getElem? ht
        have hall : ([47, 5, 48].all fun u => !Tryd.prog.wantsStandIn u) = true := by kernel_rfl
        exact (show Tryd.prog.wantsStandIn t = false by simpa using List.all_eq_true.1 hall t hm)⟩)
    (by kernel_rfl)
#print axioms converterTrips_card
end Go.Proofs.YtacfjngnfgnmeaaDoor
