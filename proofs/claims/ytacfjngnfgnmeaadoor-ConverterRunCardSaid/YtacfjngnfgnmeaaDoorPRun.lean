/-
  The statement ConverterRun holds: for every converter and script of steps, Run answers as the reference does. Its card ties the table of the states' names to the program's text.
-/
import Derived.Test.YtacfjngnfgnmeaaDoorLawRun2
import Derived.Test.YtacfjngnfgnmeaaDoorOpen3
import Derived.Test.YtacfjngnfgnmeaaDoorOpen
import Derived.Test.YtacfjngnfgnmeaaDoorCards
import Derived.Test.YtacfjngnfgnmeaaDoorTie
import Derived.SevenTiedAt
namespace Go.Proofs.YtacfjngnfgnmeaaDoor
open Go.ChangeShapes Go.WideShapes Go.ChangeAt Go.RowKit

set_option maxRecDepth 100000 in
theorem converterRun_lifted (os : Os) (started : os.Started) (H : Type) (enc : TypeId × Value → H) :
    ReturnsInHanded {} Tryd.checked os 6 .any (fun w args => (Rows.converterRunSpec.pre enc Tryd.prog Tryd.f6 [] false w args ∧ laidMetH Tryd.prog [("betatron/converter.names", Rows.laid_betatron_converter_names)] w) ∧ sizedMet enc Tryd.prog Tryd.f6 (OpenSpec.ofChange Rows.converterRunSpec) false w args)
      (Rows.converterRunSpec.post enc Tryd.prog Tryd.f6 false true false false) := by
  refine returnsInHanded_of_change_and (C := Tryd.checked) (X := fun w _ => laidMetH Tryd.prog [("betatron/converter.names", Rows.laid_betatron_converter_names)] w) (fun _ _ _ hh h => h.of_heap hh) own started (by kernel_rfl) Tryd.func6
    (ChangeSpec.witness_shaped (enc := enc) (C := Tryd.checked) (os := os) (X := fun w _ => laidMetH Tryd.prog [("betatron/converter.names", Rows.laid_betatron_converter_names)] w) false (World.doorLaid Tryd.prog 400 os) #[.agg #[.int .i64 0, .int .i64 0, .int .i64 0, .int .i64 0, .int .i64 0, .int .i64 0], .slice none 0 0] 8 rfl (World.shaped_of_RefB (by kernel_rfl) (by kernel_rfl)) (by kernel_rfl) (by kernel_rfl) (by kernel_rfl) (door_met os _)) ?_
  intro W base args ds gs before hval0 hW _ hreach0 hL _
  have hval : ∀ (j : Nat) t v, Tryd.f6.params[j]? = some t → args[j]? = some v → Value.okWide Tryd.prog W .any base t v := hval0
  have hW' := hW
  obtain ⟨p, q, hA0, hV, rfl, hfz, hnd⟩ := hW
  have hA : DataW.TrodAll enc Tryd.prog W 0 (fun _ => true) true Tryd.f6.params.toList args.toList ds p := hA0
  rw [Tryd.params6] at hA hval
  obtain ⟨v0, v1, d0, d1, p0, p1, rfl, rfl, rfl, h0, h1⟩ := trodAll_two hA
  obtain ⟨rfl, rfl⟩ := trodVars_none hV
  obtain ⟨s, cu, tg, mn, mx, st, rfl⟩ := open_conv (hval 0 23 v0 rfl rfl) h0
  obtain ⟨A, n, cap, K, V, rfl, hS⟩ := open_steps (hval 1 36 v1 rfl rfl) h1

  refine (law_run s cu tg mn mx st A n cap K V W (nm_of hL) hS).mono fun e W' ⟨he, hb⟩ => ?_
  subst he
  exact ⟨_, rfl, law_done laidOut (by rw [Tryd.params6]; exact of_decide_eq_true (by kernel_rfl)) (by kernel_rfl) Tryd.underlying4 rfl hW' rfl hb⟩

theorem converterRun_holds : Rows.ConverterRunSaid :=
  OpenClaim.holds_of_wide 6 Tryd.f6 rfl rfl rfl rfl rfl rfl rfl ⟨rfl, rfl, rfl, rfl, rfl⟩ rfl rfl rfl rfl rfl (by kernel_rfl) Tryd.func6 (by kernel_rfl)
    (of_decide_eq_true (by kernel_rfl)) (by unfold Func.isWrapper; first | (rw [if_pos (by decide +kernel)]; kernel_rfl) | (rw [if_neg (by decide +kernel)]; exact ⟨rfl, rfl⟩))
    (fun os started H enc _ => converterRun_lifted os started H enc)

theorem converterRun_card : Rows.ConverterRunCardSaid :=
  Claim7.holds_tied_plain_at .later [] [.data] true (true, "867ce1f3e5a8dcaf9792870a0361571d4a828cb2ec3ee3c4abb95d4c8e4e1949") false
    converterRun_holds (fun _ h => by cases h) (by kernel_rfl) (fun _ h => by cases h) converterRun_row_tie rfl ⟨rfl, rfl⟩ (by kernel_rfl) rfl
    (fun f fn hf hfn => by
      obtain rfl : f = 6 := Option.some.inj ((show Tryd.prog.funcNamed "betatron/betatronlaw25.ConverterRun" = some 6 by kernel_rfl).symm.trans hf) |>.symm
      obtain rfl : fn = Tryd.f6 := (Option.some.inj (Tryd.func6.symm.trans hfn)).symm
      exact ⟨by kernel_rfl, fun j t ht => by
        rw [Tryd.params6] at ht
        have hm : t ∈ [23, 36] := by simpa using Array.mem_of_getElem? ht
        have hall : ([23, 36].all fun u => !Tryd.prog.wantsStandIn u) = true := by kernel_rfl
        exact (show Tryd.prog.wantsStandIn t = false by simpa using List.all_eq_true.1 hall t hm)⟩)
    (by kernel_rfl)
#print axioms converterRun_card
end Go.Proofs.YtacfjngnfgnmeaaDoor
