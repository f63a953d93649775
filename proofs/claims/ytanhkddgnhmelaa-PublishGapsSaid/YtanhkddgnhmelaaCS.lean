/-
  Strings compared.
-/
import Derived.Test.YtanhkddgnhmelaaL0
import Derived.WalkKit
import Derived.WalkSpells
import Derived.WalkLawsBesides
import Derived.Lib.Bytealg
namespace Go.Ev
open Go.Proofs
set_option linter.unusedVariables false
set_option linter.unusedSimpArgs false
set_option maxRecDepth 100000

open Go.RowKit
namespace S
/-- The order of two strings: -1, 0 or 1. -/
def cmpS (a b : ByteArray) : Int := Lib.compareBytes a.data.toList b.data.toList
end S
set_option maxHeartbeats 400000 in
theorem cs_call (a b : ByteArray) (w : World) : Calls Try.prog 39 #[.string a, .string b] w fun e w' => e = .returned (.int .i64 (S.cmpS a b)) ∧ w = w' := by
  have hd : ∀ W : World, (callFunc 41 #[.string a, .string b]).run Try.prog W = .ok (.value (.int .i64 (S.cmpS a b))) W := fun W => by
    rw [run_callFunc_extern Try.func41 (by kernel_rfl) (by kernel_rfl) (by kernel_rfl) (e := Extern.BytealgCompare.compare) (by kernel_rfl), Lib.run_compareString]; rfl
  go_enter Try.func39, Try.ntmps39
  go_wp2
  go_ret
  exact ⟨rfl, rfl⟩
noncomputable def k39 : Con := ⟨39, [.one (.plain .str), .one (.plain .str)], fun _ => true, fun x => .int .i64 (S.cmpS x.1 x.2.1), fun _ => [], fun _ _ => .dead⟩
theorem k39_ok : k39.ok Try.prog := by
  intro x hx
  obtain ⟨s, c, _⟩ := x
  refine ⟨⟨1, Nat.le_refl _, fun σ w vals hv hs hn => ?_⟩, Try.f39, Try.func39, by kernel_rfl, by kernel_rfl⟩
  have e : vals = #[.string s, .string c] := by
    obtain ⟨l⟩ := vals
    cases hv with
    | cons _ _ _ _ h1 hl =>
      cases hl with
      | cons _ _ _ _ h2 hl =>
        cases hl
        cases h1; cases h2; rfl
  rw [e]
  refine (cs_call s c w).mono fun e w' h => ?_
  obtain ⟨he, hw⟩ := h
  subst hw
  exact ⟨_, σ, he, ⟨.int _ _, hs, Mono.refl σ, fun _ _ => rfl, Frm.refl w _⟩⟩
noncomputable def xC (test : Bool → Prop → Prop → Prop) : Ext := consX test [k39]
theorem xC_ok : ExtOk Try.prog (xC cond) := consX_ok ⟨k39_ok, trivial⟩

end Go.Ev
