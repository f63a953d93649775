/-
  No cell of these rows narrows 'for every input' (looked for: loops, veiled, ifaces, maps, wideKeys, modest, calm, conditions, laid).
  DERIVED. THE GIVEN ROWS OF THIS SEAT. 9 by the template 'for every input the law returns true; each argument reads behind the call as it read before'; 0 by the template 'total and deterministic' (their statements: YtccojphjkaikeaaTotals.lean).
  GIVEN WITH THE SEED: the statements are not yours to turn. If you find one false, say at which input.
  Laid BY PROGRAM, IN A SANDBOX (cutbox-rows.mjs): the forced cells as the released guide's own fill.sh prints them over the translation 04fd9a6f5b855e63… (all of the seat's roots in one cut). By AI agents, Wed Nov 11 2026. No macro, syntax, notation, axiom, sorry.
-/
import Derived.Test.YtccojphjkaikeaaChecked
import GoSem.Claim
import GoSem.ClaimJoined
import GoSem.ClaimMapViews
import Derived.JoinedTies
import Derived.KernelRfl
namespace Go.Proofs.Ytccojphjkaikeaa
/- THE CELL 'sum', in the pinned program and in every row, IS THE sha256 OF THE DUMP (.gsa) THAT YtccojphjkaikeaaProg.lean LOADS. Nothing in Lean hashes anything: it is a label: what it is worth is what the hold of that sum in a sandbox is worth. -/
noncomputable def Try.pinned : Pinned := { name := "ytccojphjkaikeaa", sum := "04fd9a6f5b855e6370e81b3af36a58c601f9e147dcd7dcd605627207860570d7", checked := Try.checked }
namespace Rows
def none {H : Type} : Left H := { results := [], args := [] }

/-- 'betatronlaw23.HysteresisApply': WHATEVER THE INPUT: true; the input reads as it did. -/
def hysteresisApplySpec : ChangeSpec := { name := "hysteresisApply", fn := fun _ => fun
  | [d1, d2] => { results := [.lit (.bool true)], args := [d1, d2] }
  | _ => none }
def hysteresisApplyRow : OpenClaim := { program := "ytccojphjkaikeaa", sum := "04fd9a6f5b855e6370e81b3af36a58c601f9e147dcd7dcd605627207860570d7", func := "betatron/betatronlaw23.HysteresisApply", spec := "hysteresisApply", unfollowed := true, recurses := true, apart := false }
def HysteresisApplySaid : Prop := hysteresisApplyRow.holds Try.pinned (OpenSpec.ofChange hysteresisApplySpec)

/-- ITS FALSE NEIGHBOUR: 'it returns false'. Refute it at one input. -/
def hysteresisApplyWrong : ChangeSpec := { name := "hysteresisApply", fn := fun _ => fun
  | [d1, d2] => { results := [.lit (.bool false)], args := [d1, d2] }
  | _ => none }
def HysteresisApplyWrongFalsely : Prop := hysteresisApplyRow.holds Try.pinned (OpenSpec.ofChange hysteresisApplyWrong)

/-- 'betatronlaw23.HysteresisHistory': WHATEVER THE INPUT: true; the input reads as it did. -/
def hysteresisHistorySpec : ChangeSpec := { name := "hysteresisHistory", fn := fun _ => fun
  | [d1, d2] => { results := [.lit (.bool true)], args := [d1, d2] }
  | _ => none }
def hysteresisHistoryRow : OpenClaim := { program := "ytccojphjkaikeaa", sum := "04fd9a6f5b855e6370e81b3af36a58c601f9e147dcd7dcd605627207860570d7", func := "betatron/betatronlaw23.HysteresisHistory", spec := "hysteresisHistory", unfollowed := true, recurses := true, apart := false }
def HysteresisHistorySaid : Prop := hysteresisHistoryRow.holds Try.pinned (OpenSpec.ofChange hysteresisHistorySpec)

/-- ITS FALSE NEIGHBOUR: 'it returns false'. Refute it at one input. -/
def hysteresisHistoryWrong : ChangeSpec := { name := "hysteresisHistory", fn := fun _ => fun
  | [d1, d2] => { results := [.lit (.bool false)], args := [d1, d2] }
  | _ => none }
def HysteresisHistoryWrongFalsely : Prop := hysteresisHistoryRow.holds Try.pinned (OpenSpec.ofChange hysteresisHistoryWrong)

/-- 'betatronlaw23.HysteresisReduce': WHATEVER THE INPUT: true; the input reads as it did. -/
def hysteresisReduceSpec : ChangeSpec := { name := "hysteresisReduce", fn := fun _ => fun
  | [d] => { results := [.lit (.bool true)], args := [d] }
  | _ => none }
def hysteresisReduceRow : OpenClaim := { program := "ytccojphjkaikeaa", sum := "04fd9a6f5b855e6370e81b3af36a58c601f9e147dcd7dcd605627207860570d7", func := "betatron/betatronlaw23.HysteresisReduce", spec := "hysteresisReduce", unfollowed := true, recurses := true, apart := false }
def HysteresisReduceSaid : Prop := hysteresisReduceRow.holds Try.pinned (OpenSpec.ofChange hysteresisReduceSpec)

/-- ITS FALSE NEIGHBOUR: 'it returns false'. Refute it at one input. -/
def hysteresisReduceWrong : ChangeSpec := { name := "hysteresisReduce", fn := fun _ => fun
  | [d] => { results := [.lit (.bool false)], args := [d] }
  | _ => none }
def HysteresisReduceWrongFalsely : Prop := hysteresisReduceRow.holds Try.pinned (OpenSpec.ofChange hysteresisReduceWrong)

/-- 'betatronlaw23.HysteresisWipes': WHATEVER THE INPUT: true; the input reads as it did. -/
def hysteresisWipesSpec : ChangeSpec := { name := "hysteresisWipes", fn := fun _ => fun
  | [d1, d2] => { results := [.lit (.bool true)], args := [d1, d2] }
  | _ => none }
def hysteresisWipesRow : OpenClaim := { program := "ytccojphjkaikeaa", sum := "04fd9a6f5b855e6370e81b3af36a58c601f9e147dcd7dcd605627207860570d7", func := "betatron/betatronlaw23.HysteresisWipes", spec := "hysteresisWipes", unfollowed := true, recurses := true, apart := false }
def HysteresisWipesSaid : Prop := hysteresisWipesRow.holds Try.pinned (OpenSpec.ofChange hysteresisWipesSpec)

/-- ITS FALSE NEIGHBOUR: 'it returns false'. Refute it at one input. -/
def hysteresisWipesWrong : ChangeSpec := { name := "hysteresisWipes", fn := fun _ => fun
  | [d1, d2] => { results := [.lit (.bool false)], args := [d1, d2] }
  | _ => none }
def HysteresisWipesWrongFalsely : Prop := hysteresisWipesRow.holds Try.pinned (OpenSpec.ofChange hysteresisWipesWrong)

/-- 'betatronlaw23.HysteresisEnvelope': WHATEVER THE INPUT: true; the input reads as it did. -/
def hysteresisEnvelopeSpec : ChangeSpec := { name := "hysteresisEnvelope", fn := fun _ => fun
  | [d1, d2] => { results := [.lit (.bool true)], args := [d1, d2] }
  | _ => none }
def hysteresisEnvelopeRow : OpenClaim := { program := "ytccojphjkaikeaa", sum := "04fd9a6f5b855e6370e81b3af36a58c601f9e147dcd7dcd605627207860570d7", func := "betatron/betatronlaw23.HysteresisEnvelope", spec := "hysteresisEnvelope", unfollowed := true, recurses := true, apart := false }
def HysteresisEnvelopeSaid : Prop := hysteresisEnvelopeRow.holds Try.pinned (OpenSpec.ofChange hysteresisEnvelopeSpec)

/-- ITS FALSE NEIGHBOUR: 'it returns false'. Refute it at one input. -/
def hysteresisEnvelopeWrong : ChangeSpec := { name := "hysteresisEnvelope", fn := fun _ => fun
  | [d1, d2] => { results := [.lit (.bool false)], args := [d1, d2] }
  | _ => none }
def HysteresisEnvelopeWrongFalsely : Prop := hysteresisEnvelopeRow.holds Try.pinned (OpenSpec.ofChange hysteresisEnvelopeWrong)

/-- 'betatronlaw23.HysteresisErases': WHATEVER THE INPUT: true; the input reads as it did. -/
def hysteresisErasesSpec : ChangeSpec := { name := "hysteresisErases", fn := fun _ => fun
  | [d1, d2] => { results := [.lit (.bool true)], args := [d1, d2] }
  | _ => none }
def hysteresisErasesRow : OpenClaim := { program := "ytccojphjkaikeaa", sum := "04fd9a6f5b855e6370e81b3af36a58c601f9e147dcd7dcd605627207860570d7", func := "betatron/betatronlaw23.HysteresisErases", spec := "hysteresisErases", unfollowed := true, recurses := true, apart := false }
def HysteresisErasesSaid : Prop := hysteresisErasesRow.holds Try.pinned (OpenSpec.ofChange hysteresisErasesSpec)

/-- ITS FALSE NEIGHBOUR: 'it returns false'. Refute it at one input. -/
def hysteresisErasesWrong : ChangeSpec := { name := "hysteresisErases", fn := fun _ => fun
  | [d1, d2] => { results := [.lit (.bool false)], args := [d1, d2] }
  | _ => none }
def HysteresisErasesWrongFalsely : Prop := hysteresisErasesRow.holds Try.pinned (OpenSpec.ofChange hysteresisErasesWrong)

/-- 'betatronlaw23.HysteresisForgets': WHATEVER THE INPUT: true; the input reads as it did. -/
def hysteresisForgetsSpec : ChangeSpec := { name := "hysteresisForgets", fn := fun _ => fun
  | [d1, d2, d3] => { results := [.lit (.bool true)], args := [d1, d2, d3] }
  | _ => none }
def hysteresisForgetsRow : OpenClaim := { program := "ytccojphjkaikeaa", sum := "04fd9a6f5b855e6370e81b3af36a58c601f9e147dcd7dcd605627207860570d7", func := "betatron/betatronlaw23.HysteresisForgets", spec := "hysteresisForgets", unfollowed := true, recurses := true, apart := false }
def HysteresisForgetsSaid : Prop := hysteresisForgetsRow.holds Try.pinned (OpenSpec.ofChange hysteresisForgetsSpec)

/-- ITS FALSE NEIGHBOUR: 'it returns false'. Refute it at one input. -/
def hysteresisForgetsWrong : ChangeSpec := { name := "hysteresisForgets", fn := fun _ => fun
  | [d1, d2, d3] => { results := [.lit (.bool false)], args := [d1, d2, d3] }
  | _ => none }
def HysteresisForgetsWrongFalsely : Prop := hysteresisForgetsRow.holds Try.pinned (OpenSpec.ofChange hysteresisForgetsWrong)

/-- 'betatronlaw23.HysteresisRises': WHATEVER THE INPUT: true; the input reads as it did. -/
def hysteresisRisesSpec : ChangeSpec := { name := "hysteresisRises", fn := fun _ => fun
  | [d1, d2, d3] => { results := [.lit (.bool true)], args := [d1, d2, d3] }
  | _ => none }
def hysteresisRisesRow : OpenClaim := { program := "ytccojphjkaikeaa", sum := "04fd9a6f5b855e6370e81b3af36a58c601f9e147dcd7dcd605627207860570d7", func := "betatron/betatronlaw23.HysteresisRises", spec := "hysteresisRises", unfollowed := true, recurses := true, apart := false }
def HysteresisRisesSaid : Prop := hysteresisRisesRow.holds Try.pinned (OpenSpec.ofChange hysteresisRisesSpec)

/-- ITS FALSE NEIGHBOUR: 'it returns false'. Refute it at one input. -/
def hysteresisRisesWrong : ChangeSpec := { name := "hysteresisRises", fn := fun _ => fun
  | [d1, d2, d3] => { results := [.lit (.bool false)], args := [d1, d2, d3] }
  | _ => none }
def HysteresisRisesWrongFalsely : Prop := hysteresisRisesRow.holds Try.pinned (OpenSpec.ofChange hysteresisRisesWrong)

/-- 'betatronlaw23.HysteresisSaturates': WHATEVER THE INPUT: true; the input reads as it did. -/
def hysteresisSaturatesSpec : ChangeSpec := { name := "hysteresisSaturates", fn := fun _ => fun
  | [d] => { results := [.lit (.bool true)], args := [d] }
  | _ => none }
def hysteresisSaturatesRow : OpenClaim := { program := "ytccojphjkaikeaa", sum := "04fd9a6f5b855e6370e81b3af36a58c601f9e147dcd7dcd605627207860570d7", func := "betatron/betatronlaw23.HysteresisSaturates", spec := "hysteresisSaturates", unfollowed := true, recurses := true, apart := false }
def HysteresisSaturatesSaid : Prop := hysteresisSaturatesRow.holds Try.pinned (OpenSpec.ofChange hysteresisSaturatesSpec)

/-- ITS FALSE NEIGHBOUR: 'it returns false'. Refute it at one input. -/
def hysteresisSaturatesWrong : ChangeSpec := { name := "hysteresisSaturates", fn := fun _ => fun
  | [d] => { results := [.lit (.bool false)], args := [d] }
  | _ => none }
def HysteresisSaturatesWrongFalsely : Prop := hysteresisSaturatesRow.holds Try.pinned (OpenSpec.ofChange hysteresisSaturatesWrong)

/- THE SECOND FORM. 'bulk': how many values and letters a reading holds, each counted each time it is reached (what is shared counts as often as it is met; a slice's spare places count too). A statement '..UptoSaid' is the law's where the arguments, and the package variables that the reading takes, are together of bulk at most 1048576: NARROWER than '..Said'. Prove '..Said' where nothing that the law and all that it calls make is longer than what came in: it says more and counts as full. Else prove '..UptoSaid'. A law counts once. -/
mutual
def uptoBulk {H : Type} : DataW H → Nat
  | .lit (.string bytes) => bytes.length + 1
  | .lit _ => 1
  | .nil => 1
  | .ptr d => uptoBulk d + 1
  | .slice elems spare => uptoBulkAll elems + uptoBulkAll spare + 1
  | .agg parts => uptoBulkAll parts + 1
  | .iface _ d => uptoBulk d + 1
  | .map entries => uptoBulkEntries entries + 1
  | .held _ => 1
def uptoBulkAll {H : Type} : List (DataW H) → Nat
  | [] => 0
  | d :: r => uptoBulk d + uptoBulkAll r
def uptoBulkEntries {H : Type} : List (Lit × DataW H) → Nat
  | [] => 0
  | x :: r => uptoBulkEntry x + uptoBulkEntries r
def uptoBulkEntry {H : Type} : Lit × DataW H → Nat
  | (.string bytes, d) => bytes.length + uptoBulk d + 1
  | (_, d) => uptoBulk d + 1
 end
def uptoSmall : (H : Type) → List (DataW H) → Bool := fun _ ds => decide (uptoBulkAll ds ≤ 1048576)
def OpenSpec.upto (s : _root_.Go.ChangeSpec) : _root_.Go.OpenSpec := { _root_.Go.OpenSpec.ofChange s with cond := some uptoSmall }

/-- 'betatronlaw23.HysteresisApply', WHERE WHAT IT READS IS OF BULK AT MOST 1048576: true; the input reads as it did. -/
def hysteresisApplyUptoRow : OpenClaim := { program := "ytccojphjkaikeaa", sum := "04fd9a6f5b855e6370e81b3af36a58c601f9e147dcd7dcd605627207860570d7", func := "betatron/betatronlaw23.HysteresisApply", spec := "hysteresisApply", unfollowed := true, recurses := true, apart := false, narrowed := true }
def HysteresisApplyUptoSaid : Prop := hysteresisApplyUptoRow.holds Try.pinned (OpenSpec.upto hysteresisApplySpec)

/-- 'betatronlaw23.HysteresisHistory', WHERE WHAT IT READS IS OF BULK AT MOST 1048576: true; the input reads as it did. -/
def hysteresisHistoryUptoRow : OpenClaim := { program := "ytccojphjkaikeaa", sum := "04fd9a6f5b855e6370e81b3af36a58c601f9e147dcd7dcd605627207860570d7", func := "betatron/betatronlaw23.HysteresisHistory", spec := "hysteresisHistory", unfollowed := true, recurses := true, apart := false, narrowed := true }
def HysteresisHistoryUptoSaid : Prop := hysteresisHistoryUptoRow.holds Try.pinned (OpenSpec.upto hysteresisHistorySpec)

/-- 'betatronlaw23.HysteresisReduce', WHERE WHAT IT READS IS OF BULK AT MOST 1048576: true; the input reads as it did. -/
def hysteresisReduceUptoRow : OpenClaim := { program := "ytccojphjkaikeaa", sum := "04fd9a6f5b855e6370e81b3af36a58c601f9e147dcd7dcd605627207860570d7", func := "betatron/betatronlaw23.HysteresisReduce", spec := "hysteresisReduce", unfollowed := true, recurses := true, apart := false, narrowed := true }
def HysteresisReduceUptoSaid : Prop := hysteresisReduceUptoRow.holds Try.pinned (OpenSpec.upto hysteresisReduceSpec)

/-- 'betatronlaw23.HysteresisWipes', WHERE WHAT IT READS IS OF BULK AT MOST 1048576: true; the input reads as it did. -/
def hysteresisWipesUptoRow : OpenClaim := { program := "ytccojphjkaikeaa", sum := "04fd9a6f5b855e6370e81b3af36a58c601f9e147dcd7dcd605627207860570d7", func := "betatron/betatronlaw23.HysteresisWipes", spec := "hysteresisWipes", unfollowed := true, recurses := true, apart := false, narrowed := true }
def HysteresisWipesUptoSaid : Prop := hysteresisWipesUptoRow.holds Try.pinned (OpenSpec.upto hysteresisWipesSpec)

/-- 'betatronlaw23.HysteresisEnvelope', WHERE WHAT IT READS IS OF BULK AT MOST 1048576: true; the input reads as it did. -/
def hysteresisEnvelopeUptoRow : OpenClaim := { program := "ytccojphjkaikeaa", sum := "04fd9a6f5b855e6370e81b3af36a58c601f9e147dcd7dcd605627207860570d7", func := "betatron/betatronlaw23.HysteresisEnvelope", spec := "hysteresisEnvelope", unfollowed := true, recurses := true, apart := false, narrowed := true }
def HysteresisEnvelopeUptoSaid : Prop := hysteresisEnvelopeUptoRow.holds Try.pinned (OpenSpec.upto hysteresisEnvelopeSpec)

/-- 'betatronlaw23.HysteresisErases', WHERE WHAT IT READS IS OF BULK AT MOST 1048576: true; the input reads as it did. -/
def hysteresisErasesUptoRow : OpenClaim := { program := "ytccojphjkaikeaa", sum := "04fd9a6f5b855e6370e81b3af36a58c601f9e147dcd7dcd605627207860570d7", func := "betatron/betatronlaw23.HysteresisErases", spec := "hysteresisErases", unfollowed := true, recurses := true, apart := false, narrowed := true }
def HysteresisErasesUptoSaid : Prop := hysteresisErasesUptoRow.holds Try.pinned (OpenSpec.upto hysteresisErasesSpec)

/-- 'betatronlaw23.HysteresisForgets', WHERE WHAT IT READS IS OF BULK AT MOST 1048576: true; the input reads as it did. -/
def hysteresisForgetsUptoRow : OpenClaim := { program := "ytccojphjkaikeaa", sum := "04fd9a6f5b855e6370e81b3af36a58c601f9e147dcd7dcd605627207860570d7", func := "betatron/betatronlaw23.HysteresisForgets", spec := "hysteresisForgets", unfollowed := true, recurses := true, apart := false, narrowed := true }
def HysteresisForgetsUptoSaid : Prop := hysteresisForgetsUptoRow.holds Try.pinned (OpenSpec.upto hysteresisForgetsSpec)

/-- 'betatronlaw23.HysteresisRises', WHERE WHAT IT READS IS OF BULK AT MOST 1048576: true; the input reads as it did. -/
def hysteresisRisesUptoRow : OpenClaim := { program := "ytccojphjkaikeaa", sum := "04fd9a6f5b855e6370e81b3af36a58c601f9e147dcd7dcd605627207860570d7", func := "betatron/betatronlaw23.HysteresisRises", spec := "hysteresisRises", unfollowed := true, recurses := true, apart := false, narrowed := true }
def HysteresisRisesUptoSaid : Prop := hysteresisRisesUptoRow.holds Try.pinned (OpenSpec.upto hysteresisRisesSpec)

/-- 'betatronlaw23.HysteresisSaturates', WHERE WHAT IT READS IS OF BULK AT MOST 1048576: true; the input reads as it did. -/
def hysteresisSaturatesUptoRow : OpenClaim := { program := "ytccojphjkaikeaa", sum := "04fd9a6f5b855e6370e81b3af36a58c601f9e147dcd7dcd605627207860570d7", func := "betatron/betatronlaw23.HysteresisSaturates", spec := "hysteresisSaturates", unfollowed := true, recurses := true, apart := false, narrowed := true }
def HysteresisSaturatesUptoSaid : Prop := hysteresisSaturatesUptoRow.holds Try.pinned (OpenSpec.upto hysteresisSaturatesSpec)

end Rows
end Go.Proofs.Ytccojphjkaikeaa
