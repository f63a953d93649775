/-
  No cell of these rows narrows 'for every input' (looked for: loops, veiled, ifaces, maps, wideKeys, modest, calm, conditions, laid).
  DERIVED. THE GIVEN ROWS OF THIS SEAT. 8 by the template 'for every input the law returns true; each argument reads behind the call as it read before'; 0 by the template 'total and deterministic' (their statements: YtndklmcnndilgaaTotals.lean).
  GIVEN WITH THE SEED: the statements are not yours to turn. If you find one false, say at which input.
  Laid BY PROGRAM, IN A SANDBOX (cutbox-rows.mjs): the forced cells as the released guide's own fill.sh prints them over the translation 01da218d9284b538… (all of the seat's roots in one cut). By AI agents, Wed Nov 11 2026. No macro, syntax, notation, axiom, sorry.
-/
import Derived.Test.YtndklmcnndilgaaChecked
import GoSem.Claim
import GoSem.ClaimJoined
import GoSem.ClaimMapViews
import Derived.JoinedTies
import Derived.KernelRfl
namespace Go.Proofs.Ytndklmcnndilgaa
/- THE CELL 'sum', in the pinned program and in every row, IS THE sha256 OF THE DUMP (.gsa) THAT YtndklmcnndilgaaProg.lean LOADS. Nothing in Lean hashes anything: it is a label: what it is worth is what the hold of that sum in a sandbox is worth. -/
noncomputable def Try.pinned : Pinned := { name := "ytndklmcnndilgaa", sum := "01da218d9284b53876989d2c00cbebc041662777d2fceb4a11b457822fc5938e", checked := Try.checked }
namespace Rows
def none {H : Type} : Left H := { results := [], args := [] }

/-- 'betatronlaw24.CyclingSteps': WHATEVER THE INPUT: true; the input reads as it did. -/
def cyclingStepsSpec : ChangeSpec := { name := "cyclingSteps", fn := fun _ => fun
  | [d] => { results := [.lit (.bool true)], args := [d] }
  | _ => none }
def cyclingStepsRow : OpenClaim := { program := "ytndklmcnndilgaa", sum := "01da218d9284b53876989d2c00cbebc041662777d2fceb4a11b457822fc5938e", func := "betatron/betatronlaw24.CyclingSteps", spec := "cyclingSteps", unfollowed := true, recurses := true, apart := false }
def CyclingStepsSaid : Prop := cyclingStepsRow.holds Try.pinned (OpenSpec.ofChange cyclingStepsSpec)

/-- ITS FALSE NEIGHBOUR: 'it returns false'. Refute it at one input. -/
def cyclingStepsWrong : ChangeSpec := { name := "cyclingSteps", fn := fun _ => fun
  | [d] => { results := [.lit (.bool false)], args := [d] }
  | _ => none }
def CyclingStepsWrongFalsely : Prop := cyclingStepsRow.holds Try.pinned (OpenSpec.ofChange cyclingStepsWrong)

/-- 'betatronlaw24.CyclingSuits': WHATEVER THE INPUT: true; the input reads as it did. -/
def cyclingSuitsSpec : ChangeSpec := { name := "cyclingSuits", fn := fun _ => fun
  | [d1, d2] => { results := [.lit (.bool true)], args := [d1, d2] }
  | _ => none }
def cyclingSuitsRow : OpenClaim := { program := "ytndklmcnndilgaa", sum := "01da218d9284b53876989d2c00cbebc041662777d2fceb4a11b457822fc5938e", func := "betatron/betatronlaw24.CyclingSuits", spec := "cyclingSuits", unfollowed := true, recurses := true, apart := false }
def CyclingSuitsSaid : Prop := cyclingSuitsRow.holds Try.pinned (OpenSpec.ofChange cyclingSuitsSpec)

/-- ITS FALSE NEIGHBOUR: 'it returns false'. Refute it at one input. -/
def cyclingSuitsWrong : ChangeSpec := { name := "cyclingSuits", fn := fun _ => fun
  | [d1, d2] => { results := [.lit (.bool false)], args := [d1, d2] }
  | _ => none }
def CyclingSuitsWrongFalsely : Prop := cyclingSuitsRow.holds Try.pinned (OpenSpec.ofChange cyclingSuitsWrong)

/-- 'betatronlaw24.CyclingStatus': WHATEVER THE INPUT: true; the input reads as it did. -/
def cyclingStatusSpec : ChangeSpec := { name := "cyclingStatus", fn := fun _ => fun
  | [d1, d2] => { results := [.lit (.bool true)], args := [d1, d2] }
  | _ => none }
def cyclingStatusRow : OpenClaim := { program := "ytndklmcnndilgaa", sum := "01da218d9284b53876989d2c00cbebc041662777d2fceb4a11b457822fc5938e", func := "betatron/betatronlaw24.CyclingStatus", spec := "cyclingStatus", unfollowed := true, recurses := true, apart := false }
def CyclingStatusSaid : Prop := cyclingStatusRow.holds Try.pinned (OpenSpec.ofChange cyclingStatusSpec)

/-- ITS FALSE NEIGHBOUR: 'it returns false'. Refute it at one input. -/
def cyclingStatusWrong : ChangeSpec := { name := "cyclingStatus", fn := fun _ => fun
  | [d1, d2] => { results := [.lit (.bool false)], args := [d1, d2] }
  | _ => none }
def CyclingStatusWrongFalsely : Prop := cyclingStatusRow.holds Try.pinned (OpenSpec.ofChange cyclingStatusWrong)

/-- 'betatronlaw24.CyclingField': WHATEVER THE INPUT: true; the input reads as it did. -/
def cyclingFieldSpec : ChangeSpec := { name := "cyclingField", fn := fun _ => fun
  | [d1, d2, d3] => { results := [.lit (.bool true)], args := [d1, d2, d3] }
  | _ => none }
def cyclingFieldRow : OpenClaim := { program := "ytndklmcnndilgaa", sum := "01da218d9284b53876989d2c00cbebc041662777d2fceb4a11b457822fc5938e", func := "betatron/betatronlaw24.CyclingField", spec := "cyclingField", unfollowed := true, recurses := true, apart := false }
def CyclingFieldSaid : Prop := cyclingFieldRow.holds Try.pinned (OpenSpec.ofChange cyclingFieldSpec)

/-- ITS FALSE NEIGHBOUR: 'it returns false'. Refute it at one input. -/
def cyclingFieldWrong : ChangeSpec := { name := "cyclingField", fn := fun _ => fun
  | [d1, d2, d3] => { results := [.lit (.bool false)], args := [d1, d2, d3] }
  | _ => none }
def CyclingFieldWrongFalsely : Prop := cyclingFieldRow.holds Try.pinned (OpenSpec.ofChange cyclingFieldWrong)

/-- 'betatronlaw24.CyclingErases': WHATEVER THE INPUT: true; the input reads as it did. -/
def cyclingErasesSpec : ChangeSpec := { name := "cyclingErases", fn := fun _ => fun
  | [d1, d2, d3] => { results := [.lit (.bool true)], args := [d1, d2, d3] }
  | _ => none }
def cyclingErasesRow : OpenClaim := { program := "ytndklmcnndilgaa", sum := "01da218d9284b53876989d2c00cbebc041662777d2fceb4a11b457822fc5938e", func := "betatron/betatronlaw24.CyclingErases", spec := "cyclingErases", unfollowed := true, recurses := true, apart := false }
def CyclingErasesSaid : Prop := cyclingErasesRow.holds Try.pinned (OpenSpec.ofChange cyclingErasesSpec)

/-- ITS FALSE NEIGHBOUR: 'it returns false'. Refute it at one input. -/
def cyclingErasesWrong : ChangeSpec := { name := "cyclingErases", fn := fun _ => fun
  | [d1, d2, d3] => { results := [.lit (.bool false)], args := [d1, d2, d3] }
  | _ => none }
def CyclingErasesWrongFalsely : Prop := cyclingErasesRow.holds Try.pinned (OpenSpec.ofChange cyclingErasesWrong)

/-- 'betatronlaw24.CyclingBranch': WHATEVER THE INPUT: true; the input reads as it did. -/
def cyclingBranchSpec : ChangeSpec := { name := "cyclingBranch", fn := fun _ => fun
  | [d1, d2, d3] => { results := [.lit (.bool true)], args := [d1, d2, d3] }
  | _ => none }
def cyclingBranchRow : OpenClaim := { program := "ytndklmcnndilgaa", sum := "01da218d9284b53876989d2c00cbebc041662777d2fceb4a11b457822fc5938e", func := "betatron/betatronlaw24.CyclingBranch", spec := "cyclingBranch", unfollowed := true, recurses := true, apart := false }
def CyclingBranchSaid : Prop := cyclingBranchRow.holds Try.pinned (OpenSpec.ofChange cyclingBranchSpec)

/-- ITS FALSE NEIGHBOUR: 'it returns false'. Refute it at one input. -/
def cyclingBranchWrong : ChangeSpec := { name := "cyclingBranch", fn := fun _ => fun
  | [d1, d2, d3] => { results := [.lit (.bool false)], args := [d1, d2, d3] }
  | _ => none }
def CyclingBranchWrongFalsely : Prop := cyclingBranchRow.holds Try.pinned (OpenSpec.ofChange cyclingBranchWrong)

/-- 'betatronlaw24.CyclingAgain': WHATEVER THE INPUT: true; the input reads as it did. -/
def cyclingAgainSpec : ChangeSpec := { name := "cyclingAgain", fn := fun _ => fun
  | [d1, d2] => { results := [.lit (.bool true)], args := [d1, d2] }
  | _ => none }
def cyclingAgainRow : OpenClaim := { program := "ytndklmcnndilgaa", sum := "01da218d9284b53876989d2c00cbebc041662777d2fceb4a11b457822fc5938e", func := "betatron/betatronlaw24.CyclingAgain", spec := "cyclingAgain", unfollowed := true, recurses := true, apart := false }
def CyclingAgainSaid : Prop := cyclingAgainRow.holds Try.pinned (OpenSpec.ofChange cyclingAgainSpec)

/-- ITS FALSE NEIGHBOUR: 'it returns false'. Refute it at one input. -/
def cyclingAgainWrong : ChangeSpec := { name := "cyclingAgain", fn := fun _ => fun
  | [d1, d2] => { results := [.lit (.bool false)], args := [d1, d2] }
  | _ => none }
def CyclingAgainWrongFalsely : Prop := cyclingAgainRow.holds Try.pinned (OpenSpec.ofChange cyclingAgainWrong)

/-- 'betatronlaw24.CyclingDrifts': WHATEVER THE INPUT: true; the input reads as it did. -/
def cyclingDriftsSpec : ChangeSpec := { name := "cyclingDrifts", fn := fun _ => fun
  | [d1, d2] => { results := [.lit (.bool true)], args := [d1, d2] }
  | _ => none }
def cyclingDriftsRow : OpenClaim := { program := "ytndklmcnndilgaa", sum := "01da218d9284b53876989d2c00cbebc041662777d2fceb4a11b457822fc5938e", func := "betatron/betatronlaw24.CyclingDrifts", spec := "cyclingDrifts", unfollowed := true, recurses := true, apart := false }
def CyclingDriftsSaid : Prop := cyclingDriftsRow.holds Try.pinned (OpenSpec.ofChange cyclingDriftsSpec)

/-- ITS FALSE NEIGHBOUR: 'it returns false'. Refute it at one input. -/
def cyclingDriftsWrong : ChangeSpec := { name := "cyclingDrifts", fn := fun _ => fun
  | [d1, d2] => { results := [.lit (.bool false)], args := [d1, d2] }
  | _ => none }
def CyclingDriftsWrongFalsely : Prop := cyclingDriftsRow.holds Try.pinned (OpenSpec.ofChange cyclingDriftsWrong)

/- THE SECOND FORM. 'bulk': how many values and letters a reading holds, each counted each time it is reached (what is shared counts as often as it is met; a slice's spare places count too). A statement '..UptoSaid' is the law's where the arguments, and the package variables that the reading takes, are together of bulk at most 1048576: NARROWER than '..Said'. Prove '..Said' where nothing that the law and all that it calls make is longer than what came in: it says more and counts as full. Else prove '..UptoSaid'. A law counts once. -/
mutual
def uptoBulk {H : Type} : DataW H → Nat
  | .lit (.string bytes) => bytes.length + 1
  | .lit _ => 1
  | .nil => 1
  | .ptr d => uptoBulk d + 1
  | .slice elems spare => uptoBulkAll elems + uptoBulkAll spare + 1
  | .agg parts => uptoBulkAll parts + 1
  | .iface _ d => uptoBulk d + 1
  | .map entries => uptoBulkEntries entries + 1
  | .held _ => 1
def uptoBulkAll {H : Type} : List (DataW H) → Nat
  | [] => 0
  | d :: r => uptoBulk d + uptoBulkAll r
def uptoBulkEntries {H : Type} : List (Lit × DataW H) → Nat
  | [] => 0
  | x :: r => uptoBulkEntry x + uptoBulkEntries r
def uptoBulkEntry {H : Type} : Lit × DataW H → Nat
  | (.string bytes, d) => bytes.length + uptoBulk d + 1
  | (_, d) => uptoBulk d + 1
 end
def uptoSmall : (H : Type) → List (DataW H) → Bool := fun _ ds => decide (uptoBulkAll ds ≤ 1048576)
def OpenSpec.upto (s : _root_.Go.ChangeSpec) : _root_.Go.OpenSpec := { _root_.Go.OpenSpec.ofChange s with cond := some uptoSmall }

/-- 'betatronlaw24.CyclingSteps', WHERE WHAT IT READS IS OF BULK AT MOST 1048576: true; the input reads as it did. -/
def cyclingStepsUptoRow : OpenClaim := { program := "ytndklmcnndilgaa", sum := "01da218d9284b53876989d2c00cbebc041662777d2fceb4a11b457822fc5938e", func := "betatron/betatronlaw24.CyclingSteps", spec := "cyclingSteps", unfollowed := true, recurses := true, apart := false, narrowed := true }
def CyclingStepsUptoSaid : Prop := cyclingStepsUptoRow.holds Try.pinned (OpenSpec.upto cyclingStepsSpec)

/-- 'betatronlaw24.CyclingSuits', WHERE WHAT IT READS IS OF BULK AT MOST 1048576: true; the input reads as it did. -/
def cyclingSuitsUptoRow : OpenClaim := { program := "ytndklmcnndilgaa", sum := "01da218d9284b53876989d2c00cbebc041662777d2fceb4a11b457822fc5938e", func := "betatron/betatronlaw24.CyclingSuits", spec := "cyclingSuits", unfollowed := true, recurses := true, apart := false, narrowed := true }
def CyclingSuitsUptoSaid : Prop := cyclingSuitsUptoRow.holds Try.pinned (OpenSpec.upto cyclingSuitsSpec)

/-- 'betatronlaw24.CyclingStatus', WHERE WHAT IT READS IS OF BULK AT MOST 1048576: true; the input reads as it did. -/
def cyclingStatusUptoRow : OpenClaim := { program := "ytndklmcnndilgaa", sum := "01da218d9284b53876989d2c00cbebc041662777d2fceb4a11b457822fc5938e", func := "betatron/betatronlaw24.CyclingStatus", spec := "cyclingStatus", unfollowed := true, recurses := true, apart := false, narrowed := true }
def CyclingStatusUptoSaid : Prop := cyclingStatusUptoRow.holds Try.pinned (OpenSpec.upto cyclingStatusSpec)

/-- 'betatronlaw24.CyclingField', WHERE WHAT IT READS IS OF BULK AT MOST 1048576: true; the input reads as it did. -/
def cyclingFieldUptoRow : OpenClaim := { program := "ytndklmcnndilgaa", sum := "01da218d9284b53876989d2c00cbebc041662777d2fceb4a11b457822fc5938e", func := "betatron/betatronlaw24.CyclingField", spec := "cyclingField", unfollowed := true, recurses := true, apart := false, narrowed := true }
def CyclingFieldUptoSaid : Prop := cyclingFieldUptoRow.holds Try.pinned (OpenSpec.upto cyclingFieldSpec)

/-- 'betatronlaw24.CyclingErases', WHERE WHAT IT READS IS OF BULK AT MOST 1048576: true; the input reads as it did. -/
def cyclingErasesUptoRow : OpenClaim := { program := "ytndklmcnndilgaa", sum := "01da218d9284b53876989d2c00cbebc041662777d2fceb4a11b457822fc5938e", func := "betatron/betatronlaw24.CyclingErases", spec := "cyclingErases", unfollowed := true, recurses := true, apart := false, narrowed := true }
def CyclingErasesUptoSaid : Prop := cyclingErasesUptoRow.holds Try.pinned (OpenSpec.upto cyclingErasesSpec)

/-- 'betatronlaw24.CyclingBranch', WHERE WHAT IT READS IS OF BULK AT MOST 1048576: true; the input reads as it did. -/
def cyclingBranchUptoRow : OpenClaim := { program := "ytndklmcnndilgaa", sum := "01da218d9284b53876989d2c00cbebc041662777d2fceb4a11b457822fc5938e", func := "betatron/betatronlaw24.CyclingBranch", spec := "cyclingBranch", unfollowed := true, recurses := true, apart := false, narrowed := true }
def CyclingBranchUptoSaid : Prop := cyclingBranchUptoRow.holds Try.pinned (OpenSpec.upto cyclingBranchSpec)

/-- 'betatronlaw24.CyclingAgain', WHERE WHAT IT READS IS OF BULK AT MOST 1048576: true; the input reads as it did. -/
def cyclingAgainUptoRow : OpenClaim := { program := "ytndklmcnndilgaa", sum := "01da218d9284b53876989d2c00cbebc041662777d2fceb4a11b457822fc5938e", func := "betatron/betatronlaw24.CyclingAgain", spec := "cyclingAgain", unfollowed := true, recurses := true, apart := false, narrowed := true }
def CyclingAgainUptoSaid : Prop := cyclingAgainUptoRow.holds Try.pinned (OpenSpec.upto cyclingAgainSpec)

/-- 'betatronlaw24.CyclingDrifts', WHERE WHAT IT READS IS OF BULK AT MOST 1048576: true; the input reads as it did. -/
def cyclingDriftsUptoRow : OpenClaim := { program := "ytndklmcnndilgaa", sum := "01da218d9284b53876989d2c00cbebc041662777d2fceb4a11b457822fc5938e", func := "betatron/betatronlaw24.CyclingDrifts", spec := "cyclingDrifts", unfollowed := true, recurses := true, apart := false, narrowed := true }
def CyclingDriftsUptoSaid : Prop := cyclingDriftsUptoRow.holds Try.pinned (OpenSpec.upto cyclingDriftsSpec)

end Rows
end Go.Proofs.Ytndklmcnndilgaa
