/-
  No cell of these rows narrows 'for every input' (looked for: loops, veiled, ifaces, maps, wideKeys, modest, calm, conditions, laid).
  DERIVED. THE GIVEN ROWS OF THIS SEAT. 8 by the template 'for every input the law returns true; each argument reads behind the call as it read before'; 0 by the template 'total and deterministic' (their statements: YtmkdcfhacldnlaaTotals.lean).
  GIVEN WITH THE SEED: the statements are not yours to turn. If you find one false, say at which input.
  Laid BY PROGRAM, IN A SANDBOX (cutbox-rows.mjs): the forced cells as the released guide's own fill.sh prints them over the translation b1a03cf485a76493… (all of the seat's roots in one cut). By AI agents, Wed Nov 11 2026. No macro, syntax, notation, axiom, sorry.
-/
import Derived.Test.YtmkdcfhacldnlaaChecked
import GoSem.Claim
import GoSem.ClaimJoined
import GoSem.ClaimMapViews
import Derived.JoinedTies
import Derived.KernelRfl
namespace Go.Proofs.Ytmkdcfhacldnlaa
/- THE CELL 'sum', in the pinned program and in every row, IS THE sha256 OF THE DUMP (.gsa) THAT YtmkdcfhacldnlaaProg.lean LOADS. Nothing in Lean hashes anything: it is a label: what it is worth is what the hold of that sum in a sandbox is worth. -/
noncomputable def Try.pinned : Pinned := { name := "ytmkdcfhacldnlaa", sum := "b1a03cf485a76493d8bc499702f2eb840fdda3cfa8e69550b66050a9fa3540f0", checked := Try.checked }
namespace Rows
def none {H : Type} : Left H := { results := [], args := [] }

/-- 'betatronlaw57.InstrumentValid': WHATEVER THE INPUT: true; the input reads as it did. -/
def instrumentValidSpec : ChangeSpec := { name := "instrumentValid", fn := fun _ => fun
  | [d1, d2] => { results := [.lit (.bool true)], args := [d1, d2] }
  | _ => none }
def instrumentValidRow : OpenClaim := { program := "ytmkdcfhacldnlaa", sum := "b1a03cf485a76493d8bc499702f2eb840fdda3cfa8e69550b66050a9fa3540f0", func := "betatron/betatronlaw57.InstrumentValid", spec := "instrumentValid", unfollowed := true, recurses := true, apart := false }
def InstrumentValidSaid : Prop := instrumentValidRow.holds Try.pinned (OpenSpec.ofChange instrumentValidSpec)

/-- ITS FALSE NEIGHBOUR: 'it returns false'. Refute it at one input. -/
def instrumentValidWrong : ChangeSpec := { name := "instrumentValid", fn := fun _ => fun
  | [d1, d2] => { results := [.lit (.bool false)], args := [d1, d2] }
  | _ => none }
def InstrumentValidWrongFalsely : Prop := instrumentValidRow.holds Try.pinned (OpenSpec.ofChange instrumentValidWrong)

/-- 'betatronlaw57.InstrumentPosition': WHATEVER THE INPUT: true; the input reads as it did. -/
def instrumentPositionSpec : ChangeSpec := { name := "instrumentPosition", fn := fun _ => fun
  | [d1, d2] => { results := [.lit (.bool true)], args := [d1, d2] }
  | _ => none }
def instrumentPositionRow : OpenClaim := { program := "ytmkdcfhacldnlaa", sum := "b1a03cf485a76493d8bc499702f2eb840fdda3cfa8e69550b66050a9fa3540f0", func := "betatron/betatronlaw57.InstrumentPosition", spec := "instrumentPosition", unfollowed := true, recurses := true, apart := false }
def InstrumentPositionSaid : Prop := instrumentPositionRow.holds Try.pinned (OpenSpec.ofChange instrumentPositionSpec)

/-- ITS FALSE NEIGHBOUR: 'it returns false'. Refute it at one input. -/
def instrumentPositionWrong : ChangeSpec := { name := "instrumentPosition", fn := fun _ => fun
  | [d1, d2] => { results := [.lit (.bool false)], args := [d1, d2] }
  | _ => none }
def InstrumentPositionWrongFalsely : Prop := instrumentPositionRow.holds Try.pinned (OpenSpec.ofChange instrumentPositionWrong)

/-- 'betatronlaw57.InstrumentTruth': WHATEVER THE INPUT: true; the input reads as it did. -/
def instrumentTruthSpec : ChangeSpec := { name := "instrumentTruth", fn := fun _ => fun
  | [d1, d2] => { results := [.lit (.bool true)], args := [d1, d2] }
  | _ => none }
def instrumentTruthRow : OpenClaim := { program := "ytmkdcfhacldnlaa", sum := "b1a03cf485a76493d8bc499702f2eb840fdda3cfa8e69550b66050a9fa3540f0", func := "betatron/betatronlaw57.InstrumentTruth", spec := "instrumentTruth", unfollowed := true, recurses := true, apart := false }
def InstrumentTruthSaid : Prop := instrumentTruthRow.holds Try.pinned (OpenSpec.ofChange instrumentTruthSpec)

/-- ITS FALSE NEIGHBOUR: 'it returns false'. Refute it at one input. -/
def instrumentTruthWrong : ChangeSpec := { name := "instrumentTruth", fn := fun _ => fun
  | [d1, d2] => { results := [.lit (.bool false)], args := [d1, d2] }
  | _ => none }
def InstrumentTruthWrongFalsely : Prop := instrumentTruthRow.holds Try.pinned (OpenSpec.ofChange instrumentTruthWrong)

/-- 'betatronlaw57.InstrumentCurrent': WHATEVER THE INPUT: true; the input reads as it did. -/
def instrumentCurrentSpec : ChangeSpec := { name := "instrumentCurrent", fn := fun _ => fun
  | [d1, d2] => { results := [.lit (.bool true)], args := [d1, d2] }
  | _ => none }
def instrumentCurrentRow : OpenClaim := { program := "ytmkdcfhacldnlaa", sum := "b1a03cf485a76493d8bc499702f2eb840fdda3cfa8e69550b66050a9fa3540f0", func := "betatron/betatronlaw57.InstrumentCurrent", spec := "instrumentCurrent", unfollowed := true, recurses := true, apart := false }
def InstrumentCurrentSaid : Prop := instrumentCurrentRow.holds Try.pinned (OpenSpec.ofChange instrumentCurrentSpec)

/-- ITS FALSE NEIGHBOUR: 'it returns false'. Refute it at one input. -/
def instrumentCurrentWrong : ChangeSpec := { name := "instrumentCurrent", fn := fun _ => fun
  | [d1, d2] => { results := [.lit (.bool false)], args := [d1, d2] }
  | _ => none }
def InstrumentCurrentWrongFalsely : Prop := instrumentCurrentRow.holds Try.pinned (OpenSpec.ofChange instrumentCurrentWrong)

/-- 'betatronlaw57.InstrumentTune': WHATEVER THE INPUT: true; the input reads as it did. -/
def instrumentTuneSpec : ChangeSpec := { name := "instrumentTune", fn := fun _ => fun
  | [d] => { results := [.lit (.bool true)], args := [d] }
  | _ => none }
def instrumentTuneRow : OpenClaim := { program := "ytmkdcfhacldnlaa", sum := "b1a03cf485a76493d8bc499702f2eb840fdda3cfa8e69550b66050a9fa3540f0", func := "betatron/betatronlaw57.InstrumentTune", spec := "instrumentTune", unfollowed := true, recurses := true, apart := false }
def InstrumentTuneSaid : Prop := instrumentTuneRow.holds Try.pinned (OpenSpec.ofChange instrumentTuneSpec)

/-- ITS FALSE NEIGHBOUR: 'it returns false'. Refute it at one input. -/
def instrumentTuneWrong : ChangeSpec := { name := "instrumentTune", fn := fun _ => fun
  | [d] => { results := [.lit (.bool false)], args := [d] }
  | _ => none }
def InstrumentTuneWrongFalsely : Prop := instrumentTuneRow.holds Try.pinned (OpenSpec.ofChange instrumentTuneWrong)

/-- 'betatronlaw57.InstrumentInconsistent': WHATEVER THE INPUT: true; the input reads as it did. -/
def instrumentInconsistentSpec : ChangeSpec := { name := "instrumentInconsistent", fn := fun _ => fun
  | [d1, d2] => { results := [.lit (.bool true)], args := [d1, d2] }
  | _ => none }
def instrumentInconsistentRow : OpenClaim := { program := "ytmkdcfhacldnlaa", sum := "b1a03cf485a76493d8bc499702f2eb840fdda3cfa8e69550b66050a9fa3540f0", func := "betatron/betatronlaw57.InstrumentInconsistent", spec := "instrumentInconsistent", unfollowed := true, recurses := true, apart := false }
def InstrumentInconsistentSaid : Prop := instrumentInconsistentRow.holds Try.pinned (OpenSpec.ofChange instrumentInconsistentSpec)

/-- ITS FALSE NEIGHBOUR: 'it returns false'. Refute it at one input. -/
def instrumentInconsistentWrong : ChangeSpec := { name := "instrumentInconsistent", fn := fun _ => fun
  | [d1, d2] => { results := [.lit (.bool false)], args := [d1, d2] }
  | _ => none }
def InstrumentInconsistentWrongFalsely : Prop := instrumentInconsistentRow.holds Try.pinned (OpenSpec.ofChange instrumentInconsistentWrong)

/-- 'betatronlaw57.InstrumentShifts': WHATEVER THE INPUT: true; the input reads as it did. -/
def instrumentShiftsSpec : ChangeSpec := { name := "instrumentShifts", fn := fun _ => fun
  | [d1, d2, d3] => { results := [.lit (.bool true)], args := [d1, d2, d3] }
  | _ => none }
def instrumentShiftsRow : OpenClaim := { program := "ytmkdcfhacldnlaa", sum := "b1a03cf485a76493d8bc499702f2eb840fdda3cfa8e69550b66050a9fa3540f0", func := "betatron/betatronlaw57.InstrumentShifts", spec := "instrumentShifts", unfollowed := true, recurses := true, apart := false }
def InstrumentShiftsSaid : Prop := instrumentShiftsRow.holds Try.pinned (OpenSpec.ofChange instrumentShiftsSpec)

/-- ITS FALSE NEIGHBOUR: 'it returns false'. Refute it at one input. -/
def instrumentShiftsWrong : ChangeSpec := { name := "instrumentShifts", fn := fun _ => fun
  | [d1, d2, d3] => { results := [.lit (.bool false)], args := [d1, d2, d3] }
  | _ => none }
def InstrumentShiftsWrongFalsely : Prop := instrumentShiftsRow.holds Try.pinned (OpenSpec.ofChange instrumentShiftsWrong)

/-- 'betatronlaw57.InstrumentSplits': WHATEVER THE INPUT: true; the input reads as it did. -/
def instrumentSplitsSpec : ChangeSpec := { name := "instrumentSplits", fn := fun _ => fun
  | [d1, d2, d3] => { results := [.lit (.bool true)], args := [d1, d2, d3] }
  | _ => none }
def instrumentSplitsRow : OpenClaim := { program := "ytmkdcfhacldnlaa", sum := "b1a03cf485a76493d8bc499702f2eb840fdda3cfa8e69550b66050a9fa3540f0", func := "betatron/betatronlaw57.InstrumentSplits", spec := "instrumentSplits", unfollowed := true, recurses := true, apart := false }
def InstrumentSplitsSaid : Prop := instrumentSplitsRow.holds Try.pinned (OpenSpec.ofChange instrumentSplitsSpec)

/-- ITS FALSE NEIGHBOUR: 'it returns false'. Refute it at one input. -/
def instrumentSplitsWrong : ChangeSpec := { name := "instrumentSplits", fn := fun _ => fun
  | [d1, d2, d3] => { results := [.lit (.bool false)], args := [d1, d2, d3] }
  | _ => none }
def InstrumentSplitsWrongFalsely : Prop := instrumentSplitsRow.holds Try.pinned (OpenSpec.ofChange instrumentSplitsWrong)

/- THE SECOND FORM. 'bulk': how many values and letters a reading holds, each counted each time it is reached (what is shared counts as often as it is met; a slice's spare places count too). A statement '..UptoSaid' is the law's where the arguments, and the package variables that the reading takes, are together of bulk at most 1048576: NARROWER than '..Said'. Prove '..Said' where nothing that the law and all that it calls make is longer than what came in: it says more and counts as full. Else prove '..UptoSaid'. A law counts once. -/
mutual
def uptoBulk {H : Type} : DataW H → Nat
  | .lit (.string bytes) => bytes.length + 1
  | .lit _ => 1
  | .nil => 1
  | .ptr d => uptoBulk d + 1
  | .slice elems spare => uptoBulkAll elems + uptoBulkAll spare + 1
  | .agg parts => uptoBulkAll parts + 1
  | .iface _ d => uptoBulk d + 1
  | .map entries => uptoBulkEntries entries + 1
  | .held _ => 1
def uptoBulkAll {H : Type} : List (DataW H) → Nat
  | [] => 0
  | d :: r => uptoBulk d + uptoBulkAll r
def uptoBulkEntries {H : Type} : List (Lit × DataW H) → Nat
  | [] => 0
  | x :: r => uptoBulkEntry x + uptoBulkEntries r
def uptoBulkEntry {H : Type} : Lit × DataW H → Nat
  | (.string bytes, d) => bytes.length + uptoBulk d + 1
  | (_, d) => uptoBulk d + 1
 end
def uptoSmall : (H : Type) → List (DataW H) → Bool := fun _ ds => decide (uptoBulkAll ds ≤ 1048576)
def OpenSpec.upto (s : _root_.Go.ChangeSpec) : _root_.Go.OpenSpec := { _root_.Go.OpenSpec.ofChange s with cond := some uptoSmall }

/-- 'betatronlaw57.InstrumentValid', WHERE WHAT IT READS IS OF BULK AT MOST 1048576: true; the input reads as it did. -/
def instrumentValidUptoRow : OpenClaim := { program := "ytmkdcfhacldnlaa", sum := "b1a03cf485a76493d8bc499702f2eb840fdda3cfa8e69550b66050a9fa3540f0", func := "betatron/betatronlaw57.InstrumentValid", spec := "instrumentValid", unfollowed := true, recurses := true, apart := false, narrowed := true }
def InstrumentValidUptoSaid : Prop := instrumentValidUptoRow.holds Try.pinned (OpenSpec.upto instrumentValidSpec)

/-- 'betatronlaw57.InstrumentPosition', WHERE WHAT IT READS IS OF BULK AT MOST 1048576: true; the input reads as it did. -/
def instrumentPositionUptoRow : OpenClaim := { program := "ytmkdcfhacldnlaa", sum := "b1a03cf485a76493d8bc499702f2eb840fdda3cfa8e69550b66050a9fa3540f0", func := "betatron/betatronlaw57.InstrumentPosition", spec := "instrumentPosition", unfollowed := true, recurses := true, apart := false, narrowed := true }
def InstrumentPositionUptoSaid : Prop := instrumentPositionUptoRow.holds Try.pinned (OpenSpec.upto instrumentPositionSpec)

/-- 'betatronlaw57.InstrumentTruth', WHERE WHAT IT READS IS OF BULK AT MOST 1048576: true; the input reads as it did. -/
def instrumentTruthUptoRow : OpenClaim := { program := "ytmkdcfhacldnlaa", sum := "b1a03cf485a76493d8bc499702f2eb840fdda3cfa8e69550b66050a9fa3540f0", func := "betatron/betatronlaw57.InstrumentTruth", spec := "instrumentTruth", unfollowed := true, recurses := true, apart := false, narrowed := true }
def InstrumentTruthUptoSaid : Prop := instrumentTruthUptoRow.holds Try.pinned (OpenSpec.upto instrumentTruthSpec)

/-- 'betatronlaw57.InstrumentCurrent', WHERE WHAT IT READS IS OF BULK AT MOST 1048576: true; the input reads as it did. -/
def instrumentCurrentUptoRow : OpenClaim := { program := "ytmkdcfhacldnlaa", sum := "b1a03cf485a76493d8bc499702f2eb840fdda3cfa8e69550b66050a9fa3540f0", func := "betatron/betatronlaw57.InstrumentCurrent", spec := "instrumentCurrent", unfollowed := true, recurses := true, apart := false, narrowed := true }
def InstrumentCurrentUptoSaid : Prop := instrumentCurrentUptoRow.holds Try.pinned (OpenSpec.upto instrumentCurrentSpec)

/-- 'betatronlaw57.InstrumentTune', WHERE WHAT IT READS IS OF BULK AT MOST 1048576: true; the input reads as it did. -/
def instrumentTuneUptoRow : OpenClaim := { program := "ytmkdcfhacldnlaa", sum := "b1a03cf485a76493d8bc499702f2eb840fdda3cfa8e69550b66050a9fa3540f0", func := "betatron/betatronlaw57.InstrumentTune", spec := "instrumentTune", unfollowed := true, recurses := true, apart := false, narrowed := true }
def InstrumentTuneUptoSaid : Prop := instrumentTuneUptoRow.holds Try.pinned (OpenSpec.upto instrumentTuneSpec)

/-- 'betatronlaw57.InstrumentInconsistent', WHERE WHAT IT READS IS OF BULK AT MOST 1048576: true; the input reads as it did. -/
def instrumentInconsistentUptoRow : OpenClaim := { program := "ytmkdcfhacldnlaa", sum := "b1a03cf485a76493d8bc499702f2eb840fdda3cfa8e69550b66050a9fa3540f0", func := "betatron/betatronlaw57.InstrumentInconsistent", spec := "instrumentInconsistent", unfollowed := true, recurses := true, apart := false, narrowed := true }
def InstrumentInconsistentUptoSaid : Prop := instrumentInconsistentUptoRow.holds Try.pinned (OpenSpec.upto instrumentInconsistentSpec)

/-- 'betatronlaw57.InstrumentShifts', WHERE WHAT IT READS IS OF BULK AT MOST 1048576: true; the input reads as it did. -/
def instrumentShiftsUptoRow : OpenClaim := { program := "ytmkdcfhacldnlaa", sum := "b1a03cf485a76493d8bc499702f2eb840fdda3cfa8e69550b66050a9fa3540f0", func := "betatron/betatronlaw57.InstrumentShifts", spec := "instrumentShifts", unfollowed := true, recurses := true, apart := false, narrowed := true }
def InstrumentShiftsUptoSaid : Prop := instrumentShiftsUptoRow.holds Try.pinned (OpenSpec.upto instrumentShiftsSpec)

/-- 'betatronlaw57.InstrumentSplits', WHERE WHAT IT READS IS OF BULK AT MOST 1048576: true; the input reads as it did. -/
def instrumentSplitsUptoRow : OpenClaim := { program := "ytmkdcfhacldnlaa", sum := "b1a03cf485a76493d8bc499702f2eb840fdda3cfa8e69550b66050a9fa3540f0", func := "betatron/betatronlaw57.InstrumentSplits", spec := "instrumentSplits", unfollowed := true, recurses := true, apart := false, narrowed := true }
def InstrumentSplitsUptoSaid : Prop := instrumentSplitsUptoRow.holds Try.pinned (OpenSpec.upto instrumentSplitsSpec)

end Rows
end Go.Proofs.Ytmkdcfhacldnlaa
