/-
  No cell of these rows narrows 'for every input' (looked for: loops, veiled, ifaces, maps, wideKeys, modest, calm, conditions, laid).
  DERIVED. THE GIVEN ROWS OF THIS SEAT. 9 by the template 'for every input the law returns true; each argument reads behind the call as it read before'; 0 by the template 'total and deterministic' (their statements: YtffldkecndnbiaaTotals.lean).
  GIVEN WITH THE SEED: the statements are not yours to turn. If you find one false, say at which input.
  Laid BY PROGRAM, IN A SANDBOX (cutbox-rows.mjs): the forced cells as the released guide's own fill.sh prints them over the translation 79157f38e44f7b0a… (all of the seat's roots in one cut). By AI agents, Wed Nov 11 2026. No macro, syntax, notation, axiom, sorry.
-/
import Derived.Test.YtffldkecndnbiaaChecked
import GoSem.Claim
import GoSem.ClaimJoined
import GoSem.ClaimMapViews
import Derived.JoinedTies
import Derived.KernelRfl
namespace Go.Proofs.Ytffldkecndnbiaa
/- THE CELL 'sum', in the pinned program and in every row, IS THE sha256 OF THE DUMP (.gsa) THAT YtffldkecndnbiaaProg.lean LOADS. Nothing in Lean hashes anything: it is a label: what it is worth is what the hold of that sum in a sandbox is worth. -/
noncomputable def Try.pinned : Pinned := { name := "ytffldkecndnbiaa", sum := "79157f38e44f7b0a5cdda104eed0bafcc9700b5f713891ed4f337d7389da9a39", checked := Try.checked }
namespace Rows
def none {H : Type} : Left H := { results := [], args := [] }

/-- 'betatronlaw30.FibreValid': WHATEVER THE INPUT: true; the input reads as it did. -/
def fibreValidSpec : ChangeSpec := { name := "fibreValid", fn := fun _ => fun
  | [d] => { results := [.lit (.bool true)], args := [d] }
  | _ => none }
def fibreValidRow : OpenClaim := { program := "ytffldkecndnbiaa", sum := "79157f38e44f7b0a5cdda104eed0bafcc9700b5f713891ed4f337d7389da9a39", func := "betatron/betatronlaw30.FibreValid", spec := "fibreValid", unfollowed := true, recurses := true, apart := false }
def FibreValidSaid : Prop := fibreValidRow.holds Try.pinned (OpenSpec.ofChange fibreValidSpec)

/-- ITS FALSE NEIGHBOUR: 'it returns false'. Refute it at one input. -/
def fibreValidWrong : ChangeSpec := { name := "fibreValid", fn := fun _ => fun
  | [d] => { results := [.lit (.bool false)], args := [d] }
  | _ => none }
def FibreValidWrongFalsely : Prop := fibreValidRow.holds Try.pinned (OpenSpec.ofChange fibreValidWrong)

/-- 'betatronlaw30.FibreMeasure': WHATEVER THE INPUT: true; the input reads as it did. -/
def fibreMeasureSpec : ChangeSpec := { name := "fibreMeasure", fn := fun _ => fun
  | [d1, d2, d3] => { results := [.lit (.bool true)], args := [d1, d2, d3] }
  | _ => none }
def fibreMeasureRow : OpenClaim := { program := "ytffldkecndnbiaa", sum := "79157f38e44f7b0a5cdda104eed0bafcc9700b5f713891ed4f337d7389da9a39", func := "betatron/betatronlaw30.FibreMeasure", spec := "fibreMeasure", unfollowed := true, recurses := true, apart := false }
def FibreMeasureSaid : Prop := fibreMeasureRow.holds Try.pinned (OpenSpec.ofChange fibreMeasureSpec)

/-- ITS FALSE NEIGHBOUR: 'it returns false'. Refute it at one input. -/
def fibreMeasureWrong : ChangeSpec := { name := "fibreMeasure", fn := fun _ => fun
  | [d1, d2, d3] => { results := [.lit (.bool false)], args := [d1, d2, d3] }
  | _ => none }
def FibreMeasureWrongFalsely : Prop := fibreMeasureRow.holds Try.pinned (OpenSpec.ofChange fibreMeasureWrong)

/-- 'betatronlaw30.FibreCompensate': WHATEVER THE INPUT: true; the input reads as it did. -/
def fibreCompensateSpec : ChangeSpec := { name := "fibreCompensate", fn := fun _ => fun
  | [d1, d2] => { results := [.lit (.bool true)], args := [d1, d2] }
  | _ => none }
def fibreCompensateRow : OpenClaim := { program := "ytffldkecndnbiaa", sum := "79157f38e44f7b0a5cdda104eed0bafcc9700b5f713891ed4f337d7389da9a39", func := "betatron/betatronlaw30.FibreCompensate", spec := "fibreCompensate", unfollowed := true, recurses := true, apart := false }
def FibreCompensateSaid : Prop := fibreCompensateRow.holds Try.pinned (OpenSpec.ofChange fibreCompensateSpec)

/-- ITS FALSE NEIGHBOUR: 'it returns false'. Refute it at one input. -/
def fibreCompensateWrong : ChangeSpec := { name := "fibreCompensate", fn := fun _ => fun
  | [d1, d2] => { results := [.lit (.bool false)], args := [d1, d2] }
  | _ => none }
def FibreCompensateWrongFalsely : Prop := fibreCompensateRow.holds Try.pinned (OpenSpec.ofChange fibreCompensateWrong)

/-- 'betatronlaw30.FibreActs': WHATEVER THE INPUT: true; the input reads as it did. -/
def fibreActsSpec : ChangeSpec := { name := "fibreActs", fn := fun _ => fun
  | [d1, d2] => { results := [.lit (.bool true)], args := [d1, d2] }
  | _ => none }
def fibreActsRow : OpenClaim := { program := "ytffldkecndnbiaa", sum := "79157f38e44f7b0a5cdda104eed0bafcc9700b5f713891ed4f337d7389da9a39", func := "betatron/betatronlaw30.FibreActs", spec := "fibreActs", unfollowed := true, recurses := true, apart := false }
def FibreActsSaid : Prop := fibreActsRow.holds Try.pinned (OpenSpec.ofChange fibreActsSpec)

/-- ITS FALSE NEIGHBOUR: 'it returns false'. Refute it at one input. -/
def fibreActsWrong : ChangeSpec := { name := "fibreActs", fn := fun _ => fun
  | [d1, d2] => { results := [.lit (.bool false)], args := [d1, d2] }
  | _ => none }
def FibreActsWrongFalsely : Prop := fibreActsRow.holds Try.pinned (OpenSpec.ofChange fibreActsWrong)

/-- 'betatronlaw30.FibreCut': WHATEVER THE INPUT: true; the input reads as it did. -/
def fibreCutSpec : ChangeSpec := { name := "fibreCut", fn := fun _ => fun
  | [d1, d2, d3] => { results := [.lit (.bool true)], args := [d1, d2, d3] }
  | _ => none }
def fibreCutRow : OpenClaim := { program := "ytffldkecndnbiaa", sum := "79157f38e44f7b0a5cdda104eed0bafcc9700b5f713891ed4f337d7389da9a39", func := "betatron/betatronlaw30.FibreCut", spec := "fibreCut", unfollowed := true, recurses := true, apart := false }
def FibreCutSaid : Prop := fibreCutRow.holds Try.pinned (OpenSpec.ofChange fibreCutSpec)

/-- ITS FALSE NEIGHBOUR: 'it returns false'. Refute it at one input. -/
def fibreCutWrong : ChangeSpec := { name := "fibreCut", fn := fun _ => fun
  | [d1, d2, d3] => { results := [.lit (.bool false)], args := [d1, d2, d3] }
  | _ => none }
def FibreCutWrongFalsely : Prop := fibreCutRow.holds Try.pinned (OpenSpec.ofChange fibreCutWrong)

/-- 'betatronlaw30.FibreTogether': WHATEVER THE INPUT: true; the input reads as it did. -/
def fibreTogetherSpec : ChangeSpec := { name := "fibreTogether", fn := fun _ => fun
  | [d1, d2] => { results := [.lit (.bool true)], args := [d1, d2] }
  | _ => none }
def fibreTogetherRow : OpenClaim := { program := "ytffldkecndnbiaa", sum := "79157f38e44f7b0a5cdda104eed0bafcc9700b5f713891ed4f337d7389da9a39", func := "betatron/betatronlaw30.FibreTogether", spec := "fibreTogether", unfollowed := true, recurses := true, apart := false }
def FibreTogetherSaid : Prop := fibreTogetherRow.holds Try.pinned (OpenSpec.ofChange fibreTogetherSpec)

/-- ITS FALSE NEIGHBOUR: 'it returns false'. Refute it at one input. -/
def fibreTogetherWrong : ChangeSpec := { name := "fibreTogether", fn := fun _ => fun
  | [d1, d2] => { results := [.lit (.bool false)], args := [d1, d2] }
  | _ => none }
def FibreTogetherWrongFalsely : Prop := fibreTogetherRow.holds Try.pinned (OpenSpec.ofChange fibreTogetherWrong)

/-- 'betatronlaw30.FibreMeasured': WHATEVER THE INPUT: true; the input reads as it did. -/
def fibreMeasuredSpec : ChangeSpec := { name := "fibreMeasured", fn := fun _ => fun
  | [d1, d2] => { results := [.lit (.bool true)], args := [d1, d2] }
  | _ => none }
def fibreMeasuredRow : OpenClaim := { program := "ytffldkecndnbiaa", sum := "79157f38e44f7b0a5cdda104eed0bafcc9700b5f713891ed4f337d7389da9a39", func := "betatron/betatronlaw30.FibreMeasured", spec := "fibreMeasured", unfollowed := true, recurses := true, apart := false }
def FibreMeasuredSaid : Prop := fibreMeasuredRow.holds Try.pinned (OpenSpec.ofChange fibreMeasuredSpec)

/-- ITS FALSE NEIGHBOUR: 'it returns false'. Refute it at one input. -/
def fibreMeasuredWrong : ChangeSpec := { name := "fibreMeasured", fn := fun _ => fun
  | [d1, d2] => { results := [.lit (.bool false)], args := [d1, d2] }
  | _ => none }
def FibreMeasuredWrongFalsely : Prop := fibreMeasuredRow.holds Try.pinned (OpenSpec.ofChange fibreMeasuredWrong)

/-- 'betatronlaw30.FibreAbove': WHATEVER THE INPUT: true; the input reads as it did. -/
def fibreAboveSpec : ChangeSpec := { name := "fibreAbove", fn := fun _ => fun
  | [d1, d2, d3] => { results := [.lit (.bool true)], args := [d1, d2, d3] }
  | _ => none }
def fibreAboveRow : OpenClaim := { program := "ytffldkecndnbiaa", sum := "79157f38e44f7b0a5cdda104eed0bafcc9700b5f713891ed4f337d7389da9a39", func := "betatron/betatronlaw30.FibreAbove", spec := "fibreAbove", unfollowed := true, recurses := true, apart := false }
def FibreAboveSaid : Prop := fibreAboveRow.holds Try.pinned (OpenSpec.ofChange fibreAboveSpec)

/-- ITS FALSE NEIGHBOUR: 'it returns false'. Refute it at one input. -/
def fibreAboveWrong : ChangeSpec := { name := "fibreAbove", fn := fun _ => fun
  | [d1, d2, d3] => { results := [.lit (.bool false)], args := [d1, d2, d3] }
  | _ => none }
def FibreAboveWrongFalsely : Prop := fibreAboveRow.holds Try.pinned (OpenSpec.ofChange fibreAboveWrong)

/-- 'betatronlaw30.FibreDelays': WHATEVER THE INPUT: true; the input reads as it did. -/
def fibreDelaysSpec : ChangeSpec := { name := "fibreDelays", fn := fun _ => fun
  | [d1, d2] => { results := [.lit (.bool true)], args := [d1, d2] }
  | _ => none }
def fibreDelaysRow : OpenClaim := { program := "ytffldkecndnbiaa", sum := "79157f38e44f7b0a5cdda104eed0bafcc9700b5f713891ed4f337d7389da9a39", func := "betatron/betatronlaw30.FibreDelays", spec := "fibreDelays", unfollowed := true, recurses := true, apart := false }
def FibreDelaysSaid : Prop := fibreDelaysRow.holds Try.pinned (OpenSpec.ofChange fibreDelaysSpec)

/-- ITS FALSE NEIGHBOUR: 'it returns false'. Refute it at one input. -/
def fibreDelaysWrong : ChangeSpec := { name := "fibreDelays", fn := fun _ => fun
  | [d1, d2] => { results := [.lit (.bool false)], args := [d1, d2] }
  | _ => none }
def FibreDelaysWrongFalsely : Prop := fibreDelaysRow.holds Try.pinned (OpenSpec.ofChange fibreDelaysWrong)

/- THE SECOND FORM. 'bulk': how many values and letters a reading holds, each counted each time it is reached (what is shared counts as often as it is met; a slice's spare places count too). A statement '..UptoSaid' is the law's where the arguments, and the package variables that the reading takes, are together of bulk at most 1048576: NARROWER than '..Said'. Prove '..Said' where nothing that the law and all that it calls make is longer than what came in: it says more and counts as full. Else prove '..UptoSaid'. A law counts once. -/
mutual
def uptoBulk {H : Type} : DataW H → Nat
  | .lit (.string bytes) => bytes.length + 1
  | .lit _ => 1
  | .nil => 1
  | .ptr d => uptoBulk d + 1
  | .slice elems spare => uptoBulkAll elems + uptoBulkAll spare + 1
  | .agg parts => uptoBulkAll parts + 1
  | .iface _ d => uptoBulk d + 1
  | .map entries => uptoBulkEntries entries + 1
  | .held _ => 1
def uptoBulkAll {H : Type} : List (DataW H) → Nat
  | [] => 0
  | d :: r => uptoBulk d + uptoBulkAll r
def uptoBulkEntries {H : Type} : List (Lit × DataW H) → Nat
  | [] => 0
  | x :: r => uptoBulkEntry x + uptoBulkEntries r
def uptoBulkEntry {H : Type} : Lit × DataW H → Nat
  | (.string bytes, d) => bytes.length + uptoBulk d + 1
  | (_, d) => uptoBulk d + 1
 end
def uptoSmall : (H : Type) → List (DataW H) → Bool := fun _ ds => decide (uptoBulkAll ds ≤ 1048576)
def OpenSpec.upto (s : _root_.Go.ChangeSpec) : _root_.Go.OpenSpec := { _root_.Go.OpenSpec.ofChange s with cond := some uptoSmall }

/-- 'betatronlaw30.FibreValid', WHERE WHAT IT READS IS OF BULK AT MOST 1048576: true; the input reads as it did. -/
def fibreValidUptoRow : OpenClaim := { program := "ytffldkecndnbiaa", sum := "79157f38e44f7b0a5cdda104eed0bafcc9700b5f713891ed4f337d7389da9a39", func := "betatron/betatronlaw30.FibreValid", spec := "fibreValid", unfollowed := true, recurses := true, apart := false, narrowed := true }
def FibreValidUptoSaid : Prop := fibreValidUptoRow.holds Try.pinned (OpenSpec.upto fibreValidSpec)

/-- 'betatronlaw30.FibreMeasure', WHERE WHAT IT READS IS OF BULK AT MOST 1048576: true; the input reads as it did. -/
def fibreMeasureUptoRow : OpenClaim := { program := "ytffldkecndnbiaa", sum := "79157f38e44f7b0a5cdda104eed0bafcc9700b5f713891ed4f337d7389da9a39", func := "betatron/betatronlaw30.FibreMeasure", spec := "fibreMeasure", unfollowed := true, recurses := true, apart := false, narrowed := true }
def FibreMeasureUptoSaid : Prop := fibreMeasureUptoRow.holds Try.pinned (OpenSpec.upto fibreMeasureSpec)

/-- 'betatronlaw30.FibreCompensate', WHERE WHAT IT READS IS OF BULK AT MOST 1048576: true; the input reads as it did. -/
def fibreCompensateUptoRow : OpenClaim := { program := "ytffldkecndnbiaa", sum := "79157f38e44f7b0a5cdda104eed0bafcc9700b5f713891ed4f337d7389da9a39", func := "betatron/betatronlaw30.FibreCompensate", spec := "fibreCompensate", unfollowed := true, recurses := true, apart := false, narrowed := true }
def FibreCompensateUptoSaid : Prop := fibreCompensateUptoRow.holds Try.pinned (OpenSpec.upto fibreCompensateSpec)

/-- 'betatronlaw30.FibreActs', WHERE WHAT IT READS IS OF BULK AT MOST 1048576: true; the input reads as it did. -/
def fibreActsUptoRow : OpenClaim := { program := "ytffldkecndnbiaa", sum := "79157f38e44f7b0a5cdda104eed0bafcc9700b5f713891ed4f337d7389da9a39", func := "betatron/betatronlaw30.FibreActs", spec := "fibreActs", unfollowed := true, recurses := true, apart := false, narrowed := true }
def FibreActsUptoSaid : Prop := fibreActsUptoRow.holds Try.pinned (OpenSpec.upto fibreActsSpec)

/-- 'betatronlaw30.FibreCut', WHERE WHAT IT READS IS OF BULK AT MOST 1048576: true; the input reads as it did. -/
def fibreCutUptoRow : OpenClaim := { program := "ytffldkecndnbiaa", sum := "79157f38e44f7b0a5cdda104eed0bafcc9700b5f713891ed4f337d7389da9a39", func := "betatron/betatronlaw30.FibreCut", spec := "fibreCut", unfollowed := true, recurses := true, apart := false, narrowed := true }
def FibreCutUptoSaid : Prop := fibreCutUptoRow.holds Try.pinned (OpenSpec.upto fibreCutSpec)

/-- 'betatronlaw30.FibreTogether', WHERE WHAT IT READS IS OF BULK AT MOST 1048576: true; the input reads as it did. -/
def fibreTogetherUptoRow : OpenClaim := { program := "ytffldkecndnbiaa", sum := "79157f38e44f7b0a5cdda104eed0bafcc9700b5f713891ed4f337d7389da9a39", func := "betatron/betatronlaw30.FibreTogether", spec := "fibreTogether", unfollowed := true, recurses := true, apart := false, narrowed := true }
def FibreTogetherUptoSaid : Prop := fibreTogetherUptoRow.holds Try.pinned (OpenSpec.upto fibreTogetherSpec)

/-- 'betatronlaw30.FibreMeasured', WHERE WHAT IT READS IS OF BULK AT MOST 1048576: true; the input reads as it did. -/
def fibreMeasuredUptoRow : OpenClaim := { program := "ytffldkecndnbiaa", sum := "79157f38e44f7b0a5cdda104eed0bafcc9700b5f713891ed4f337d7389da9a39", func := "betatron/betatronlaw30.FibreMeasured", spec := "fibreMeasured", unfollowed := true, recurses := true, apart := false, narrowed := true }
def FibreMeasuredUptoSaid : Prop := fibreMeasuredUptoRow.holds Try.pinned (OpenSpec.upto fibreMeasuredSpec)

/-- 'betatronlaw30.FibreAbove', WHERE WHAT IT READS IS OF BULK AT MOST 1048576: true; the input reads as it did. -/
def fibreAboveUptoRow : OpenClaim := { program := "ytffldkecndnbiaa", sum := "79157f38e44f7b0a5cdda104eed0bafcc9700b5f713891ed4f337d7389da9a39", func := "betatron/betatronlaw30.FibreAbove", spec := "fibreAbove", unfollowed := true, recurses := true, apart := false, narrowed := true }
def FibreAboveUptoSaid : Prop := fibreAboveUptoRow.holds Try.pinned (OpenSpec.upto fibreAboveSpec)

/-- 'betatronlaw30.FibreDelays', WHERE WHAT IT READS IS OF BULK AT MOST 1048576: true; the input reads as it did. -/
def fibreDelaysUptoRow : OpenClaim := { program := "ytffldkecndnbiaa", sum := "79157f38e44f7b0a5cdda104eed0bafcc9700b5f713891ed4f337d7389da9a39", func := "betatron/betatronlaw30.FibreDelays", spec := "fibreDelays", unfollowed := true, recurses := true, apart := false, narrowed := true }
def FibreDelaysUptoSaid : Prop := fibreDelaysUptoRow.holds Try.pinned (OpenSpec.upto fibreDelaysSpec)

end Rows
end Go.Proofs.Ytffldkecndnbiaa
