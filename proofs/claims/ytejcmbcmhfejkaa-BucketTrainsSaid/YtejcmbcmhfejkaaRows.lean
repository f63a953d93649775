/-
  No cell of these rows narrows 'for every input' (looked for: loops, veiled, ifaces, maps, wideKeys, modest, calm, conditions, laid).
  DERIVED. THE GIVEN ROWS OF THIS SEAT. 8 by the template 'for every input the law returns true; each argument reads behind the call as it read before'; 0 by the template 'total and deterministic' (their statements: YtejcmbcmhfejkaaTotals.lean).
  GIVEN WITH THE SEED: the statements are not yours to turn. If you find one false, say at which input.
  Laid BY PROGRAM, IN A SANDBOX (cutbox-rows.mjs): the forced cells as the released guide's own fill.sh prints them over the translation f5740dec770f23a0… (all of the seat's roots in one cut). By AI agents, Wed Nov 11 2026. No macro, syntax, notation, axiom, sorry.
-/
import Derived.Test.YtejcmbcmhfejkaaChecked
import GoSem.Claim
import GoSem.ClaimJoined
import GoSem.ClaimMapViews
import Derived.JoinedTies
import Derived.KernelRfl
namespace Go.Proofs.Ytejcmbcmhfejkaa
/- THE CELL 'sum', in the pinned program and in every row, IS THE sha256 OF THE DUMP (.gsa) THAT YtejcmbcmhfejkaaProg.lean LOADS. Nothing in Lean hashes anything: it is a label: what it is worth is what the hold of that sum in a sandbox is worth. -/
noncomputable def Try.pinned : Pinned := { name := "ytejcmbcmhfejkaa", sum := "f5740dec770f23a0863e7c180466835a885d6811a772a5ab610305f9606c4ac6", checked := Try.checked }
namespace Rows
def none {H : Type} : Left H := { results := [], args := [] }

/-- 'betatronlaw31.BucketMeet': WHATEVER THE INPUT: true; the input reads as it did. -/
def bucketMeetSpec : ChangeSpec := { name := "bucketMeet", fn := fun _ => fun
  | [d] => { results := [.lit (.bool true)], args := [d] }
  | _ => none }
def bucketMeetRow : OpenClaim := { program := "ytejcmbcmhfejkaa", sum := "f5740dec770f23a0863e7c180466835a885d6811a772a5ab610305f9606c4ac6", func := "betatron/betatronlaw31.BucketMeet", spec := "bucketMeet", unfollowed := true, recurses := true, apart := false }
def BucketMeetSaid : Prop := bucketMeetRow.holds Try.pinned (OpenSpec.ofChange bucketMeetSpec)

/-- ITS FALSE NEIGHBOUR: 'it returns false'. Refute it at one input. -/
def bucketMeetWrong : ChangeSpec := { name := "bucketMeet", fn := fun _ => fun
  | [d] => { results := [.lit (.bool false)], args := [d] }
  | _ => none }
def BucketMeetWrongFalsely : Prop := bucketMeetRow.holds Try.pinned (OpenSpec.ofChange bucketMeetWrong)

/-- 'betatronlaw31.BucketAgain': WHATEVER THE INPUT: true; the input reads as it did. -/
def bucketAgainSpec : ChangeSpec := { name := "bucketAgain", fn := fun _ => fun
  | [d] => { results := [.lit (.bool true)], args := [d] }
  | _ => none }
def bucketAgainRow : OpenClaim := { program := "ytejcmbcmhfejkaa", sum := "f5740dec770f23a0863e7c180466835a885d6811a772a5ab610305f9606c4ac6", func := "betatron/betatronlaw31.BucketAgain", spec := "bucketAgain", unfollowed := true, recurses := true, apart := false }
def BucketAgainSaid : Prop := bucketAgainRow.holds Try.pinned (OpenSpec.ofChange bucketAgainSpec)

/-- ITS FALSE NEIGHBOUR: 'it returns false'. Refute it at one input. -/
def bucketAgainWrong : ChangeSpec := { name := "bucketAgain", fn := fun _ => fun
  | [d] => { results := [.lit (.bool false)], args := [d] }
  | _ => none }
def BucketAgainWrongFalsely : Prop := bucketAgainRow.holds Try.pinned (OpenSpec.ofChange bucketAgainWrong)

/-- 'betatronlaw31.BucketGap': WHATEVER THE INPUT: true; the input reads as it did. -/
def bucketGapSpec : ChangeSpec := { name := "bucketGap", fn := fun _ => fun
  | [d] => { results := [.lit (.bool true)], args := [d] }
  | _ => none }
def bucketGapRow : OpenClaim := { program := "ytejcmbcmhfejkaa", sum := "f5740dec770f23a0863e7c180466835a885d6811a772a5ab610305f9606c4ac6", func := "betatron/betatronlaw31.BucketGap", spec := "bucketGap", unfollowed := true, recurses := true, apart := false }
def BucketGapSaid : Prop := bucketGapRow.holds Try.pinned (OpenSpec.ofChange bucketGapSpec)

/-- ITS FALSE NEIGHBOUR: 'it returns false'. Refute it at one input. -/
def bucketGapWrong : ChangeSpec := { name := "bucketGap", fn := fun _ => fun
  | [d] => { results := [.lit (.bool false)], args := [d] }
  | _ => none }
def BucketGapWrongFalsely : Prop := bucketGapRow.holds Try.pinned (OpenSpec.ofChange bucketGapWrong)

/-- 'betatronlaw31.BucketInject': WHATEVER THE INPUT: true; the input reads as it did. -/
def bucketInjectSpec : ChangeSpec := { name := "bucketInject", fn := fun _ => fun
  | [d1, d2] => { results := [.lit (.bool true)], args := [d1, d2] }
  | _ => none }
def bucketInjectRow : OpenClaim := { program := "ytejcmbcmhfejkaa", sum := "f5740dec770f23a0863e7c180466835a885d6811a772a5ab610305f9606c4ac6", func := "betatron/betatronlaw31.BucketInject", spec := "bucketInject", unfollowed := true, recurses := true, apart := false }
def BucketInjectSaid : Prop := bucketInjectRow.holds Try.pinned (OpenSpec.ofChange bucketInjectSpec)

/-- ITS FALSE NEIGHBOUR: 'it returns false'. Refute it at one input. -/
def bucketInjectWrong : ChangeSpec := { name := "bucketInject", fn := fun _ => fun
  | [d1, d2] => { results := [.lit (.bool false)], args := [d1, d2] }
  | _ => none }
def BucketInjectWrongFalsely : Prop := bucketInjectRow.holds Try.pinned (OpenSpec.ofChange bucketInjectWrong)

/-- 'betatronlaw31.BucketTurn': WHATEVER THE INPUT: true; the input reads as it did. -/
def bucketTurnSpec : ChangeSpec := { name := "bucketTurn", fn := fun _ => fun
  | [d1, d2] => { results := [.lit (.bool true)], args := [d1, d2] }
  | _ => none }
def bucketTurnRow : OpenClaim := { program := "ytejcmbcmhfejkaa", sum := "f5740dec770f23a0863e7c180466835a885d6811a772a5ab610305f9606c4ac6", func := "betatron/betatronlaw31.BucketTurn", spec := "bucketTurn", unfollowed := true, recurses := true, apart := false }
def BucketTurnSaid : Prop := bucketTurnRow.holds Try.pinned (OpenSpec.ofChange bucketTurnSpec)

/-- ITS FALSE NEIGHBOUR: 'it returns false'. Refute it at one input. -/
def bucketTurnWrong : ChangeSpec := { name := "bucketTurn", fn := fun _ => fun
  | [d1, d2] => { results := [.lit (.bool false)], args := [d1, d2] }
  | _ => none }
def BucketTurnWrongFalsely : Prop := bucketTurnRow.holds Try.pinned (OpenSpec.ofChange bucketTurnWrong)

/-- 'betatronlaw31.BucketCollisions': WHATEVER THE INPUT: true; the input reads as it did. -/
def bucketCollisionsSpec : ChangeSpec := { name := "bucketCollisions", fn := fun _ => fun
  | [d1, d2, d3] => { results := [.lit (.bool true)], args := [d1, d2, d3] }
  | _ => none }
def bucketCollisionsRow : OpenClaim := { program := "ytejcmbcmhfejkaa", sum := "f5740dec770f23a0863e7c180466835a885d6811a772a5ab610305f9606c4ac6", func := "betatron/betatronlaw31.BucketCollisions", spec := "bucketCollisions", unfollowed := true, recurses := true, apart := false }
def BucketCollisionsSaid : Prop := bucketCollisionsRow.holds Try.pinned (OpenSpec.ofChange bucketCollisionsSpec)

/-- ITS FALSE NEIGHBOUR: 'it returns false'. Refute it at one input. -/
def bucketCollisionsWrong : ChangeSpec := { name := "bucketCollisions", fn := fun _ => fun
  | [d1, d2, d3] => { results := [.lit (.bool false)], args := [d1, d2, d3] }
  | _ => none }
def BucketCollisionsWrongFalsely : Prop := bucketCollisionsRow.holds Try.pinned (OpenSpec.ofChange bucketCollisionsWrong)

/-- 'betatronlaw31.BucketTrains': WHATEVER THE INPUT: true; the input reads as it did. -/
def bucketTrainsSpec : ChangeSpec := { name := "bucketTrains", fn := fun _ => fun
  | [d1, d2, d3] => { results := [.lit (.bool true)], args := [d1, d2, d3] }
  | _ => none }
def bucketTrainsRow : OpenClaim := { program := "ytejcmbcmhfejkaa", sum := "f5740dec770f23a0863e7c180466835a885d6811a772a5ab610305f9606c4ac6", func := "betatron/betatronlaw31.BucketTrains", spec := "bucketTrains", unfollowed := true, recurses := true, apart := false }
def BucketTrainsSaid : Prop := bucketTrainsRow.holds Try.pinned (OpenSpec.ofChange bucketTrainsSpec)

/-- ITS FALSE NEIGHBOUR: 'it returns false'. Refute it at one input. -/
def bucketTrainsWrong : ChangeSpec := { name := "bucketTrains", fn := fun _ => fun
  | [d1, d2, d3] => { results := [.lit (.bool false)], args := [d1, d2, d3] }
  | _ => none }
def BucketTrainsWrongFalsely : Prop := bucketTrainsRow.holds Try.pinned (OpenSpec.ofChange bucketTrainsWrong)

/-- 'betatronlaw31.BucketPairs': WHATEVER THE INPUT: true; the input reads as it did. -/
def bucketPairsSpec : ChangeSpec := { name := "bucketPairs", fn := fun _ => fun
  | [d1, d2] => { results := [.lit (.bool true)], args := [d1, d2] }
  | _ => none }
def bucketPairsRow : OpenClaim := { program := "ytejcmbcmhfejkaa", sum := "f5740dec770f23a0863e7c180466835a885d6811a772a5ab610305f9606c4ac6", func := "betatron/betatronlaw31.BucketPairs", spec := "bucketPairs", unfollowed := true, recurses := true, apart := false }
def BucketPairsSaid : Prop := bucketPairsRow.holds Try.pinned (OpenSpec.ofChange bucketPairsSpec)

/-- ITS FALSE NEIGHBOUR: 'it returns false'. Refute it at one input. -/
def bucketPairsWrong : ChangeSpec := { name := "bucketPairs", fn := fun _ => fun
  | [d1, d2] => { results := [.lit (.bool false)], args := [d1, d2] }
  | _ => none }
def BucketPairsWrongFalsely : Prop := bucketPairsRow.holds Try.pinned (OpenSpec.ofChange bucketPairsWrong)

/- THE SECOND FORM. 'bulk': how many values and letters a reading holds, each counted each time it is reached (what is shared counts as often as it is met; a slice's spare places count too). A statement '..UptoSaid' is the law's where the arguments, and the package variables that the reading takes, are together of bulk at most 1048576: NARROWER than '..Said'. Prove '..Said' where nothing that the law and all that it calls make is longer than what came in: it says more and counts as full. Else prove '..UptoSaid'. A law counts once. -/
mutual
def uptoBulk {H : Type} : DataW H → Nat
  | .lit (.string bytes) => bytes.length + 1
  | .lit _ => 1
  | .nil => 1
  | .ptr d => uptoBulk d + 1
  | .slice elems spare => uptoBulkAll elems + uptoBulkAll spare + 1
  | .agg parts => uptoBulkAll parts + 1
  | .iface _ d => uptoBulk d + 1
  | .map entries => uptoBulkEntries entries + 1
  | .held _ => 1
def uptoBulkAll {H : Type} : List (DataW H) → Nat
  | [] => 0
  | d :: r => uptoBulk d + uptoBulkAll r
def uptoBulkEntries {H : Type} : List (Lit × DataW H) → Nat
  | [] => 0
  | x :: r => uptoBulkEntry x + uptoBulkEntries r
def uptoBulkEntry {H : Type} : Lit × DataW H → Nat
  | (.string bytes, d) => bytes.length + uptoBulk d + 1
  | (_, d) => uptoBulk d + 1
 end
def uptoSmall : (H : Type) → List (DataW H) → Bool := fun _ ds => decide (uptoBulkAll ds ≤ 1048576)
def OpenSpec.upto (s : _root_.Go.ChangeSpec) : _root_.Go.OpenSpec := { _root_.Go.OpenSpec.ofChange s with cond := some uptoSmall }

/-- 'betatronlaw31.BucketMeet', WHERE WHAT IT READS IS OF BULK AT MOST 1048576: true; the input reads as it did. -/
def bucketMeetUptoRow : OpenClaim := { program := "ytejcmbcmhfejkaa", sum := "f5740dec770f23a0863e7c180466835a885d6811a772a5ab610305f9606c4ac6", func := "betatron/betatronlaw31.BucketMeet", spec := "bucketMeet", unfollowed := true, recurses := true, apart := false, narrowed := true }
def BucketMeetUptoSaid : Prop := bucketMeetUptoRow.holds Try.pinned (OpenSpec.upto bucketMeetSpec)

/-- 'betatronlaw31.BucketAgain', WHERE WHAT IT READS IS OF BULK AT MOST 1048576: true; the input reads as it did. -/
def bucketAgainUptoRow : OpenClaim := { program := "ytejcmbcmhfejkaa", sum := "f5740dec770f23a0863e7c180466835a885d6811a772a5ab610305f9606c4ac6", func := "betatron/betatronlaw31.BucketAgain", spec := "bucketAgain", unfollowed := true, recurses := true, apart := false, narrowed := true }
def BucketAgainUptoSaid : Prop := bucketAgainUptoRow.holds Try.pinned (OpenSpec.upto bucketAgainSpec)

/-- 'betatronlaw31.BucketGap', WHERE WHAT IT READS IS OF BULK AT MOST 1048576: true; the input reads as it did. -/
def bucketGapUptoRow : OpenClaim := { program := "ytejcmbcmhfejkaa", sum := "f5740dec770f23a0863e7c180466835a885d6811a772a5ab610305f9606c4ac6", func := "betatron/betatronlaw31.BucketGap", spec := "bucketGap", unfollowed := true, recurses := true, apart := false, narrowed := true }
def BucketGapUptoSaid : Prop := bucketGapUptoRow.holds Try.pinned (OpenSpec.upto bucketGapSpec)

/-- 'betatronlaw31.BucketInject', WHERE WHAT IT READS IS OF BULK AT MOST 1048576: true; the input reads as it did. -/
def bucketInjectUptoRow : OpenClaim := { program := "ytejcmbcmhfejkaa", sum := "f5740dec770f23a0863e7c180466835a885d6811a772a5ab610305f9606c4ac6", func := "betatron/betatronlaw31.BucketInject", spec := "bucketInject", unfollowed := true, recurses := true, apart := false, narrowed := true }
def BucketInjectUptoSaid : Prop := bucketInjectUptoRow.holds Try.pinned (OpenSpec.upto bucketInjectSpec)

/-- 'betatronlaw31.BucketTurn', WHERE WHAT IT READS IS OF BULK AT MOST 1048576: true; the input reads as it did. -/
def bucketTurnUptoRow : OpenClaim := { program := "ytejcmbcmhfejkaa", sum := "f5740dec770f23a0863e7c180466835a885d6811a772a5ab610305f9606c4ac6", func := "betatron/betatronlaw31.BucketTurn", spec := "bucketTurn", unfollowed := true, recurses := true, apart := false, narrowed := true }
def BucketTurnUptoSaid : Prop := bucketTurnUptoRow.holds Try.pinned (OpenSpec.upto bucketTurnSpec)

/-- 'betatronlaw31.BucketCollisions', WHERE WHAT IT READS IS OF BULK AT MOST 1048576: true; the input reads as it did. -/
def bucketCollisionsUptoRow : OpenClaim := { program := "ytejcmbcmhfejkaa", sum := "f5740dec770f23a0863e7c180466835a885d6811a772a5ab610305f9606c4ac6", func := "betatron/betatronlaw31.BucketCollisions", spec := "bucketCollisions", unfollowed := true, recurses := true, apart := false, narrowed := true }
def BucketCollisionsUptoSaid : Prop := bucketCollisionsUptoRow.holds Try.pinned (OpenSpec.upto bucketCollisionsSpec)

/-- 'betatronlaw31.BucketTrains', WHERE WHAT IT READS IS OF BULK AT MOST 1048576: true; the input reads as it did. -/
def bucketTrainsUptoRow : OpenClaim := { program := "ytejcmbcmhfejkaa", sum := "f5740dec770f23a0863e7c180466835a885d6811a772a5ab610305f9606c4ac6", func := "betatron/betatronlaw31.BucketTrains", spec := "bucketTrains", unfollowed := true, recurses := true, apart := false, narrowed := true }
def BucketTrainsUptoSaid : Prop := bucketTrainsUptoRow.holds Try.pinned (OpenSpec.upto bucketTrainsSpec)

/-- 'betatronlaw31.BucketPairs', WHERE WHAT IT READS IS OF BULK AT MOST 1048576: true; the input reads as it did. -/
def bucketPairsUptoRow : OpenClaim := { program := "ytejcmbcmhfejkaa", sum := "f5740dec770f23a0863e7c180466835a885d6811a772a5ab610305f9606c4ac6", func := "betatron/betatronlaw31.BucketPairs", spec := "bucketPairs", unfollowed := true, recurses := true, apart := false, narrowed := true }
def BucketPairsUptoSaid : Prop := bucketPairsUptoRow.holds Try.pinned (OpenSpec.upto bucketPairsSpec)

end Rows
end Go.Proofs.Ytejcmbcmhfejkaa
