/-
  No cell of these rows narrows 'for every input' (looked for: loops, veiled, ifaces, maps, wideKeys, modest, calm, conditions, laid).
  DERIVED. THE GIVEN ROWS OF THIS SEAT. 9 by the template 'for every input the law returns true; each argument reads behind the call as it read before'; 0 by the template 'total and deterministic' (their statements: YtjkdcbkgfjdoeaaTotals.lean).
  GIVEN WITH THE SEED: the statements are not yours to turn. If you find one false, say at which input.
  Laid BY PROGRAM, IN A SANDBOX (cutbox-rows.mjs): the forced cells as the released guide's own fill.sh prints them over the translation 1689f1b5b670d6d7… (all of the seat's roots in one cut). By AI agents, Wed Nov 11 2026. No macro, syntax, notation, axiom, sorry.
-/
import Derived.Test.YtjkdcbkgfjdoeaaChecked
import GoSem.Claim
import GoSem.ClaimJoined
import GoSem.ClaimMapViews
import Derived.JoinedTies
import Derived.KernelRfl
namespace Go.Proofs.Ytjkdcbkgfjdoeaa
/- THE CELL 'sum', in the pinned program and in every row, IS THE sha256 OF THE DUMP (.gsa) THAT YtjkdcbkgfjdoeaaProg.lean LOADS. Nothing in Lean hashes anything: it is a label: what it is worth is what the hold of that sum in a sandbox is worth. -/
noncomputable def Try.pinned : Pinned := { name := "ytjkdcbkgfjdoeaa", sum := "1689f1b5b670d6d7e2dc0213c5b3a03742014ed3f44650900336f9f9a6d6a09f", checked := Try.checked }
namespace Rows
def none {H : Type} : Left H := { results := [], args := [] }

/-- 'betatronlaw38.TransactionSteps': WHATEVER THE INPUT: true; the input reads as it did. -/
def transactionStepsSpec : ChangeSpec := { name := "transactionSteps", fn := fun _ => fun
  | [d] => { results := [.lit (.bool true)], args := [d] }
  | _ => none }
def transactionStepsRow : OpenClaim := { program := "ytjkdcbkgfjdoeaa", sum := "1689f1b5b670d6d7e2dc0213c5b3a03742014ed3f44650900336f9f9a6d6a09f", func := "betatron/betatronlaw38.TransactionSteps", spec := "transactionSteps", unfollowed := true, recurses := true, apart := false }
def TransactionStepsSaid : Prop := transactionStepsRow.holds Try.pinned (OpenSpec.ofChange transactionStepsSpec)

/-- ITS FALSE NEIGHBOUR: 'it returns false'. Refute it at one input. -/
def transactionStepsWrong : ChangeSpec := { name := "transactionSteps", fn := fun _ => fun
  | [d] => { results := [.lit (.bool false)], args := [d] }
  | _ => none }
def TransactionStepsWrongFalsely : Prop := transactionStepsRow.holds Try.pinned (OpenSpec.ofChange transactionStepsWrong)

/-- 'betatronlaw38.TransactionDo': WHATEVER THE INPUT: true; the input reads as it did. -/
def transactionDoSpec : ChangeSpec := { name := "transactionDo", fn := fun _ => fun
  | [d1, d2] => { results := [.lit (.bool true)], args := [d1, d2] }
  | _ => none }
def transactionDoRow : OpenClaim := { program := "ytjkdcbkgfjdoeaa", sum := "1689f1b5b670d6d7e2dc0213c5b3a03742014ed3f44650900336f9f9a6d6a09f", func := "betatron/betatronlaw38.TransactionDo", spec := "transactionDo", unfollowed := true, recurses := true, apart := false }
def TransactionDoSaid : Prop := transactionDoRow.holds Try.pinned (OpenSpec.ofChange transactionDoSpec)

/-- ITS FALSE NEIGHBOUR: 'it returns false'. Refute it at one input. -/
def transactionDoWrong : ChangeSpec := { name := "transactionDo", fn := fun _ => fun
  | [d1, d2] => { results := [.lit (.bool false)], args := [d1, d2] }
  | _ => none }
def TransactionDoWrongFalsely : Prop := transactionDoRow.holds Try.pinned (OpenSpec.ofChange transactionDoWrong)

/-- 'betatronlaw38.TransactionEach': WHATEVER THE INPUT: true; the input reads as it did. -/
def transactionEachSpec : ChangeSpec := { name := "transactionEach", fn := fun _ => fun
  | [d] => { results := [.lit (.bool true)], args := [d] }
  | _ => none }
def transactionEachRow : OpenClaim := { program := "ytjkdcbkgfjdoeaa", sum := "1689f1b5b670d6d7e2dc0213c5b3a03742014ed3f44650900336f9f9a6d6a09f", func := "betatron/betatronlaw38.TransactionEach", spec := "transactionEach", unfollowed := true, recurses := true, apart := false }
def TransactionEachSaid : Prop := transactionEachRow.holds Try.pinned (OpenSpec.ofChange transactionEachSpec)

/-- ITS FALSE NEIGHBOUR: 'it returns false'. Refute it at one input. -/
def transactionEachWrong : ChangeSpec := { name := "transactionEach", fn := fun _ => fun
  | [d] => { results := [.lit (.bool false)], args := [d] }
  | _ => none }
def TransactionEachWrongFalsely : Prop := transactionEachRow.holds Try.pinned (OpenSpec.ofChange transactionEachWrong)

/-- 'betatronlaw38.TransactionNumber': WHATEVER THE INPUT: true; the input reads as it did. -/
def transactionNumberSpec : ChangeSpec := { name := "transactionNumber", fn := fun _ => fun
  | [d1, d2, d3] => { results := [.lit (.bool true)], args := [d1, d2, d3] }
  | _ => none }
def transactionNumberRow : OpenClaim := { program := "ytjkdcbkgfjdoeaa", sum := "1689f1b5b670d6d7e2dc0213c5b3a03742014ed3f44650900336f9f9a6d6a09f", func := "betatron/betatronlaw38.TransactionNumber", spec := "transactionNumber", unfollowed := true, recurses := true, apart := false }
def TransactionNumberSaid : Prop := transactionNumberRow.holds Try.pinned (OpenSpec.ofChange transactionNumberSpec)

/-- ITS FALSE NEIGHBOUR: 'it returns false'. Refute it at one input. -/
def transactionNumberWrong : ChangeSpec := { name := "transactionNumber", fn := fun _ => fun
  | [d1, d2, d3] => { results := [.lit (.bool false)], args := [d1, d2, d3] }
  | _ => none }
def TransactionNumberWrongFalsely : Prop := transactionNumberRow.holds Try.pinned (OpenSpec.ofChange transactionNumberWrong)

/-- 'betatronlaw38.TransactionRun': WHATEVER THE INPUT: true; the input reads as it did. -/
def transactionRunSpec : ChangeSpec := { name := "transactionRun", fn := fun _ => fun
  | [d1, d2] => { results := [.lit (.bool true)], args := [d1, d2] }
  | _ => none }
def transactionRunRow : OpenClaim := { program := "ytjkdcbkgfjdoeaa", sum := "1689f1b5b670d6d7e2dc0213c5b3a03742014ed3f44650900336f9f9a6d6a09f", func := "betatron/betatronlaw38.TransactionRun", spec := "transactionRun", unfollowed := true, recurses := true, apart := false }
def TransactionRunSaid : Prop := transactionRunRow.holds Try.pinned (OpenSpec.ofChange transactionRunSpec)

/-- ITS FALSE NEIGHBOUR: 'it returns false'. Refute it at one input. -/
def transactionRunWrong : ChangeSpec := { name := "transactionRun", fn := fun _ => fun
  | [d1, d2] => { results := [.lit (.bool false)], args := [d1, d2] }
  | _ => none }
def TransactionRunWrongFalsely : Prop := transactionRunRow.holds Try.pinned (OpenSpec.ofChange transactionRunWrong)

/-- 'betatronlaw38.TransactionExplore': WHATEVER THE INPUT: true; the input reads as it did. -/
def transactionExploreSpec : ChangeSpec := { name := "transactionExplore", fn := fun _ => fun
  | [d] => { results := [.lit (.bool true)], args := [d] }
  | _ => none }
def transactionExploreRow : OpenClaim := { program := "ytjkdcbkgfjdoeaa", sum := "1689f1b5b670d6d7e2dc0213c5b3a03742014ed3f44650900336f9f9a6d6a09f", func := "betatron/betatronlaw38.TransactionExplore", spec := "transactionExplore", unfollowed := true, recurses := true, apart := false }
def TransactionExploreSaid : Prop := transactionExploreRow.holds Try.pinned (OpenSpec.ofChange transactionExploreSpec)

/-- ITS FALSE NEIGHBOUR: 'it returns false'. Refute it at one input. -/
def transactionExploreWrong : ChangeSpec := { name := "transactionExplore", fn := fun _ => fun
  | [d] => { results := [.lit (.bool false)], args := [d] }
  | _ => none }
def TransactionExploreWrongFalsely : Prop := transactionExploreRow.holds Try.pinned (OpenSpec.ofChange transactionExploreWrong)

/-- 'betatronlaw38.TransactionSets': WHATEVER THE INPUT: true; the input reads as it did. -/
def transactionSetsSpec : ChangeSpec := { name := "transactionSets", fn := fun _ => fun
  | [d1, d2, d3] => { results := [.lit (.bool true)], args := [d1, d2, d3] }
  | _ => none }
def transactionSetsRow : OpenClaim := { program := "ytjkdcbkgfjdoeaa", sum := "1689f1b5b670d6d7e2dc0213c5b3a03742014ed3f44650900336f9f9a6d6a09f", func := "betatron/betatronlaw38.TransactionSets", spec := "transactionSets", unfollowed := true, recurses := true, apart := false }
def TransactionSetsSaid : Prop := transactionSetsRow.holds Try.pinned (OpenSpec.ofChange transactionSetsSpec)

/-- ITS FALSE NEIGHBOUR: 'it returns false'. Refute it at one input. -/
def transactionSetsWrong : ChangeSpec := { name := "transactionSets", fn := fun _ => fun
  | [d1, d2, d3] => { results := [.lit (.bool false)], args := [d1, d2, d3] }
  | _ => none }
def TransactionSetsWrongFalsely : Prop := transactionSetsRow.holds Try.pinned (OpenSpec.ofChange transactionSetsWrong)

/-- 'betatronlaw38.TransactionSafe': WHATEVER THE INPUT: true; the input reads as it did. -/
def transactionSafeSpec : ChangeSpec := { name := "transactionSafe", fn := fun _ => fun
  | [d1, d2] => { results := [.lit (.bool true)], args := [d1, d2] }
  | _ => none }
def transactionSafeRow : OpenClaim := { program := "ytjkdcbkgfjdoeaa", sum := "1689f1b5b670d6d7e2dc0213c5b3a03742014ed3f44650900336f9f9a6d6a09f", func := "betatron/betatronlaw38.TransactionSafe", spec := "transactionSafe", unfollowed := true, recurses := true, apart := false }
def TransactionSafeSaid : Prop := transactionSafeRow.holds Try.pinned (OpenSpec.ofChange transactionSafeSpec)

/-- ITS FALSE NEIGHBOUR: 'it returns false'. Refute it at one input. -/
def transactionSafeWrong : ChangeSpec := { name := "transactionSafe", fn := fun _ => fun
  | [d1, d2] => { results := [.lit (.bool false)], args := [d1, d2] }
  | _ => none }
def TransactionSafeWrongFalsely : Prop := transactionSafeRow.holds Try.pinned (OpenSpec.ofChange transactionSafeWrong)

/-- 'betatronlaw38.TransactionReached': WHATEVER THE INPUT: true; the input reads as it did. -/
def transactionReachedSpec : ChangeSpec := { name := "transactionReached", fn := fun _ => fun
  | [d1, d2] => { results := [.lit (.bool true)], args := [d1, d2] }
  | _ => none }
def transactionReachedRow : OpenClaim := { program := "ytjkdcbkgfjdoeaa", sum := "1689f1b5b670d6d7e2dc0213c5b3a03742014ed3f44650900336f9f9a6d6a09f", func := "betatron/betatronlaw38.TransactionReached", spec := "transactionReached", unfollowed := true, recurses := true, apart := false }
def TransactionReachedSaid : Prop := transactionReachedRow.holds Try.pinned (OpenSpec.ofChange transactionReachedSpec)

/-- ITS FALSE NEIGHBOUR: 'it returns false'. Refute it at one input. -/
def transactionReachedWrong : ChangeSpec := { name := "transactionReached", fn := fun _ => fun
  | [d1, d2] => { results := [.lit (.bool false)], args := [d1, d2] }
  | _ => none }
def TransactionReachedWrongFalsely : Prop := transactionReachedRow.holds Try.pinned (OpenSpec.ofChange transactionReachedWrong)

/- THE SECOND FORM. 'bulk': how many values and letters a reading holds, each counted each time it is reached (what is shared counts as often as it is met; a slice's spare places count too). A statement '..UptoSaid' is the law's where the arguments, and the package variables that the reading takes, are together of bulk at most 1048576: NARROWER than '..Said'. Prove '..Said' where nothing that the law and all that it calls make is longer than what came in: it says more and counts as full. Else prove '..UptoSaid'. A law counts once. -/
mutual
def uptoBulk {H : Type} : DataW H → Nat
  | .lit (.string bytes) => bytes.length + 1
  | .lit _ => 1
  | .nil => 1
  | .ptr d => uptoBulk d + 1
  | .slice elems spare => uptoBulkAll elems + uptoBulkAll spare + 1
  | .agg parts => uptoBulkAll parts + 1
  | .iface _ d => uptoBulk d + 1
  | .map entries => uptoBulkEntries entries + 1
  | .held _ => 1
def uptoBulkAll {H : Type} : List (DataW H) → Nat
  | [] => 0
  | d :: r => uptoBulk d + uptoBulkAll r
def uptoBulkEntries {H : Type} : List (Lit × DataW H) → Nat
  | [] => 0
  | x :: r => uptoBulkEntry x + uptoBulkEntries r
def uptoBulkEntry {H : Type} : Lit × DataW H → Nat
  | (.string bytes, d) => bytes.length + uptoBulk d + 1
  | (_, d) => uptoBulk d + 1
 end
def uptoSmall : (H : Type) → List (DataW H) → Bool := fun _ ds => decide (uptoBulkAll ds ≤ 1048576)
def OpenSpec.upto (s : _root_.Go.ChangeSpec) : _root_.Go.OpenSpec := { _root_.Go.OpenSpec.ofChange s with cond := some uptoSmall }

/-- 'betatronlaw38.TransactionSteps', WHERE WHAT IT READS IS OF BULK AT MOST 1048576: true; the input reads as it did. -/
def transactionStepsUptoRow : OpenClaim := { program := "ytjkdcbkgfjdoeaa", sum := "1689f1b5b670d6d7e2dc0213c5b3a03742014ed3f44650900336f9f9a6d6a09f", func := "betatron/betatronlaw38.TransactionSteps", spec := "transactionSteps", unfollowed := true, recurses := true, apart := false, narrowed := true }
def TransactionStepsUptoSaid : Prop := transactionStepsUptoRow.holds Try.pinned (OpenSpec.upto transactionStepsSpec)

/-- 'betatronlaw38.TransactionDo', WHERE WHAT IT READS IS OF BULK AT MOST 1048576: true; the input reads as it did. -/
def transactionDoUptoRow : OpenClaim := { program := "ytjkdcbkgfjdoeaa", sum := "1689f1b5b670d6d7e2dc0213c5b3a03742014ed3f44650900336f9f9a6d6a09f", func := "betatron/betatronlaw38.TransactionDo", spec := "transactionDo", unfollowed := true, recurses := true, apart := false, narrowed := true }
def TransactionDoUptoSaid : Prop := transactionDoUptoRow.holds Try.pinned (OpenSpec.upto transactionDoSpec)

/-- 'betatronlaw38.TransactionEach', WHERE WHAT IT READS IS OF BULK AT MOST 1048576: true; the input reads as it did. -/
def transactionEachUptoRow : OpenClaim := { program := "ytjkdcbkgfjdoeaa", sum := "1689f1b5b670d6d7e2dc0213c5b3a03742014ed3f44650900336f9f9a6d6a09f", func := "betatron/betatronlaw38.TransactionEach", spec := "transactionEach", unfollowed := true, recurses := true, apart := false, narrowed := true }
def TransactionEachUptoSaid : Prop := transactionEachUptoRow.holds Try.pinned (OpenSpec.upto transactionEachSpec)

/-- 'betatronlaw38.TransactionNumber', WHERE WHAT IT READS IS OF BULK AT MOST 1048576: true; the input reads as it did. -/
def transactionNumberUptoRow : OpenClaim := { program := "ytjkdcbkgfjdoeaa", sum := "1689f1b5b670d6d7e2dc0213c5b3a03742014ed3f44650900336f9f9a6d6a09f", func := "betatron/betatronlaw38.TransactionNumber", spec := "transactionNumber", unfollowed := true, recurses := true, apart := false, narrowed := true }
def TransactionNumberUptoSaid : Prop := transactionNumberUptoRow.holds Try.pinned (OpenSpec.upto transactionNumberSpec)

/-- 'betatronlaw38.TransactionRun', WHERE WHAT IT READS IS OF BULK AT MOST 1048576: true; the input reads as it did. -/
def transactionRunUptoRow : OpenClaim := { program := "ytjkdcbkgfjdoeaa", sum := "1689f1b5b670d6d7e2dc0213c5b3a03742014ed3f44650900336f9f9a6d6a09f", func := "betatron/betatronlaw38.TransactionRun", spec := "transactionRun", unfollowed := true, recurses := true, apart := false, narrowed := true }
def TransactionRunUptoSaid : Prop := transactionRunUptoRow.holds Try.pinned (OpenSpec.upto transactionRunSpec)

/-- 'betatronlaw38.TransactionExplore', WHERE WHAT IT READS IS OF BULK AT MOST 1048576: true; the input reads as it did. -/
def transactionExploreUptoRow : OpenClaim := { program := "ytjkdcbkgfjdoeaa", sum := "1689f1b5b670d6d7e2dc0213c5b3a03742014ed3f44650900336f9f9a6d6a09f", func := "betatron/betatronlaw38.TransactionExplore", spec := "transactionExplore", unfollowed := true, recurses := true, apart := false, narrowed := true }
def TransactionExploreUptoSaid : Prop := transactionExploreUptoRow.holds Try.pinned (OpenSpec.upto transactionExploreSpec)

/-- 'betatronlaw38.TransactionSets', WHERE WHAT IT READS IS OF BULK AT MOST 1048576: true; the input reads as it did. -/
def transactionSetsUptoRow : OpenClaim := { program := "ytjkdcbkgfjdoeaa", sum := "1689f1b5b670d6d7e2dc0213c5b3a03742014ed3f44650900336f9f9a6d6a09f", func := "betatron/betatronlaw38.TransactionSets", spec := "transactionSets", unfollowed := true, recurses := true, apart := false, narrowed := true }
def TransactionSetsUptoSaid : Prop := transactionSetsUptoRow.holds Try.pinned (OpenSpec.upto transactionSetsSpec)

/-- 'betatronlaw38.TransactionSafe', WHERE WHAT IT READS IS OF BULK AT MOST 1048576: true; the input reads as it did. -/
def transactionSafeUptoRow : OpenClaim := { program := "ytjkdcbkgfjdoeaa", sum := "1689f1b5b670d6d7e2dc0213c5b3a03742014ed3f44650900336f9f9a6d6a09f", func := "betatron/betatronlaw38.TransactionSafe", spec := "transactionSafe", unfollowed := true, recurses := true, apart := false, narrowed := true }
def TransactionSafeUptoSaid : Prop := transactionSafeUptoRow.holds Try.pinned (OpenSpec.upto transactionSafeSpec)

/-- 'betatronlaw38.TransactionReached', WHERE WHAT IT READS IS OF BULK AT MOST 1048576: true; the input reads as it did. -/
def transactionReachedUptoRow : OpenClaim := { program := "ytjkdcbkgfjdoeaa", sum := "1689f1b5b670d6d7e2dc0213c5b3a03742014ed3f44650900336f9f9a6d6a09f", func := "betatron/betatronlaw38.TransactionReached", spec := "transactionReached", unfollowed := true, recurses := true, apart := false, narrowed := true }
def TransactionReachedUptoSaid : Prop := transactionReachedUptoRow.holds Try.pinned (OpenSpec.upto transactionReachedSpec)

end Rows
end Go.Proofs.Ytjkdcbkgfjdoeaa
