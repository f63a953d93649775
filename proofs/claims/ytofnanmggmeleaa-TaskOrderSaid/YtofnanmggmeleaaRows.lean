/-
  No cell of these rows narrows 'for every input' (looked for: loops, veiled, ifaces, maps, wideKeys, modest, calm, conditions, laid).
  DERIVED. THE GIVEN ROWS OF THIS SEAT. 9 by the template 'for every input the law returns true; each argument reads behind the call as it read before'; 0 by the template 'total and deterministic' (their statements: YtofnanmggmeleaaTotals.lean).
  GIVEN WITH THE SEED: the statements are not yours to turn. If you find one false, say at which input.
  Laid BY PROGRAM, IN A SANDBOX (cutbox-rows.mjs): the forced cells as the released guide's own fill.sh prints them over the translation 928d4f8dd7104e01… (all of the seat's roots in one cut). By AI agents, Wed Nov 11 2026. No macro, syntax, notation, axiom, sorry.
-/
import Derived.Test.YtofnanmggmeleaaChecked
import GoSem.Claim
import GoSem.ClaimJoined
import GoSem.ClaimMapViews
import Derived.JoinedTies
import Derived.KernelRfl
namespace Go.Proofs.Ytofnanmggmeleaa
/- THE CELL 'sum', in the pinned program and in every row, IS THE sha256 OF THE DUMP (.gsa) THAT YtofnanmggmeleaaProg.lean LOADS. Nothing in Lean hashes anything: it is a label: what it is worth is what the hold of that sum in a sandbox is worth. -/
noncomputable def Try.pinned : Pinned := { name := "ytofnanmggmeleaa", sum := "928d4f8dd7104e01e529d2e9c6cd9329e8f54d0e2e8c807248089fbe48a183af", checked := Try.checked }
namespace Rows
def none {H : Type} : Left H := { results := [], args := [] }

/-- 'betatronlaw36.TaskResponse': WHATEVER THE INPUT: true; the input reads as it did. -/
def taskResponseSpec : ChangeSpec := { name := "taskResponse", fn := fun _ => fun
  | [d1, d2] => { results := [.lit (.bool true)], args := [d1, d2] }
  | _ => none }
def taskResponseRow : OpenClaim := { program := "ytofnanmggmeleaa", sum := "928d4f8dd7104e01e529d2e9c6cd9329e8f54d0e2e8c807248089fbe48a183af", func := "betatron/betatronlaw36.TaskResponse", spec := "taskResponse", unfollowed := true, recurses := true, apart := false }
def TaskResponseSaid : Prop := taskResponseRow.holds Try.pinned (OpenSpec.ofChange taskResponseSpec)

/-- ITS FALSE NEIGHBOUR: 'it returns false'. Refute it at one input. -/
def taskResponseWrong : ChangeSpec := { name := "taskResponse", fn := fun _ => fun
  | [d1, d2] => { results := [.lit (.bool false)], args := [d1, d2] }
  | _ => none }
def TaskResponseWrongFalsely : Prop := taskResponseRow.holds Try.pinned (OpenSpec.ofChange taskResponseWrong)

/-- 'betatronlaw36.TaskCheck': WHATEVER THE INPUT: true; the input reads as it did. -/
def taskCheckSpec : ChangeSpec := { name := "taskCheck", fn := fun _ => fun
  | [d1, d2, d3] => { results := [.lit (.bool true)], args := [d1, d2, d3] }
  | _ => none }
def taskCheckRow : OpenClaim := { program := "ytofnanmggmeleaa", sum := "928d4f8dd7104e01e529d2e9c6cd9329e8f54d0e2e8c807248089fbe48a183af", func := "betatron/betatronlaw36.TaskCheck", spec := "taskCheck", unfollowed := true, recurses := true, apart := false }
def TaskCheckSaid : Prop := taskCheckRow.holds Try.pinned (OpenSpec.ofChange taskCheckSpec)

/-- ITS FALSE NEIGHBOUR: 'it returns false'. Refute it at one input. -/
def taskCheckWrong : ChangeSpec := { name := "taskCheck", fn := fun _ => fun
  | [d1, d2, d3] => { results := [.lit (.bool false)], args := [d1, d2, d3] }
  | _ => none }
def TaskCheckWrongFalsely : Prop := taskCheckRow.holds Try.pinned (OpenSpec.ofChange taskCheckWrong)

/-- 'betatronlaw36.TaskSimulate': WHATEVER THE INPUT: true; the input reads as it did. -/
def taskSimulateSpec : ChangeSpec := { name := "taskSimulate", fn := fun _ => fun
  | [d1, d2, d3] => { results := [.lit (.bool true)], args := [d1, d2, d3] }
  | _ => none }
def taskSimulateRow : OpenClaim := { program := "ytofnanmggmeleaa", sum := "928d4f8dd7104e01e529d2e9c6cd9329e8f54d0e2e8c807248089fbe48a183af", func := "betatron/betatronlaw36.TaskSimulate", spec := "taskSimulate", unfollowed := true, recurses := true, apart := false }
def TaskSimulateSaid : Prop := taskSimulateRow.holds Try.pinned (OpenSpec.ofChange taskSimulateSpec)

/-- ITS FALSE NEIGHBOUR: 'it returns false'. Refute it at one input. -/
def taskSimulateWrong : ChangeSpec := { name := "taskSimulate", fn := fun _ => fun
  | [d1, d2, d3] => { results := [.lit (.bool false)], args := [d1, d2, d3] }
  | _ => none }
def TaskSimulateWrongFalsely : Prop := taskSimulateRow.holds Try.pinned (OpenSpec.ofChange taskSimulateWrong)

/-- 'betatronlaw36.TaskBound': WHATEVER THE INPUT: true; the input reads as it did. -/
def taskBoundSpec : ChangeSpec := { name := "taskBound", fn := fun _ => fun
  | [d1, d2, d3] => { results := [.lit (.bool true)], args := [d1, d2, d3] }
  | _ => none }
def taskBoundRow : OpenClaim := { program := "ytofnanmggmeleaa", sum := "928d4f8dd7104e01e529d2e9c6cd9329e8f54d0e2e8c807248089fbe48a183af", func := "betatron/betatronlaw36.TaskBound", spec := "taskBound", unfollowed := true, recurses := true, apart := false }
def TaskBoundSaid : Prop := taskBoundRow.holds Try.pinned (OpenSpec.ofChange taskBoundSpec)

/-- ITS FALSE NEIGHBOUR: 'it returns false'. Refute it at one input. -/
def taskBoundWrong : ChangeSpec := { name := "taskBound", fn := fun _ => fun
  | [d1, d2, d3] => { results := [.lit (.bool false)], args := [d1, d2, d3] }
  | _ => none }
def TaskBoundWrongFalsely : Prop := taskBoundRow.holds Try.pinned (OpenSpec.ofChange taskBoundWrong)

/-- 'betatronlaw36.TaskCritical': WHATEVER THE INPUT: true; the input reads as it did. -/
def taskCriticalSpec : ChangeSpec := { name := "taskCritical", fn := fun _ => fun
  | [d] => { results := [.lit (.bool true)], args := [d] }
  | _ => none }
def taskCriticalRow : OpenClaim := { program := "ytofnanmggmeleaa", sum := "928d4f8dd7104e01e529d2e9c6cd9329e8f54d0e2e8c807248089fbe48a183af", func := "betatron/betatronlaw36.TaskCritical", spec := "taskCritical", unfollowed := true, recurses := true, apart := false }
def TaskCriticalSaid : Prop := taskCriticalRow.holds Try.pinned (OpenSpec.ofChange taskCriticalSpec)

/-- ITS FALSE NEIGHBOUR: 'it returns false'. Refute it at one input. -/
def taskCriticalWrong : ChangeSpec := { name := "taskCritical", fn := fun _ => fun
  | [d] => { results := [.lit (.bool false)], args := [d] }
  | _ => none }
def TaskCriticalWrongFalsely : Prop := taskCriticalRow.holds Try.pinned (OpenSpec.ofChange taskCriticalWrong)

/-- 'betatronlaw36.TaskOrder': WHATEVER THE INPUT: true; the input reads as it did. -/
def taskOrderSpec : ChangeSpec := { name := "taskOrder", fn := fun _ => fun
  | [d] => { results := [.lit (.bool true)], args := [d] }
  | _ => none }
def taskOrderRow : OpenClaim := { program := "ytofnanmggmeleaa", sum := "928d4f8dd7104e01e529d2e9c6cd9329e8f54d0e2e8c807248089fbe48a183af", func := "betatron/betatronlaw36.TaskOrder", spec := "taskOrder", unfollowed := true, recurses := true, apart := false }
def TaskOrderSaid : Prop := taskOrderRow.holds Try.pinned (OpenSpec.ofChange taskOrderSpec)

/-- ITS FALSE NEIGHBOUR: 'it returns false'. Refute it at one input. -/
def taskOrderWrong : ChangeSpec := { name := "taskOrder", fn := fun _ => fun
  | [d] => { results := [.lit (.bool false)], args := [d] }
  | _ => none }
def TaskOrderWrongFalsely : Prop := taskOrderRow.holds Try.pinned (OpenSpec.ofChange taskOrderWrong)

/-- 'betatronlaw36.TaskOptimal': WHATEVER THE INPUT: true; the input reads as it did. -/
def taskOptimalSpec : ChangeSpec := { name := "taskOptimal", fn := fun _ => fun
  | [d1, d2] => { results := [.lit (.bool true)], args := [d1, d2] }
  | _ => none }
def taskOptimalRow : OpenClaim := { program := "ytofnanmggmeleaa", sum := "928d4f8dd7104e01e529d2e9c6cd9329e8f54d0e2e8c807248089fbe48a183af", func := "betatron/betatronlaw36.TaskOptimal", spec := "taskOptimal", unfollowed := true, recurses := true, apart := false }
def TaskOptimalSaid : Prop := taskOptimalRow.holds Try.pinned (OpenSpec.ofChange taskOptimalSpec)

/-- ITS FALSE NEIGHBOUR: 'it returns false'. Refute it at one input. -/
def taskOptimalWrong : ChangeSpec := { name := "taskOptimal", fn := fun _ => fun
  | [d1, d2] => { results := [.lit (.bool false)], args := [d1, d2] }
  | _ => none }
def TaskOptimalWrongFalsely : Prop := taskOptimalRow.holds Try.pinned (OpenSpec.ofChange taskOptimalWrong)

/-- 'betatronlaw36.TaskSlack': WHATEVER THE INPUT: true; the input reads as it did. -/
def taskSlackSpec : ChangeSpec := { name := "taskSlack", fn := fun _ => fun
  | [d1, d2] => { results := [.lit (.bool true)], args := [d1, d2] }
  | _ => none }
def taskSlackRow : OpenClaim := { program := "ytofnanmggmeleaa", sum := "928d4f8dd7104e01e529d2e9c6cd9329e8f54d0e2e8c807248089fbe48a183af", func := "betatron/betatronlaw36.TaskSlack", spec := "taskSlack", unfollowed := true, recurses := true, apart := false }
def TaskSlackSaid : Prop := taskSlackRow.holds Try.pinned (OpenSpec.ofChange taskSlackSpec)

/-- ITS FALSE NEIGHBOUR: 'it returns false'. Refute it at one input. -/
def taskSlackWrong : ChangeSpec := { name := "taskSlack", fn := fun _ => fun
  | [d1, d2] => { results := [.lit (.bool false)], args := [d1, d2] }
  | _ => none }
def TaskSlackWrongFalsely : Prop := taskSlackRow.holds Try.pinned (OpenSpec.ofChange taskSlackWrong)

/-- 'betatronlaw36.TaskUnits': WHATEVER THE INPUT: true; the input reads as it did. -/
def taskUnitsSpec : ChangeSpec := { name := "taskUnits", fn := fun _ => fun
  | [d1, d2, d3] => { results := [.lit (.bool true)], args := [d1, d2, d3] }
  | _ => none }
def taskUnitsRow : OpenClaim := { program := "ytofnanmggmeleaa", sum := "928d4f8dd7104e01e529d2e9c6cd9329e8f54d0e2e8c807248089fbe48a183af", func := "betatron/betatronlaw36.TaskUnits", spec := "taskUnits", unfollowed := true, recurses := true, apart := false }
def TaskUnitsSaid : Prop := taskUnitsRow.holds Try.pinned (OpenSpec.ofChange taskUnitsSpec)

/-- ITS FALSE NEIGHBOUR: 'it returns false'. Refute it at one input. -/
def taskUnitsWrong : ChangeSpec := { name := "taskUnits", fn := fun _ => fun
  | [d1, d2, d3] => { results := [.lit (.bool false)], args := [d1, d2, d3] }
  | _ => none }
def TaskUnitsWrongFalsely : Prop := taskUnitsRow.holds Try.pinned (OpenSpec.ofChange taskUnitsWrong)

/- THE SECOND FORM. 'bulk': how many values and letters a reading holds, each counted each time it is reached (what is shared counts as often as it is met; a slice's spare places count too). A statement '..UptoSaid' is the law's where the arguments, and the package variables that the reading takes, are together of bulk at most 1048576: NARROWER than '..Said'. Prove '..Said' where nothing that the law and all that it calls make is longer than what came in: it says more and counts as full. Else prove '..UptoSaid'. A law counts once. -/
mutual
def uptoBulk {H : Type} : DataW H → Nat
  | .lit (.string bytes) => bytes.length + 1
  | .lit _ => 1
  | .nil => 1
  | .ptr d => uptoBulk d + 1
  | .slice elems spare => uptoBulkAll elems + uptoBulkAll spare + 1
  | .agg parts => uptoBulkAll parts + 1
  | .iface _ d => uptoBulk d + 1
  | .map entries => uptoBulkEntries entries + 1
  | .held _ => 1
def uptoBulkAll {H : Type} : List (DataW H) → Nat
  | [] => 0
  | d :: r => uptoBulk d + uptoBulkAll r
def uptoBulkEntries {H : Type} : List (Lit × DataW H) → Nat
  | [] => 0
  | x :: r => uptoBulkEntry x + uptoBulkEntries r
def uptoBulkEntry {H : Type} : Lit × DataW H → Nat
  | (.string bytes, d) => bytes.length + uptoBulk d + 1
  | (_, d) => uptoBulk d + 1
 end
def uptoSmall : (H : Type) → List (DataW H) → Bool := fun _ ds => decide (uptoBulkAll ds ≤ 1048576)
def OpenSpec.upto (s : _root_.Go.ChangeSpec) : _root_.Go.OpenSpec := { _root_.Go.OpenSpec.ofChange s with cond := some uptoSmall }

/-- 'betatronlaw36.TaskResponse', WHERE WHAT IT READS IS OF BULK AT MOST 1048576: true; the input reads as it did. -/
def taskResponseUptoRow : OpenClaim := { program := "ytofnanmggmeleaa", sum := "928d4f8dd7104e01e529d2e9c6cd9329e8f54d0e2e8c807248089fbe48a183af", func := "betatron/betatronlaw36.TaskResponse", spec := "taskResponse", unfollowed := true, recurses := true, apart := false, narrowed := true }
def TaskResponseUptoSaid : Prop := taskResponseUptoRow.holds Try.pinned (OpenSpec.upto taskResponseSpec)

/-- 'betatronlaw36.TaskCheck', WHERE WHAT IT READS IS OF BULK AT MOST 1048576: true; the input reads as it did. -/
def taskCheckUptoRow : OpenClaim := { program := "ytofnanmggmeleaa", sum := "928d4f8dd7104e01e529d2e9c6cd9329e8f54d0e2e8c807248089fbe48a183af", func := "betatron/betatronlaw36.TaskCheck", spec := "taskCheck", unfollowed := true, recurses := true, apart := false, narrowed := true }
def TaskCheckUptoSaid : Prop := taskCheckUptoRow.holds Try.pinned (OpenSpec.upto taskCheckSpec)

/-- 'betatronlaw36.TaskSimulate', WHERE WHAT IT READS IS OF BULK AT MOST 1048576: true; the input reads as it did. -/
def taskSimulateUptoRow : OpenClaim := { program := "ytofnanmggmeleaa", sum := "928d4f8dd7104e01e529d2e9c6cd9329e8f54d0e2e8c807248089fbe48a183af", func := "betatron/betatronlaw36.TaskSimulate", spec := "taskSimulate", unfollowed := true, recurses := true, apart := false, narrowed := true }
def TaskSimulateUptoSaid : Prop := taskSimulateUptoRow.holds Try.pinned (OpenSpec.upto taskSimulateSpec)

/-- 'betatronlaw36.TaskBound', WHERE WHAT IT READS IS OF BULK AT MOST 1048576: true; the input reads as it did. -/
def taskBoundUptoRow : OpenClaim := { program := "ytofnanmggmeleaa", sum := "928d4f8dd7104e01e529d2e9c6cd9329e8f54d0e2e8c807248089fbe48a183af", func := "betatron/betatronlaw36.TaskBound", spec := "taskBound", unfollowed := true, recurses := true, apart := false, narrowed := true }
def TaskBoundUptoSaid : Prop := taskBoundUptoRow.holds Try.pinned (OpenSpec.upto taskBoundSpec)

/-- 'betatronlaw36.TaskCritical', WHERE WHAT IT READS IS OF BULK AT MOST 1048576: true; the input reads as it did. -/
def taskCriticalUptoRow : OpenClaim := { program := "ytofnanmggmeleaa", sum := "928d4f8dd7104e01e529d2e9c6cd9329e8f54d0e2e8c807248089fbe48a183af", func := "betatron/betatronlaw36.TaskCritical", spec := "taskCritical", unfollowed := true, recurses := true, apart := false, narrowed := true }
def TaskCriticalUptoSaid : Prop := taskCriticalUptoRow.holds Try.pinned (OpenSpec.upto taskCriticalSpec)

/-- 'betatronlaw36.TaskOrder', WHERE WHAT IT READS IS OF BULK AT MOST 1048576: true; the input reads as it did. -/
def taskOrderUptoRow : OpenClaim := { program := "ytofnanmggmeleaa", sum := "928d4f8dd7104e01e529d2e9c6cd9329e8f54d0e2e8c807248089fbe48a183af", func := "betatron/betatronlaw36.TaskOrder", spec := "taskOrder", unfollowed := true, recurses := true, apart := false, narrowed := true }
def TaskOrderUptoSaid : Prop := taskOrderUptoRow.holds Try.pinned (OpenSpec.upto taskOrderSpec)

/-- 'betatronlaw36.TaskOptimal', WHERE WHAT IT READS IS OF BULK AT MOST 1048576: true; the input reads as it did. -/
def taskOptimalUptoRow : OpenClaim := { program := "ytofnanmggmeleaa", sum := "928d4f8dd7104e01e529d2e9c6cd9329e8f54d0e2e8c807248089fbe48a183af", func := "betatron/betatronlaw36.TaskOptimal", spec := "taskOptimal", unfollowed := true, recurses := true, apart := false, narrowed := true }
def TaskOptimalUptoSaid : Prop := taskOptimalUptoRow.holds Try.pinned (OpenSpec.upto taskOptimalSpec)

/-- 'betatronlaw36.TaskSlack', WHERE WHAT IT READS IS OF BULK AT MOST 1048576: true; the input reads as it did. -/
def taskSlackUptoRow : OpenClaim := { program := "ytofnanmggmeleaa", sum := "928d4f8dd7104e01e529d2e9c6cd9329e8f54d0e2e8c807248089fbe48a183af", func := "betatron/betatronlaw36.TaskSlack", spec := "taskSlack", unfollowed := true, recurses := true, apart := false, narrowed := true }
def TaskSlackUptoSaid : Prop := taskSlackUptoRow.holds Try.pinned (OpenSpec.upto taskSlackSpec)

/-- 'betatronlaw36.TaskUnits', WHERE WHAT IT READS IS OF BULK AT MOST 1048576: true; the input reads as it did. -/
def taskUnitsUptoRow : OpenClaim := { program := "ytofnanmggmeleaa", sum := "928d4f8dd7104e01e529d2e9c6cd9329e8f54d0e2e8c807248089fbe48a183af", func := "betatron/betatronlaw36.TaskUnits", spec := "taskUnits", unfollowed := true, recurses := true, apart := false, narrowed := true }
def TaskUnitsUptoSaid : Prop := taskUnitsUptoRow.holds Try.pinned (OpenSpec.upto taskUnitsSpec)

end Rows
end Go.Proofs.Ytofnanmggmeleaa
