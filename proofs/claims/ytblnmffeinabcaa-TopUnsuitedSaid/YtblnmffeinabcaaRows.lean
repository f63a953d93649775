/-
  No cell of these rows narrows 'for every input' (looked for: loops, veiled, ifaces, maps, wideKeys, modest, calm, conditions, laid).
  DERIVED. THE GIVEN ROWS OF THIS SEAT. 3 by the template 'for every input the law returns true; each argument reads behind the call as it read before'; 0 by the template 'total and deterministic' (their statements: YtblnmffeinabcaaTotals.lean).
  GIVEN WITH THE SEED: the statements are not yours to turn. If you find one false, say at which input.
  Laid BY PROGRAM, IN A SANDBOX (cutbox-rows.mjs): the forced cells as the released guide's own fill.sh prints them over the translation ed2d96af4a162067… (all of the seat's roots in one cut). By AI agents, Wed Nov 11 2026. No macro, syntax, notation, axiom, sorry.
-/
import Derived.Test.YtblnmffeinabcaaChecked
import GoSem.Claim
import GoSem.ClaimJoined
import GoSem.ClaimMapViews
import Derived.JoinedTies
import Derived.KernelRfl
namespace Go.Proofs.Ytblnmffeinabcaa
/- THE CELL 'sum', in the pinned program and in every row, IS THE sha256 OF THE DUMP (.gsa) THAT YtblnmffeinabcaaProg.lean LOADS. Nothing in Lean hashes anything: it is a label: what it is worth is what the hold of that sum in a sandbox is worth. -/
noncomputable def Try.pinned : Pinned := { name := "ytblnmffeinabcaa", sum := "ed2d96af4a16206798136e5f54a85f9f17d45aedcaa8adf528b3f4389434369b", checked := Try.checked }
namespace Rows
def none {H : Type} : Left H := { results := [], args := [] }

/-- 'betatrontop.TopOneField': WHATEVER THE INPUT: true; the input reads as it did. -/
def topOneFieldSpec : ChangeSpec := { name := "topOneField", fn := fun _ => fun
  | [d1, d2, d3] => { results := [.lit (.bool true)], args := [d1, d2, d3] }
  | _ => none }
def topOneFieldRow : OpenClaim := { program := "ytblnmffeinabcaa", sum := "ed2d96af4a16206798136e5f54a85f9f17d45aedcaa8adf528b3f4389434369b", func := "betatron/betatrontop.TopOneField", spec := "topOneField", unfollowed := true, recurses := true, apart := false }
def TopOneFieldSaid : Prop := topOneFieldRow.holds Try.pinned (OpenSpec.ofChange topOneFieldSpec)

/-- ITS FALSE NEIGHBOUR: 'it returns false'. Refute it at one input. -/
def topOneFieldWrong : ChangeSpec := { name := "topOneField", fn := fun _ => fun
  | [d1, d2, d3] => { results := [.lit (.bool false)], args := [d1, d2, d3] }
  | _ => none }
def TopOneFieldWrongFalsely : Prop := topOneFieldRow.holds Try.pinned (OpenSpec.ofChange topOneFieldWrong)

/-- 'betatrontop.TopUnsuited': WHATEVER THE INPUT: true; the input reads as it did. -/
def topUnsuitedSpec : ChangeSpec := { name := "topUnsuited", fn := fun _ => fun
  | [d1, d2] => { results := [.lit (.bool true)], args := [d1, d2] }
  | _ => none }
def topUnsuitedRow : OpenClaim := { program := "ytblnmffeinabcaa", sum := "ed2d96af4a16206798136e5f54a85f9f17d45aedcaa8adf528b3f4389434369b", func := "betatron/betatrontop.TopUnsuited", spec := "topUnsuited", unfollowed := true, recurses := true, apart := false }
def TopUnsuitedSaid : Prop := topUnsuitedRow.holds Try.pinned (OpenSpec.ofChange topUnsuitedSpec)

/-- ITS FALSE NEIGHBOUR: 'it returns false'. Refute it at one input. -/
def topUnsuitedWrong : ChangeSpec := { name := "topUnsuited", fn := fun _ => fun
  | [d1, d2] => { results := [.lit (.bool false)], args := [d1, d2] }
  | _ => none }
def TopUnsuitedWrongFalsely : Prop := topUnsuitedRow.holds Try.pinned (OpenSpec.ofChange topUnsuitedWrong)

/-- 'betatrontop.TopBranch': WHATEVER THE INPUT: true; the input reads as it did. -/
def topBranchSpec : ChangeSpec := { name := "topBranch", fn := fun _ => fun
  | [d1, d2, d3] => { results := [.lit (.bool true)], args := [d1, d2, d3] }
  | _ => none }
def topBranchRow : OpenClaim := { program := "ytblnmffeinabcaa", sum := "ed2d96af4a16206798136e5f54a85f9f17d45aedcaa8adf528b3f4389434369b", func := "betatron/betatrontop.TopBranch", spec := "topBranch", unfollowed := true, recurses := true, apart := false }
def TopBranchSaid : Prop := topBranchRow.holds Try.pinned (OpenSpec.ofChange topBranchSpec)

/-- ITS FALSE NEIGHBOUR: 'it returns false'. Refute it at one input. -/
def topBranchWrong : ChangeSpec := { name := "topBranch", fn := fun _ => fun
  | [d1, d2, d3] => { results := [.lit (.bool false)], args := [d1, d2, d3] }
  | _ => none }
def TopBranchWrongFalsely : Prop := topBranchRow.holds Try.pinned (OpenSpec.ofChange topBranchWrong)

/- THE SECOND FORM. 'bulk': how many values and letters a reading holds, each counted each time it is reached (what is shared counts as often as it is met; a slice's spare places count too). A statement '..UptoSaid' is the law's where the arguments, and the package variables that the reading takes, are together of bulk at most 1048576: NARROWER than '..Said'. Prove '..Said' where nothing that the law and all that it calls make is longer than what came in: it says more and counts as full. Else prove '..UptoSaid'. A law counts once. -/
mutual
def uptoBulk {H : Type} : DataW H → Nat
  | .lit (.string bytes) => bytes.length + 1
  | .lit _ => 1
  | .nil => 1
  | .ptr d => uptoBulk d + 1
  | .slice elems spare => uptoBulkAll elems + uptoBulkAll spare + 1
  | .agg parts => uptoBulkAll parts + 1
  | .iface _ d => uptoBulk d + 1
  | .map entries => uptoBulkEntries entries + 1
  | .held _ => 1
def uptoBulkAll {H : Type} : List (DataW H) → Nat
  | [] => 0
  | d :: r => uptoBulk d + uptoBulkAll r
def uptoBulkEntries {H : Type} : List (Lit × DataW H) → Nat
  | [] => 0
  | x :: r => uptoBulkEntry x + uptoBulkEntries r
def uptoBulkEntry {H : Type} : Lit × DataW H → Nat
  | (.string bytes, d) => bytes.length + uptoBulk d + 1
  | (_, d) => uptoBulk d + 1
 end
def uptoSmall : (H : Type) → List (DataW H) → Bool := fun _ ds => decide (uptoBulkAll ds ≤ 1048576)
def OpenSpec.upto (s : _root_.Go.ChangeSpec) : _root_.Go.OpenSpec := { _root_.Go.OpenSpec.ofChange s with cond := some uptoSmall }

/-- 'betatrontop.TopOneField', WHERE WHAT IT READS IS OF BULK AT MOST 1048576: true; the input reads as it did. -/
def topOneFieldUptoRow : OpenClaim := { program := "ytblnmffeinabcaa", sum := "ed2d96af4a16206798136e5f54a85f9f17d45aedcaa8adf528b3f4389434369b", func := "betatron/betatrontop.TopOneField", spec := "topOneField", unfollowed := true, recurses := true, apart := false, narrowed := true }
def TopOneFieldUptoSaid : Prop := topOneFieldUptoRow.holds Try.pinned (OpenSpec.upto topOneFieldSpec)

/-- 'betatrontop.TopUnsuited', WHERE WHAT IT READS IS OF BULK AT MOST 1048576: true; the input reads as it did. -/
def topUnsuitedUptoRow : OpenClaim := { program := "ytblnmffeinabcaa", sum := "ed2d96af4a16206798136e5f54a85f9f17d45aedcaa8adf528b3f4389434369b", func := "betatron/betatrontop.TopUnsuited", spec := "topUnsuited", unfollowed := true, recurses := true, apart := false, narrowed := true }
def TopUnsuitedUptoSaid : Prop := topUnsuitedUptoRow.holds Try.pinned (OpenSpec.upto topUnsuitedSpec)

/-- 'betatrontop.TopBranch', WHERE WHAT IT READS IS OF BULK AT MOST 1048576: true; the input reads as it did. -/
def topBranchUptoRow : OpenClaim := { program := "ytblnmffeinabcaa", sum := "ed2d96af4a16206798136e5f54a85f9f17d45aedcaa8adf528b3f4389434369b", func := "betatron/betatrontop.TopBranch", spec := "topBranch", unfollowed := true, recurses := true, apart := false, narrowed := true }
def TopBranchUptoSaid : Prop := topBranchUptoRow.holds Try.pinned (OpenSpec.upto topBranchSpec)

end Rows
end Go.Proofs.Ytblnmffeinabcaa
