/-
  No cell of these rows narrows 'for every input' (looked for: loops, veiled, ifaces, maps, wideKeys, modest, calm, conditions, laid).
  DERIVED. THE GIVEN ROWS OF THIS SEAT. 6 by the template 'for every input the law returns true; each argument reads behind the call as it read before'; 0 by the template 'total and deterministic' (their statements: YtamccaclkkgkbaaTotals.lean).
  GIVEN WITH THE SEED: the statements are not yours to turn. If you find one false, say at which input.
  Laid BY PROGRAM, IN A SANDBOX (cutbox-rows.mjs): the forced cells as the released guide's own fill.sh prints them over the translation 563fbe1f0b2e03db… (all of the seat's roots in one cut). By AI agents, Wed Nov 11 2026. No macro, syntax, notation, axiom, sorry.
-/
import Derived.Test.YtamccaclkkgkbaaChecked
import GoSem.Claim
import GoSem.ClaimJoined
import GoSem.ClaimMapViews
import Derived.JoinedTies
import Derived.KernelRfl
namespace Go.Proofs.Ytamccaclkkgkbaa
/- THE CELL 'sum', in the pinned program and in every row, IS THE sha256 OF THE DUMP (.gsa) THAT YtamccaclkkgkbaaProg.lean LOADS. Nothing in Lean hashes anything: it is a label: what it is worth is what the hold of that sum in a sandbox is worth. -/
noncomputable def Try.pinned : Pinned := { name := "ytamccaclkkgkbaa", sum := "563fbe1f0b2e03dbb58468bfd11c341e2e9cbf28ffffc0c46ca02ba5a6e6f193", checked := Try.checked }
namespace Rows
def none {H : Type} : Left H := { results := [], args := [] }

/-- 'betatronlaw33.SupercycleCheck': WHATEVER THE INPUT: true; the input reads as it did. -/
def supercycleCheckSpec : ChangeSpec := { name := "supercycleCheck", fn := fun _ => fun
  | [d1, d2] => { results := [.lit (.bool true)], args := [d1, d2] }
  | _ => none }
def supercycleCheckRow : OpenClaim := { program := "ytamccaclkkgkbaa", sum := "563fbe1f0b2e03dbb58468bfd11c341e2e9cbf28ffffc0c46ca02ba5a6e6f193", func := "betatron/betatronlaw33.SupercycleCheck", spec := "supercycleCheck", unfollowed := true, recurses := true, plainKeys := false, apart := false }
def SupercycleCheckSaid : Prop := supercycleCheckRow.holds Try.pinned (OpenSpec.ofChange supercycleCheckSpec)

/-- ITS FALSE NEIGHBOUR: 'it returns false'. Refute it at one input. -/
def supercycleCheckWrong : ChangeSpec := { name := "supercycleCheck", fn := fun _ => fun
  | [d1, d2] => { results := [.lit (.bool false)], args := [d1, d2] }
  | _ => none }
def SupercycleCheckWrongFalsely : Prop := supercycleCheckRow.holds Try.pinned (OpenSpec.ofChange supercycleCheckWrong)

/-- 'betatronlaw33.SupercyclePlan': WHATEVER THE INPUT: true; the input reads as it did. -/
def supercyclePlanSpec : ChangeSpec := { name := "supercyclePlan", fn := fun _ => fun
  | [d] => { results := [.lit (.bool true)], args := [d] }
  | _ => none }
def supercyclePlanRow : OpenClaim := { program := "ytamccaclkkgkbaa", sum := "563fbe1f0b2e03dbb58468bfd11c341e2e9cbf28ffffc0c46ca02ba5a6e6f193", func := "betatron/betatronlaw33.SupercyclePlan", spec := "supercyclePlan", unfollowed := true, recurses := true, plainKeys := false, apart := false }
def SupercyclePlanSaid : Prop := supercyclePlanRow.holds Try.pinned (OpenSpec.ofChange supercyclePlanSpec)

/-- ITS FALSE NEIGHBOUR: 'it returns false'. Refute it at one input. -/
def supercyclePlanWrong : ChangeSpec := { name := "supercyclePlan", fn := fun _ => fun
  | [d] => { results := [.lit (.bool false)], args := [d] }
  | _ => none }
def SupercyclePlanWrongFalsely : Prop := supercyclePlanRow.holds Try.pinned (OpenSpec.ofChange supercyclePlanWrong)

/-- 'betatronlaw33.SupercycleProves': WHATEVER THE INPUT: true; the input reads as it did. -/
def supercycleProvesSpec : ChangeSpec := { name := "supercycleProves", fn := fun _ => fun
  | [d] => { results := [.lit (.bool true)], args := [d] }
  | _ => none }
def supercycleProvesRow : OpenClaim := { program := "ytamccaclkkgkbaa", sum := "563fbe1f0b2e03dbb58468bfd11c341e2e9cbf28ffffc0c46ca02ba5a6e6f193", func := "betatron/betatronlaw33.SupercycleProves", spec := "supercycleProves", unfollowed := true, recurses := true, plainKeys := false, apart := false }
def SupercycleProvesSaid : Prop := supercycleProvesRow.holds Try.pinned (OpenSpec.ofChange supercycleProvesSpec)

/-- ITS FALSE NEIGHBOUR: 'it returns false'. Refute it at one input. -/
def supercycleProvesWrong : ChangeSpec := { name := "supercycleProves", fn := fun _ => fun
  | [d] => { results := [.lit (.bool false)], args := [d] }
  | _ => none }
def SupercycleProvesWrongFalsely : Prop := supercycleProvesRow.holds Try.pinned (OpenSpec.ofChange supercycleProvesWrong)

/-- 'betatronlaw33.SupercycleProofs': WHATEVER THE INPUT: true; the input reads as it did. -/
def supercycleProofsSpec : ChangeSpec := { name := "supercycleProofs", fn := fun _ => fun
  | [d1, d2, d3] => { results := [.lit (.bool true)], args := [d1, d2, d3] }
  | _ => none }
def supercycleProofsRow : OpenClaim := { program := "ytamccaclkkgkbaa", sum := "563fbe1f0b2e03dbb58468bfd11c341e2e9cbf28ffffc0c46ca02ba5a6e6f193", func := "betatron/betatronlaw33.SupercycleProofs", spec := "supercycleProofs", unfollowed := true, recurses := true, plainKeys := false, apart := false }
def SupercycleProofsSaid : Prop := supercycleProofsRow.holds Try.pinned (OpenSpec.ofChange supercycleProofsSpec)

/-- ITS FALSE NEIGHBOUR: 'it returns false'. Refute it at one input. -/
def supercycleProofsWrong : ChangeSpec := { name := "supercycleProofs", fn := fun _ => fun
  | [d1, d2, d3] => { results := [.lit (.bool false)], args := [d1, d2, d3] }
  | _ => none }
def SupercycleProofsWrongFalsely : Prop := supercycleProofsRow.holds Try.pinned (OpenSpec.ofChange supercycleProofsWrong)

/-- 'betatronlaw33.SupercycleEvents': WHATEVER THE INPUT: true; the input reads as it did. -/
def supercycleEventsSpec : ChangeSpec := { name := "supercycleEvents", fn := fun _ => fun
  | [d1, d2, d3] => { results := [.lit (.bool true)], args := [d1, d2, d3] }
  | _ => none }
def supercycleEventsRow : OpenClaim := { program := "ytamccaclkkgkbaa", sum := "563fbe1f0b2e03dbb58468bfd11c341e2e9cbf28ffffc0c46ca02ba5a6e6f193", func := "betatron/betatronlaw33.SupercycleEvents", spec := "supercycleEvents", unfollowed := true, recurses := true, plainKeys := false, apart := false }
def SupercycleEventsSaid : Prop := supercycleEventsRow.holds Try.pinned (OpenSpec.ofChange supercycleEventsSpec)

/-- ITS FALSE NEIGHBOUR: 'it returns false'. Refute it at one input. -/
def supercycleEventsWrong : ChangeSpec := { name := "supercycleEvents", fn := fun _ => fun
  | [d1, d2, d3] => { results := [.lit (.bool false)], args := [d1, d2, d3] }
  | _ => none }
def SupercycleEventsWrongFalsely : Prop := supercycleEventsRow.holds Try.pinned (OpenSpec.ofChange supercycleEventsWrong)

/-- 'betatronlaw33.SupercycleBest': WHATEVER THE INPUT: true; the input reads as it did. -/
def supercycleBestSpec : ChangeSpec := { name := "supercycleBest", fn := fun _ => fun
  | [d1, d2, d3] => { results := [.lit (.bool true)], args := [d1, d2, d3] }
  | _ => none }
def supercycleBestRow : OpenClaim := { program := "ytamccaclkkgkbaa", sum := "563fbe1f0b2e03dbb58468bfd11c341e2e9cbf28ffffc0c46ca02ba5a6e6f193", func := "betatron/betatronlaw33.SupercycleBest", spec := "supercycleBest", unfollowed := true, recurses := true, plainKeys := false, apart := false }
def SupercycleBestSaid : Prop := supercycleBestRow.holds Try.pinned (OpenSpec.ofChange supercycleBestSpec)

/-- ITS FALSE NEIGHBOUR: 'it returns false'. Refute it at one input. -/
def supercycleBestWrong : ChangeSpec := { name := "supercycleBest", fn := fun _ => fun
  | [d1, d2, d3] => { results := [.lit (.bool false)], args := [d1, d2, d3] }
  | _ => none }
def SupercycleBestWrongFalsely : Prop := supercycleBestRow.holds Try.pinned (OpenSpec.ofChange supercycleBestWrong)

/- THE SECOND FORM. 'bulk': how many values and letters a reading holds, each counted each time it is reached (what is shared counts as often as it is met; a slice's spare places count too). A statement '..UptoSaid' is the law's where the arguments, and the package variables that the reading takes, are together of bulk at most 1048576: NARROWER than '..Said'. Prove '..Said' where nothing that the law and all that it calls make is longer than what came in: it says more and counts as full. Else prove '..UptoSaid'. A law counts once. -/
mutual
def uptoBulk {H : Type} : DataW H → Nat
  | .lit (.string bytes) => bytes.length + 1
  | .lit _ => 1
  | .nil => 1
  | .ptr d => uptoBulk d + 1
  | .slice elems spare => uptoBulkAll elems + uptoBulkAll spare + 1
  | .agg parts => uptoBulkAll parts + 1
  | .iface _ d => uptoBulk d + 1
  | .map entries => uptoBulkEntries entries + 1
  | .held _ => 1
def uptoBulkAll {H : Type} : List (DataW H) → Nat
  | [] => 0
  | d :: r => uptoBulk d + uptoBulkAll r
def uptoBulkEntries {H : Type} : List (Lit × DataW H) → Nat
  | [] => 0
  | x :: r => uptoBulkEntry x + uptoBulkEntries r
def uptoBulkEntry {H : Type} : Lit × DataW H → Nat
  | (.string bytes, d) => bytes.length + uptoBulk d + 1
  | (_, d) => uptoBulk d + 1
 end
def uptoSmall : (H : Type) → List (DataW H) → Bool := fun _ ds => decide (uptoBulkAll ds ≤ 1048576)
def OpenSpec.upto (s : _root_.Go.ChangeSpec) : _root_.Go.OpenSpec := { _root_.Go.OpenSpec.ofChange s with cond := some uptoSmall }

/-- 'betatronlaw33.SupercycleCheck', WHERE WHAT IT READS IS OF BULK AT MOST 1048576: true; the input reads as it did. -/
def supercycleCheckUptoRow : OpenClaim := { program := "ytamccaclkkgkbaa", sum := "563fbe1f0b2e03dbb58468bfd11c341e2e9cbf28ffffc0c46ca02ba5a6e6f193", func := "betatron/betatronlaw33.SupercycleCheck", spec := "supercycleCheck", unfollowed := true, recurses := true, plainKeys := false, apart := false, narrowed := true }
def SupercycleCheckUptoSaid : Prop := supercycleCheckUptoRow.holds Try.pinned (OpenSpec.upto supercycleCheckSpec)

/-- 'betatronlaw33.SupercyclePlan', WHERE WHAT IT READS IS OF BULK AT MOST 1048576: true; the input reads as it did. -/
def supercyclePlanUptoRow : OpenClaim := { program := "ytamccaclkkgkbaa", sum := "563fbe1f0b2e03dbb58468bfd11c341e2e9cbf28ffffc0c46ca02ba5a6e6f193", func := "betatron/betatronlaw33.SupercyclePlan", spec := "supercyclePlan", unfollowed := true, recurses := true, plainKeys := false, apart := false, narrowed := true }
def SupercyclePlanUptoSaid : Prop := supercyclePlanUptoRow.holds Try.pinned (OpenSpec.upto supercyclePlanSpec)

/-- 'betatronlaw33.SupercycleProves', WHERE WHAT IT READS IS OF BULK AT MOST 1048576: true; the input reads as it did. -/
def supercycleProvesUptoRow : OpenClaim := { program := "ytamccaclkkgkbaa", sum := "563fbe1f0b2e03dbb58468bfd11c341e2e9cbf28ffffc0c46ca02ba5a6e6f193", func := "betatron/betatronlaw33.SupercycleProves", spec := "supercycleProves", unfollowed := true, recurses := true, plainKeys := false, apart := false, narrowed := true }
def SupercycleProvesUptoSaid : Prop := supercycleProvesUptoRow.holds Try.pinned (OpenSpec.upto supercycleProvesSpec)

/-- 'betatronlaw33.SupercycleProofs', WHERE WHAT IT READS IS OF BULK AT MOST 1048576: true; the input reads as it did. -/
def supercycleProofsUptoRow : OpenClaim := { program := "ytamccaclkkgkbaa", sum := "563fbe1f0b2e03dbb58468bfd11c341e2e9cbf28ffffc0c46ca02ba5a6e6f193", func := "betatron/betatronlaw33.SupercycleProofs", spec := "supercycleProofs", unfollowed := true, recurses := true, plainKeys := false, apart := false, narrowed := true }
def SupercycleProofsUptoSaid : Prop := supercycleProofsUptoRow.holds Try.pinned (OpenSpec.upto supercycleProofsSpec)

/-- 'betatronlaw33.SupercycleEvents', WHERE WHAT IT READS IS OF BULK AT MOST 1048576: true; the input reads as it did. -/
def supercycleEventsUptoRow : OpenClaim := { program := "ytamccaclkkgkbaa", sum := "563fbe1f0b2e03dbb58468bfd11c341e2e9cbf28ffffc0c46ca02ba5a6e6f193", func := "betatron/betatronlaw33.SupercycleEvents", spec := "supercycleEvents", unfollowed := true, recurses := true, plainKeys := false, apart := false, narrowed := true }
def SupercycleEventsUptoSaid : Prop := supercycleEventsUptoRow.holds Try.pinned (OpenSpec.upto supercycleEventsSpec)

/-- 'betatronlaw33.SupercycleBest', WHERE WHAT IT READS IS OF BULK AT MOST 1048576: true; the input reads as it did. -/
def supercycleBestUptoRow : OpenClaim := { program := "ytamccaclkkgkbaa", sum := "563fbe1f0b2e03dbb58468bfd11c341e2e9cbf28ffffc0c46ca02ba5a6e6f193", func := "betatron/betatronlaw33.SupercycleBest", spec := "supercycleBest", unfollowed := true, recurses := true, plainKeys := false, apart := false, narrowed := true }
def SupercycleBestUptoSaid : Prop := supercycleBestUptoRow.holds Try.pinned (OpenSpec.upto supercycleBestSpec)

end Rows
end Go.Proofs.Ytamccaclkkgkbaa
