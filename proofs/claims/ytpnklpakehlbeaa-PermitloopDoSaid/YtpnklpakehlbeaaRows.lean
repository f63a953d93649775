/-
  No cell of these rows narrows 'for every input' (looked for: loops, veiled, ifaces, maps, wideKeys, modest, calm, conditions, laid).
  DERIVED. THE GIVEN ROWS OF THIS SEAT. 9 by the template 'for every input the law returns true; each argument reads behind the call as it read before'; 0 by the template 'total and deterministic' (their statements: YtpnklpakehlbeaaTotals.lean).
  GIVEN WITH THE SEED: the statements are not yours to turn. If you find one false, say at which input.
  Laid BY PROGRAM, IN A SANDBOX (cutbox-rows.mjs): the forced cells as the released guide's own fill.sh prints them over the translation 161e61fb4298e41c… (all of the seat's roots in one cut). By AI agents, Wed Nov 11 2026. No macro, syntax, notation, axiom, sorry.
-/
import Derived.Test.YtpnklpakehlbeaaChecked
import GoSem.Claim
import GoSem.ClaimJoined
import GoSem.ClaimMapViews
import Derived.JoinedTies
import Derived.KernelRfl
namespace Go.Proofs.Ytpnklpakehlbeaa
/- THE CELL 'sum', in the pinned program and in every row, IS THE sha256 OF THE DUMP (.gsa) THAT YtpnklpakehlbeaaProg.lean LOADS. Nothing in Lean hashes anything: it is a label: what it is worth is what the hold of that sum in a sandbox is worth. -/
noncomputable def Try.pinned : Pinned := { name := "ytpnklpakehlbeaa", sum := "161e61fb4298e41c2f1b972f1b3ac85a6a9bff6f8429265fa82ae65a3d508e8c", checked := Try.checked }
namespace Rows
def none {H : Type} : Left H := { results := [], args := [] }

/-- 'betatronlaw46.PermitloopValid': WHATEVER THE INPUT: true; the input reads as it did. -/
def permitloopValidSpec : ChangeSpec := { name := "permitloopValid", fn := fun _ => fun
  | [d] => { results := [.lit (.bool true)], args := [d] }
  | _ => none }
def permitloopValidRow : OpenClaim := { program := "ytpnklpakehlbeaa", sum := "161e61fb4298e41c2f1b972f1b3ac85a6a9bff6f8429265fa82ae65a3d508e8c", func := "betatron/betatronlaw46.PermitloopValid", spec := "permitloopValid", unfollowed := true, recurses := true, apart := false }
def PermitloopValidSaid : Prop := permitloopValidRow.holds Try.pinned (OpenSpec.ofChange permitloopValidSpec)

/-- ITS FALSE NEIGHBOUR: 'it returns false'. Refute it at one input. -/
def permitloopValidWrong : ChangeSpec := { name := "permitloopValid", fn := fun _ => fun
  | [d] => { results := [.lit (.bool false)], args := [d] }
  | _ => none }
def PermitloopValidWrongFalsely : Prop := permitloopValidRow.holds Try.pinned (OpenSpec.ofChange permitloopValidWrong)

/-- 'betatronlaw46.PermitloopLoops': WHATEVER THE INPUT: true; the input reads as it did. -/
def permitloopLoopsSpec : ChangeSpec := { name := "permitloopLoops", fn := fun _ => fun
  | [d1, d2, d3] => { results := [.lit (.bool true)], args := [d1, d2, d3] }
  | _ => none }
def permitloopLoopsRow : OpenClaim := { program := "ytpnklpakehlbeaa", sum := "161e61fb4298e41c2f1b972f1b3ac85a6a9bff6f8429265fa82ae65a3d508e8c", func := "betatron/betatronlaw46.PermitloopLoops", spec := "permitloopLoops", unfollowed := true, recurses := true, apart := false }
def PermitloopLoopsSaid : Prop := permitloopLoopsRow.holds Try.pinned (OpenSpec.ofChange permitloopLoopsSpec)

/-- ITS FALSE NEIGHBOUR: 'it returns false'. Refute it at one input. -/
def permitloopLoopsWrong : ChangeSpec := { name := "permitloopLoops", fn := fun _ => fun
  | [d1, d2, d3] => { results := [.lit (.bool false)], args := [d1, d2, d3] }
  | _ => none }
def PermitloopLoopsWrongFalsely : Prop := permitloopLoopsRow.holds Try.pinned (OpenSpec.ofChange permitloopLoopsWrong)

/-- 'betatronlaw46.PermitloopLatency': WHATEVER THE INPUT: true; the input reads as it did. -/
def permitloopLatencySpec : ChangeSpec := { name := "permitloopLatency", fn := fun _ => fun
  | [d1, d2, d3] => { results := [.lit (.bool true)], args := [d1, d2, d3] }
  | _ => none }
def permitloopLatencyRow : OpenClaim := { program := "ytpnklpakehlbeaa", sum := "161e61fb4298e41c2f1b972f1b3ac85a6a9bff6f8429265fa82ae65a3d508e8c", func := "betatron/betatronlaw46.PermitloopLatency", spec := "permitloopLatency", unfollowed := true, recurses := true, apart := false }
def PermitloopLatencySaid : Prop := permitloopLatencyRow.holds Try.pinned (OpenSpec.ofChange permitloopLatencySpec)

/-- ITS FALSE NEIGHBOUR: 'it returns false'. Refute it at one input. -/
def permitloopLatencyWrong : ChangeSpec := { name := "permitloopLatency", fn := fun _ => fun
  | [d1, d2, d3] => { results := [.lit (.bool false)], args := [d1, d2, d3] }
  | _ => none }
def PermitloopLatencyWrongFalsely : Prop := permitloopLatencyRow.holds Try.pinned (OpenSpec.ofChange permitloopLatencyWrong)

/-- 'betatronlaw46.PermitloopSafe': WHATEVER THE INPUT: true; the input reads as it did. -/
def permitloopSafeSpec : ChangeSpec := { name := "permitloopSafe", fn := fun _ => fun
  | [d1, d2, d3] => { results := [.lit (.bool true)], args := [d1, d2, d3] }
  | _ => none }
def permitloopSafeRow : OpenClaim := { program := "ytpnklpakehlbeaa", sum := "161e61fb4298e41c2f1b972f1b3ac85a6a9bff6f8429265fa82ae65a3d508e8c", func := "betatron/betatronlaw46.PermitloopSafe", spec := "permitloopSafe", unfollowed := true, recurses := true, apart := false }
def PermitloopSafeSaid : Prop := permitloopSafeRow.holds Try.pinned (OpenSpec.ofChange permitloopSafeSpec)

/-- ITS FALSE NEIGHBOUR: 'it returns false'. Refute it at one input. -/
def permitloopSafeWrong : ChangeSpec := { name := "permitloopSafe", fn := fun _ => fun
  | [d1, d2, d3] => { results := [.lit (.bool false)], args := [d1, d2, d3] }
  | _ => none }
def PermitloopSafeWrongFalsely : Prop := permitloopSafeRow.holds Try.pinned (OpenSpec.ofChange permitloopSafeWrong)

/-- 'betatronlaw46.PermitloopDo': WHATEVER THE INPUT: true; the input reads as it did. -/
def permitloopDoSpec : ChangeSpec := { name := "permitloopDo", fn := fun _ => fun
  | [d1, d2] => { results := [.lit (.bool true)], args := [d1, d2] }
  | _ => none }
def permitloopDoRow : OpenClaim := { program := "ytpnklpakehlbeaa", sum := "161e61fb4298e41c2f1b972f1b3ac85a6a9bff6f8429265fa82ae65a3d508e8c", func := "betatron/betatronlaw46.PermitloopDo", spec := "permitloopDo", unfollowed := true, recurses := true, apart := false }
def PermitloopDoSaid : Prop := permitloopDoRow.holds Try.pinned (OpenSpec.ofChange permitloopDoSpec)

/-- ITS FALSE NEIGHBOUR: 'it returns false'. Refute it at one input. -/
def permitloopDoWrong : ChangeSpec := { name := "permitloopDo", fn := fun _ => fun
  | [d1, d2] => { results := [.lit (.bool false)], args := [d1, d2] }
  | _ => none }
def PermitloopDoWrongFalsely : Prop := permitloopDoRow.holds Try.pinned (OpenSpec.ofChange permitloopDoWrong)

/-- 'betatronlaw46.PermitloopSingle': WHATEVER THE INPUT: true; the input reads as it did. -/
def permitloopSingleSpec : ChangeSpec := { name := "permitloopSingle", fn := fun _ => fun
  | [d1, d2, d3] => { results := [.lit (.bool true)], args := [d1, d2, d3] }
  | _ => none }
def permitloopSingleRow : OpenClaim := { program := "ytpnklpakehlbeaa", sum := "161e61fb4298e41c2f1b972f1b3ac85a6a9bff6f8429265fa82ae65a3d508e8c", func := "betatron/betatronlaw46.PermitloopSingle", spec := "permitloopSingle", unfollowed := true, recurses := true, apart := false }
def PermitloopSingleSaid : Prop := permitloopSingleRow.holds Try.pinned (OpenSpec.ofChange permitloopSingleSpec)

/-- ITS FALSE NEIGHBOUR: 'it returns false'. Refute it at one input. -/
def permitloopSingleWrong : ChangeSpec := { name := "permitloopSingle", fn := fun _ => fun
  | [d1, d2, d3] => { results := [.lit (.bool false)], args := [d1, d2, d3] }
  | _ => none }
def PermitloopSingleWrongFalsely : Prop := permitloopSingleRow.holds Try.pinned (OpenSpec.ofChange permitloopSingleWrong)

/-- 'betatronlaw46.PermitloopPairs': WHATEVER THE INPUT: true; the input reads as it did. -/
def permitloopPairsSpec : ChangeSpec := { name := "permitloopPairs", fn := fun _ => fun
  | [d1, d2] => { results := [.lit (.bool true)], args := [d1, d2] }
  | _ => none }
def permitloopPairsRow : OpenClaim := { program := "ytpnklpakehlbeaa", sum := "161e61fb4298e41c2f1b972f1b3ac85a6a9bff6f8429265fa82ae65a3d508e8c", func := "betatron/betatronlaw46.PermitloopPairs", spec := "permitloopPairs", unfollowed := true, recurses := true, apart := false }
def PermitloopPairsSaid : Prop := permitloopPairsRow.holds Try.pinned (OpenSpec.ofChange permitloopPairsSpec)

/-- ITS FALSE NEIGHBOUR: 'it returns false'. Refute it at one input. -/
def permitloopPairsWrong : ChangeSpec := { name := "permitloopPairs", fn := fun _ => fun
  | [d1, d2] => { results := [.lit (.bool false)], args := [d1, d2] }
  | _ => none }
def PermitloopPairsWrongFalsely : Prop := permitloopPairsRow.holds Try.pinned (OpenSpec.ofChange permitloopPairsWrong)

/-- 'betatronlaw46.PermitloopLatched': WHATEVER THE INPUT: true; the input reads as it did. -/
def permitloopLatchedSpec : ChangeSpec := { name := "permitloopLatched", fn := fun _ => fun
  | [d1, d2] => { results := [.lit (.bool true)], args := [d1, d2] }
  | _ => none }
def permitloopLatchedRow : OpenClaim := { program := "ytpnklpakehlbeaa", sum := "161e61fb4298e41c2f1b972f1b3ac85a6a9bff6f8429265fa82ae65a3d508e8c", func := "betatron/betatronlaw46.PermitloopLatched", spec := "permitloopLatched", unfollowed := true, recurses := true, apart := false }
def PermitloopLatchedSaid : Prop := permitloopLatchedRow.holds Try.pinned (OpenSpec.ofChange permitloopLatchedSpec)

/-- ITS FALSE NEIGHBOUR: 'it returns false'. Refute it at one input. -/
def permitloopLatchedWrong : ChangeSpec := { name := "permitloopLatched", fn := fun _ => fun
  | [d1, d2] => { results := [.lit (.bool false)], args := [d1, d2] }
  | _ => none }
def PermitloopLatchedWrongFalsely : Prop := permitloopLatchedRow.holds Try.pinned (OpenSpec.ofChange permitloopLatchedWrong)

/-- 'betatronlaw46.PermitloopFaster': WHATEVER THE INPUT: true; the input reads as it did. -/
def permitloopFasterSpec : ChangeSpec := { name := "permitloopFaster", fn := fun _ => fun
  | [d1, d2, d3] => { results := [.lit (.bool true)], args := [d1, d2, d3] }
  | _ => none }
def permitloopFasterRow : OpenClaim := { program := "ytpnklpakehlbeaa", sum := "161e61fb4298e41c2f1b972f1b3ac85a6a9bff6f8429265fa82ae65a3d508e8c", func := "betatron/betatronlaw46.PermitloopFaster", spec := "permitloopFaster", unfollowed := true, recurses := true, apart := false }
def PermitloopFasterSaid : Prop := permitloopFasterRow.holds Try.pinned (OpenSpec.ofChange permitloopFasterSpec)

/-- ITS FALSE NEIGHBOUR: 'it returns false'. Refute it at one input. -/
def permitloopFasterWrong : ChangeSpec := { name := "permitloopFaster", fn := fun _ => fun
  | [d1, d2, d3] => { results := [.lit (.bool false)], args := [d1, d2, d3] }
  | _ => none }
def PermitloopFasterWrongFalsely : Prop := permitloopFasterRow.holds Try.pinned (OpenSpec.ofChange permitloopFasterWrong)

/- THE SECOND FORM. 'bulk': how many values and letters a reading holds, each counted each time it is reached (what is shared counts as often as it is met; a slice's spare places count too). A statement '..UptoSaid' is the law's where the arguments, and the package variables that the reading takes, are together of bulk at most 1048576: NARROWER than '..Said'. Prove '..Said' where nothing that the law and all that it calls make is longer than what came in: it says more and counts as full. Else prove '..UptoSaid'. A law counts once. -/
mutual
def uptoBulk {H : Type} : DataW H → Nat
  | .lit (.string bytes) => bytes.length + 1
  | .lit _ => 1
  | .nil => 1
  | .ptr d => uptoBulk d + 1
  | .slice elems spare => uptoBulkAll elems + uptoBulkAll spare + 1
  | .agg parts => uptoBulkAll parts + 1
  | .iface _ d => uptoBulk d + 1
  | .map entries => uptoBulkEntries entries + 1
  | .held _ => 1
def uptoBulkAll {H : Type} : List (DataW H) → Nat
  | [] => 0
  | d :: r => uptoBulk d + uptoBulkAll r
def uptoBulkEntries {H : Type} : List (Lit × DataW H) → Nat
  | [] => 0
  | x :: r => uptoBulkEntry x + uptoBulkEntries r
def uptoBulkEntry {H : Type} : Lit × DataW H → Nat
  | (.string bytes, d) => bytes.length + uptoBulk d + 1
  | (_, d) => uptoBulk d + 1
 end
def uptoSmall : (H : Type) → List (DataW H) → Bool := fun _ ds => decide (uptoBulkAll ds ≤ 1048576)
def OpenSpec.upto (s : _root_.Go.ChangeSpec) : _root_.Go.OpenSpec := { _root_.Go.OpenSpec.ofChange s with cond := some uptoSmall }

/-- 'betatronlaw46.PermitloopValid', WHERE WHAT IT READS IS OF BULK AT MOST 1048576: true; the input reads as it did. -/
def permitloopValidUptoRow : OpenClaim := { program := "ytpnklpakehlbeaa", sum := "161e61fb4298e41c2f1b972f1b3ac85a6a9bff6f8429265fa82ae65a3d508e8c", func := "betatron/betatronlaw46.PermitloopValid", spec := "permitloopValid", unfollowed := true, recurses := true, apart := false, narrowed := true }
def PermitloopValidUptoSaid : Prop := permitloopValidUptoRow.holds Try.pinned (OpenSpec.upto permitloopValidSpec)

/-- 'betatronlaw46.PermitloopLoops', WHERE WHAT IT READS IS OF BULK AT MOST 1048576: true; the input reads as it did. -/
def permitloopLoopsUptoRow : OpenClaim := { program := "ytpnklpakehlbeaa", sum := "161e61fb4298e41c2f1b972f1b3ac85a6a9bff6f8429265fa82ae65a3d508e8c", func := "betatron/betatronlaw46.PermitloopLoops", spec := "permitloopLoops", unfollowed := true, recurses := true, apart := false, narrowed := true }
def PermitloopLoopsUptoSaid : Prop := permitloopLoopsUptoRow.holds Try.pinned (OpenSpec.upto permitloopLoopsSpec)

/-- 'betatronlaw46.PermitloopLatency', WHERE WHAT IT READS IS OF BULK AT MOST 1048576: true; the input reads as it did. -/
def permitloopLatencyUptoRow : OpenClaim := { program := "ytpnklpakehlbeaa", sum := "161e61fb4298e41c2f1b972f1b3ac85a6a9bff6f8429265fa82ae65a3d508e8c", func := "betatron/betatronlaw46.PermitloopLatency", spec := "permitloopLatency", unfollowed := true, recurses := true, apart := false, narrowed := true }
def PermitloopLatencyUptoSaid : Prop := permitloopLatencyUptoRow.holds Try.pinned (OpenSpec.upto permitloopLatencySpec)

/-- 'betatronlaw46.PermitloopSafe', WHERE WHAT IT READS IS OF BULK AT MOST 1048576: true; the input reads as it did. -/
def permitloopSafeUptoRow : OpenClaim := { program := "ytpnklpakehlbeaa", sum := "161e61fb4298e41c2f1b972f1b3ac85a6a9bff6f8429265fa82ae65a3d508e8c", func := "betatron/betatronlaw46.PermitloopSafe", spec := "permitloopSafe", unfollowed := true, recurses := true, apart := false, narrowed := true }
def PermitloopSafeUptoSaid : Prop := permitloopSafeUptoRow.holds Try.pinned (OpenSpec.upto permitloopSafeSpec)

/-- 'betatronlaw46.PermitloopDo', WHERE WHAT IT READS IS OF BULK AT MOST 1048576: true; the input reads as it did. -/
def permitloopDoUptoRow : OpenClaim := { program := "ytpnklpakehlbeaa", sum := "161e61fb4298e41c2f1b972f1b3ac85a6a9bff6f8429265fa82ae65a3d508e8c", func := "betatron/betatronlaw46.PermitloopDo", spec := "permitloopDo", unfollowed := true, recurses := true, apart := false, narrowed := true }
def PermitloopDoUptoSaid : Prop := permitloopDoUptoRow.holds Try.pinned (OpenSpec.upto permitloopDoSpec)

/-- 'betatronlaw46.PermitloopSingle', WHERE WHAT IT READS IS OF BULK AT MOST 1048576: true; the input reads as it did. -/
def permitloopSingleUptoRow : OpenClaim := { program := "ytpnklpakehlbeaa", sum := "161e61fb4298e41c2f1b972f1b3ac85a6a9bff6f8429265fa82ae65a3d508e8c", func := "betatron/betatronlaw46.PermitloopSingle", spec := "permitloopSingle", unfollowed := true, recurses := true, apart := false, narrowed := true }
def PermitloopSingleUptoSaid : Prop := permitloopSingleUptoRow.holds Try.pinned (OpenSpec.upto permitloopSingleSpec)

/-- 'betatronlaw46.PermitloopPairs', WHERE WHAT IT READS IS OF BULK AT MOST 1048576: true; the input reads as it did. -/
def permitloopPairsUptoRow : OpenClaim := { program := "ytpnklpakehlbeaa", sum := "161e61fb4298e41c2f1b972f1b3ac85a6a9bff6f8429265fa82ae65a3d508e8c", func := "betatron/betatronlaw46.PermitloopPairs", spec := "permitloopPairs", unfollowed := true, recurses := true, apart := false, narrowed := true }
def PermitloopPairsUptoSaid : Prop := permitloopPairsUptoRow.holds Try.pinned (OpenSpec.upto permitloopPairsSpec)

/-- 'betatronlaw46.PermitloopLatched', WHERE WHAT IT READS IS OF BULK AT MOST 1048576: true; the input reads as it did. -/
def permitloopLatchedUptoRow : OpenClaim := { program := "ytpnklpakehlbeaa", sum := "161e61fb4298e41c2f1b972f1b3ac85a6a9bff6f8429265fa82ae65a3d508e8c", func := "betatron/betatronlaw46.PermitloopLatched", spec := "permitloopLatched", unfollowed := true, recurses := true, apart := false, narrowed := true }
def PermitloopLatchedUptoSaid : Prop := permitloopLatchedUptoRow.holds Try.pinned (OpenSpec.upto permitloopLatchedSpec)

/-- 'betatronlaw46.PermitloopFaster', WHERE WHAT IT READS IS OF BULK AT MOST 1048576: true; the input reads as it did. -/
def permitloopFasterUptoRow : OpenClaim := { program := "ytpnklpakehlbeaa", sum := "161e61fb4298e41c2f1b972f1b3ac85a6a9bff6f8429265fa82ae65a3d508e8c", func := "betatron/betatronlaw46.PermitloopFaster", spec := "permitloopFaster", unfollowed := true, recurses := true, apart := false, narrowed := true }
def PermitloopFasterUptoSaid : Prop := permitloopFasterUptoRow.holds Try.pinned (OpenSpec.upto permitloopFasterSpec)

end Rows
end Go.Proofs.Ytpnklpakehlbeaa
