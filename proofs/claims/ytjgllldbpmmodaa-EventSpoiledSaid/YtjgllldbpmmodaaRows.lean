/-
  No cell of these rows narrows 'for every input' (looked for: loops, veiled, ifaces, maps, wideKeys, modest, calm, conditions, laid).
  DERIVED. THE GIVEN ROWS OF THIS SEAT. 4 by the template 'for every input the law returns true; each argument reads behind the call as it read before'; 0 by the template 'total and deterministic' (their statements: YtjgllldbpmmodaaTotals.lean).
  GIVEN WITH THE SEED: the statements are not yours to turn. If you find one false, say at which input.
  Laid BY PROGRAM, IN A SANDBOX (cutbox-rows.mjs): the forced cells as the released guide's own fill.sh prints them over the translation 1f8d3060c07577a1… (all of the seat's roots in one cut). By AI agents, Wed Nov 11 2026. No macro, syntax, notation, axiom, sorry.
-/
import Derived.Test.YtjgllldbpmmodaaChecked
import GoSem.Claim
import GoSem.ClaimJoined
import GoSem.ClaimMapViews
import Derived.JoinedTies
import Derived.KernelRfl
namespace Go.Proofs.Ytjgllldbpmmodaa
/- THE CELL 'sum', in the pinned program and in every row, IS THE sha256 OF THE DUMP (.gsa) THAT YtjgllldbpmmodaaProg.lean LOADS. Nothing in Lean hashes anything: it is a label: what it is worth is what the hold of that sum in a sandbox is worth. -/
noncomputable def Try.pinned : Pinned := { name := "ytjgllldbpmmodaa", sum := "1f8d3060c07577a1f7d2ea00403aeb0f59d26c11893c25e66f9d139df26519da", checked := Try.checked }
namespace Rows
def none {H : Type} : Left H := { results := [], args := [] }

/-- 'betatronlaw29.EventMerge': WHATEVER THE INPUT: true; the input reads as it did. -/
def eventMergeSpec : ChangeSpec := { name := "eventMerge", fn := fun _ => fun
  | [d] => { results := [.lit (.bool true)], args := [d] }
  | _ => none }
def eventMergeRow : OpenClaim := { program := "ytjgllldbpmmodaa", sum := "1f8d3060c07577a1f7d2ea00403aeb0f59d26c11893c25e66f9d139df26519da", func := "betatron/betatronlaw29.EventMerge", spec := "eventMerge", unfollowed := true, recurses := true, apart := false }
def EventMergeSaid : Prop := eventMergeRow.holds Try.pinned (OpenSpec.ofChange eventMergeSpec)

/-- ITS FALSE NEIGHBOUR: 'it returns false'. Refute it at one input. -/
def eventMergeWrong : ChangeSpec := { name := "eventMerge", fn := fun _ => fun
  | [d] => { results := [.lit (.bool false)], args := [d] }
  | _ => none }
def EventMergeWrongFalsely : Prop := eventMergeRow.holds Try.pinned (OpenSpec.ofChange eventMergeWrong)

/-- 'betatronlaw29.EventMerges': WHATEVER THE INPUT: true; the input reads as it did. -/
def eventMergesSpec : ChangeSpec := { name := "eventMerges", fn := fun _ => fun
  | [d1, d2, d3] => { results := [.lit (.bool true)], args := [d1, d2, d3] }
  | _ => none }
def eventMergesRow : OpenClaim := { program := "ytjgllldbpmmodaa", sum := "1f8d3060c07577a1f7d2ea00403aeb0f59d26c11893c25e66f9d139df26519da", func := "betatron/betatronlaw29.EventMerges", spec := "eventMerges", unfollowed := true, recurses := true, apart := false }
def EventMergesSaid : Prop := eventMergesRow.holds Try.pinned (OpenSpec.ofChange eventMergesSpec)

/-- ITS FALSE NEIGHBOUR: 'it returns false'. Refute it at one input. -/
def eventMergesWrong : ChangeSpec := { name := "eventMerges", fn := fun _ => fun
  | [d1, d2, d3] => { results := [.lit (.bool false)], args := [d1, d2, d3] }
  | _ => none }
def EventMergesWrongFalsely : Prop := eventMergesRow.holds Try.pinned (OpenSpec.ofChange eventMergesWrong)

/-- 'betatronlaw29.EventSpoiled': WHATEVER THE INPUT: true; the input reads as it did. -/
def eventSpoiledSpec : ChangeSpec := { name := "eventSpoiled", fn := fun _ => fun
  | [d1, d2, d3] => { results := [.lit (.bool true)], args := [d1, d2, d3] }
  | _ => none }
def eventSpoiledRow : OpenClaim := { program := "ytjgllldbpmmodaa", sum := "1f8d3060c07577a1f7d2ea00403aeb0f59d26c11893c25e66f9d139df26519da", func := "betatron/betatronlaw29.EventSpoiled", spec := "eventSpoiled", unfollowed := true, recurses := true, apart := false }
def EventSpoiledSaid : Prop := eventSpoiledRow.holds Try.pinned (OpenSpec.ofChange eventSpoiledSpec)

/-- ITS FALSE NEIGHBOUR: 'it returns false'. Refute it at one input. -/
def eventSpoiledWrong : ChangeSpec := { name := "eventSpoiled", fn := fun _ => fun
  | [d1, d2, d3] => { results := [.lit (.bool false)], args := [d1, d2, d3] }
  | _ => none }
def EventSpoiledWrongFalsely : Prop := eventSpoiledRow.holds Try.pinned (OpenSpec.ofChange eventSpoiledWrong)

/-- 'betatronlaw29.EventTelegram': WHATEVER THE INPUT: true; the input reads as it did. -/
def eventTelegramSpec : ChangeSpec := { name := "eventTelegram", fn := fun _ => fun
  | [d1, d2, d3] => { results := [.lit (.bool true)], args := [d1, d2, d3] }
  | _ => none }
def eventTelegramRow : OpenClaim := { program := "ytjgllldbpmmodaa", sum := "1f8d3060c07577a1f7d2ea00403aeb0f59d26c11893c25e66f9d139df26519da", func := "betatron/betatronlaw29.EventTelegram", spec := "eventTelegram", unfollowed := true, recurses := true, apart := false }
def EventTelegramSaid : Prop := eventTelegramRow.holds Try.pinned (OpenSpec.ofChange eventTelegramSpec)

/-- ITS FALSE NEIGHBOUR: 'it returns false'. Refute it at one input. -/
def eventTelegramWrong : ChangeSpec := { name := "eventTelegram", fn := fun _ => fun
  | [d1, d2, d3] => { results := [.lit (.bool false)], args := [d1, d2, d3] }
  | _ => none }
def EventTelegramWrongFalsely : Prop := eventTelegramRow.holds Try.pinned (OpenSpec.ofChange eventTelegramWrong)

/- THE SECOND FORM. 'bulk': how many values and letters a reading holds, each counted each time it is reached (what is shared counts as often as it is met; a slice's spare places count too). A statement '..UptoSaid' is the law's where the arguments, and the package variables that the reading takes, are together of bulk at most 1048576: NARROWER than '..Said'. Prove '..Said' where nothing that the law and all that it calls make is longer than what came in: it says more and counts as full. Else prove '..UptoSaid'. A law counts once. -/
mutual
def uptoBulk {H : Type} : DataW H → Nat
  | .lit (.string bytes) => bytes.length + 1
  | .lit _ => 1
  | .nil => 1
  | .ptr d => uptoBulk d + 1
  | .slice elems spare => uptoBulkAll elems + uptoBulkAll spare + 1
  | .agg parts => uptoBulkAll parts + 1
  | .iface _ d => uptoBulk d + 1
  | .map entries => uptoBulkEntries entries + 1
  | .held _ => 1
def uptoBulkAll {H : Type} : List (DataW H) → Nat
  | [] => 0
  | d :: r => uptoBulk d + uptoBulkAll r
def uptoBulkEntries {H : Type} : List (Lit × DataW H) → Nat
  | [] => 0
  | x :: r => uptoBulkEntry x + uptoBulkEntries r
def uptoBulkEntry {H : Type} : Lit × DataW H → Nat
  | (.string bytes, d) => bytes.length + uptoBulk d + 1
  | (_, d) => uptoBulk d + 1
 end
def uptoSmall : (H : Type) → List (DataW H) → Bool := fun _ ds => decide (uptoBulkAll ds ≤ 1048576)
def OpenSpec.upto (s : _root_.Go.ChangeSpec) : _root_.Go.OpenSpec := { _root_.Go.OpenSpec.ofChange s with cond := some uptoSmall }

/-- 'betatronlaw29.EventMerge', WHERE WHAT IT READS IS OF BULK AT MOST 1048576: true; the input reads as it did. -/
def eventMergeUptoRow : OpenClaim := { program := "ytjgllldbpmmodaa", sum := "1f8d3060c07577a1f7d2ea00403aeb0f59d26c11893c25e66f9d139df26519da", func := "betatron/betatronlaw29.EventMerge", spec := "eventMerge", unfollowed := true, recurses := true, apart := false, narrowed := true }
def EventMergeUptoSaid : Prop := eventMergeUptoRow.holds Try.pinned (OpenSpec.upto eventMergeSpec)

/-- 'betatronlaw29.EventMerges', WHERE WHAT IT READS IS OF BULK AT MOST 1048576: true; the input reads as it did. -/
def eventMergesUptoRow : OpenClaim := { program := "ytjgllldbpmmodaa", sum := "1f8d3060c07577a1f7d2ea00403aeb0f59d26c11893c25e66f9d139df26519da", func := "betatron/betatronlaw29.EventMerges", spec := "eventMerges", unfollowed := true, recurses := true, apart := false, narrowed := true }
def EventMergesUptoSaid : Prop := eventMergesUptoRow.holds Try.pinned (OpenSpec.upto eventMergesSpec)

/-- 'betatronlaw29.EventSpoiled', WHERE WHAT IT READS IS OF BULK AT MOST 1048576: true; the input reads as it did. -/
def eventSpoiledUptoRow : OpenClaim := { program := "ytjgllldbpmmodaa", sum := "1f8d3060c07577a1f7d2ea00403aeb0f59d26c11893c25e66f9d139df26519da", func := "betatron/betatronlaw29.EventSpoiled", spec := "eventSpoiled", unfollowed := true, recurses := true, apart := false, narrowed := true }
def EventSpoiledUptoSaid : Prop := eventSpoiledUptoRow.holds Try.pinned (OpenSpec.upto eventSpoiledSpec)

/-- 'betatronlaw29.EventTelegram', WHERE WHAT IT READS IS OF BULK AT MOST 1048576: true; the input reads as it did. -/
def eventTelegramUptoRow : OpenClaim := { program := "ytjgllldbpmmodaa", sum := "1f8d3060c07577a1f7d2ea00403aeb0f59d26c11893c25e66f9d139df26519da", func := "betatron/betatronlaw29.EventTelegram", spec := "eventTelegram", unfollowed := true, recurses := true, apart := false, narrowed := true }
def EventTelegramUptoSaid : Prop := eventTelegramUptoRow.holds Try.pinned (OpenSpec.upto eventTelegramSpec)

end Rows
end Go.Proofs.Ytjgllldbpmmodaa
