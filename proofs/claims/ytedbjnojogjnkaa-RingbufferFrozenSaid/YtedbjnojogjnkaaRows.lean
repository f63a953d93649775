/-
  No cell of these rows narrows 'for every input' (looked for: loops, veiled, ifaces, maps, wideKeys, modest, calm, conditions, laid).
  DERIVED. THE GIVEN ROWS OF THIS SEAT. 8 by the template 'for every input the law returns true; each argument reads behind the call as it read before'; 0 by the template 'total and deterministic' (their statements: YtedbjnojogjnkaaTotals.lean).
  GIVEN WITH THE SEED: the statements are not yours to turn. If you find one false, say at which input.
  Laid BY PROGRAM, IN A SANDBOX (cutbox-rows.mjs): the forced cells as the released guide's own fill.sh prints them over the translation 9e560bd34d88893f… (all of the seat's roots in one cut). By AI agents, Wed Nov 11 2026. No macro, syntax, notation, axiom, sorry.
-/
import Derived.Test.YtedbjnojogjnkaaChecked
import GoSem.Claim
import GoSem.ClaimJoined
import GoSem.ClaimMapViews
import Derived.JoinedTies
import Derived.KernelRfl
namespace Go.Proofs.Ytedbjnojogjnkaa
/- THE CELL 'sum', in the pinned program and in every row, IS THE sha256 OF THE DUMP (.gsa) THAT YtedbjnojogjnkaaProg.lean LOADS. Nothing in Lean hashes anything: it is a label: what it is worth is what the hold of that sum in a sandbox is worth. -/
noncomputable def Try.pinned : Pinned := { name := "ytedbjnojogjnkaa", sum := "9e560bd34d88893f87a271438e670d44c850e0228e6dc865a7ae8e3840debf99", checked := Try.checked }
namespace Rows
def none {H : Type} : Left H := { results := [], args := [] }

/-- 'betatronlaw51.RingbufferPut': WHATEVER THE INPUT: true; the input reads as it did. -/
def ringbufferPutSpec : ChangeSpec := { name := "ringbufferPut", fn := fun _ => fun
  | [d1, d2] => { results := [.lit (.bool true)], args := [d1, d2] }
  | _ => none }
def ringbufferPutRow : OpenClaim := { program := "ytedbjnojogjnkaa", sum := "9e560bd34d88893f87a271438e670d44c850e0228e6dc865a7ae8e3840debf99", func := "betatron/betatronlaw51.RingbufferPut", spec := "ringbufferPut", apart := false }
def RingbufferPutSaid : Prop := ringbufferPutRow.holds Try.pinned (OpenSpec.ofChange ringbufferPutSpec)

/-- ITS FALSE NEIGHBOUR: 'it returns false'. Refute it at one input. -/
def ringbufferPutWrong : ChangeSpec := { name := "ringbufferPut", fn := fun _ => fun
  | [d1, d2] => { results := [.lit (.bool false)], args := [d1, d2] }
  | _ => none }
def RingbufferPutWrongFalsely : Prop := ringbufferPutRow.holds Try.pinned (OpenSpec.ofChange ringbufferPutWrong)

/-- 'betatronlaw51.RingbufferFreeze': WHATEVER THE INPUT: true; the input reads as it did. -/
def ringbufferFreezeSpec : ChangeSpec := { name := "ringbufferFreeze", fn := fun _ => fun
  | [d1, d2] => { results := [.lit (.bool true)], args := [d1, d2] }
  | _ => none }
def ringbufferFreezeRow : OpenClaim := { program := "ytedbjnojogjnkaa", sum := "9e560bd34d88893f87a271438e670d44c850e0228e6dc865a7ae8e3840debf99", func := "betatron/betatronlaw51.RingbufferFreeze", spec := "ringbufferFreeze", apart := false }
def RingbufferFreezeSaid : Prop := ringbufferFreezeRow.holds Try.pinned (OpenSpec.ofChange ringbufferFreezeSpec)

/-- ITS FALSE NEIGHBOUR: 'it returns false'. Refute it at one input. -/
def ringbufferFreezeWrong : ChangeSpec := { name := "ringbufferFreeze", fn := fun _ => fun
  | [d1, d2] => { results := [.lit (.bool false)], args := [d1, d2] }
  | _ => none }
def RingbufferFreezeWrongFalsely : Prop := ringbufferFreezeRow.holds Try.pinned (OpenSpec.ofChange ringbufferFreezeWrong)

/-- 'betatronlaw51.RingbufferWindow': WHATEVER THE INPUT: true; the input reads as it did. -/
def ringbufferWindowSpec : ChangeSpec := { name := "ringbufferWindow", fn := fun _ => fun
  | [d1, d2] => { results := [.lit (.bool true)], args := [d1, d2] }
  | _ => none }
def ringbufferWindowRow : OpenClaim := { program := "ytedbjnojogjnkaa", sum := "9e560bd34d88893f87a271438e670d44c850e0228e6dc865a7ae8e3840debf99", func := "betatron/betatronlaw51.RingbufferWindow", spec := "ringbufferWindow", apart := false }
def RingbufferWindowSaid : Prop := ringbufferWindowRow.holds Try.pinned (OpenSpec.ofChange ringbufferWindowSpec)

/-- ITS FALSE NEIGHBOUR: 'it returns false'. Refute it at one input. -/
def ringbufferWindowWrong : ChangeSpec := { name := "ringbufferWindow", fn := fun _ => fun
  | [d1, d2] => { results := [.lit (.bool false)], args := [d1, d2] }
  | _ => none }
def RingbufferWindowWrongFalsely : Prop := ringbufferWindowRow.holds Try.pinned (OpenSpec.ofChange ringbufferWindowWrong)

/-- 'betatronlaw51.RingbufferExtremes': WHATEVER THE INPUT: true; the input reads as it did. -/
def ringbufferExtremesSpec : ChangeSpec := { name := "ringbufferExtremes", fn := fun _ => fun
  | [d1, d2] => { results := [.lit (.bool true)], args := [d1, d2] }
  | _ => none }
def ringbufferExtremesRow : OpenClaim := { program := "ytedbjnojogjnkaa", sum := "9e560bd34d88893f87a271438e670d44c850e0228e6dc865a7ae8e3840debf99", func := "betatron/betatronlaw51.RingbufferExtremes", spec := "ringbufferExtremes", apart := false }
def RingbufferExtremesSaid : Prop := ringbufferExtremesRow.holds Try.pinned (OpenSpec.ofChange ringbufferExtremesSpec)

/-- ITS FALSE NEIGHBOUR: 'it returns false'. Refute it at one input. -/
def ringbufferExtremesWrong : ChangeSpec := { name := "ringbufferExtremes", fn := fun _ => fun
  | [d1, d2] => { results := [.lit (.bool false)], args := [d1, d2] }
  | _ => none }
def RingbufferExtremesWrongFalsely : Prop := ringbufferExtremesRow.holds Try.pinned (OpenSpec.ofChange ringbufferExtremesWrong)

/-- 'betatronlaw51.RingbufferRun': WHATEVER THE INPUT: true; the input reads as it did. -/
def ringbufferRunSpec : ChangeSpec := { name := "ringbufferRun", fn := fun _ => fun
  | [d1, d2] => { results := [.lit (.bool true)], args := [d1, d2] }
  | _ => none }
def ringbufferRunRow : OpenClaim := { program := "ytedbjnojogjnkaa", sum := "9e560bd34d88893f87a271438e670d44c850e0228e6dc865a7ae8e3840debf99", func := "betatron/betatronlaw51.RingbufferRun", spec := "ringbufferRun", apart := false }
def RingbufferRunSaid : Prop := ringbufferRunRow.holds Try.pinned (OpenSpec.ofChange ringbufferRunSpec)

/-- ITS FALSE NEIGHBOUR: 'it returns false'. Refute it at one input. -/
def ringbufferRunWrong : ChangeSpec := { name := "ringbufferRun", fn := fun _ => fun
  | [d1, d2] => { results := [.lit (.bool false)], args := [d1, d2] }
  | _ => none }
def RingbufferRunWrongFalsely : Prop := ringbufferRunRow.holds Try.pinned (OpenSpec.ofChange ringbufferRunWrong)

/-- 'betatronlaw51.RingbufferNewest': WHATEVER THE INPUT: true; the input reads as it did. -/
def ringbufferNewestSpec : ChangeSpec := { name := "ringbufferNewest", fn := fun _ => fun
  | [d1, d2] => { results := [.lit (.bool true)], args := [d1, d2] }
  | _ => none }
def ringbufferNewestRow : OpenClaim := { program := "ytedbjnojogjnkaa", sum := "9e560bd34d88893f87a271438e670d44c850e0228e6dc865a7ae8e3840debf99", func := "betatron/betatronlaw51.RingbufferNewest", spec := "ringbufferNewest", apart := false }
def RingbufferNewestSaid : Prop := ringbufferNewestRow.holds Try.pinned (OpenSpec.ofChange ringbufferNewestSpec)

/-- ITS FALSE NEIGHBOUR: 'it returns false'. Refute it at one input. -/
def ringbufferNewestWrong : ChangeSpec := { name := "ringbufferNewest", fn := fun _ => fun
  | [d1, d2] => { results := [.lit (.bool false)], args := [d1, d2] }
  | _ => none }
def RingbufferNewestWrongFalsely : Prop := ringbufferNewestRow.holds Try.pinned (OpenSpec.ofChange ringbufferNewestWrong)

/-- 'betatronlaw51.RingbufferFrozen': WHATEVER THE INPUT: true; the input reads as it did. -/
def ringbufferFrozenSpec : ChangeSpec := { name := "ringbufferFrozen", fn := fun _ => fun
  | [d1, d2, d3] => { results := [.lit (.bool true)], args := [d1, d2, d3] }
  | _ => none }
def ringbufferFrozenRow : OpenClaim := { program := "ytedbjnojogjnkaa", sum := "9e560bd34d88893f87a271438e670d44c850e0228e6dc865a7ae8e3840debf99", func := "betatron/betatronlaw51.RingbufferFrozen", spec := "ringbufferFrozen", apart := false }
def RingbufferFrozenSaid : Prop := ringbufferFrozenRow.holds Try.pinned (OpenSpec.ofChange ringbufferFrozenSpec)

/-- ITS FALSE NEIGHBOUR: 'it returns false'. Refute it at one input. -/
def ringbufferFrozenWrong : ChangeSpec := { name := "ringbufferFrozen", fn := fun _ => fun
  | [d1, d2, d3] => { results := [.lit (.bool false)], args := [d1, d2, d3] }
  | _ => none }
def RingbufferFrozenWrongFalsely : Prop := ringbufferFrozenRow.holds Try.pinned (OpenSpec.ofChange ringbufferFrozenWrong)

/-- 'betatronlaw51.RingbufferRearms': WHATEVER THE INPUT: true; the input reads as it did. -/
def ringbufferRearmsSpec : ChangeSpec := { name := "ringbufferRearms", fn := fun _ => fun
  | [d1, d2] => { results := [.lit (.bool true)], args := [d1, d2] }
  | _ => none }
def ringbufferRearmsRow : OpenClaim := { program := "ytedbjnojogjnkaa", sum := "9e560bd34d88893f87a271438e670d44c850e0228e6dc865a7ae8e3840debf99", func := "betatron/betatronlaw51.RingbufferRearms", spec := "ringbufferRearms", apart := false }
def RingbufferRearmsSaid : Prop := ringbufferRearmsRow.holds Try.pinned (OpenSpec.ofChange ringbufferRearmsSpec)

/-- ITS FALSE NEIGHBOUR: 'it returns false'. Refute it at one input. -/
def ringbufferRearmsWrong : ChangeSpec := { name := "ringbufferRearms", fn := fun _ => fun
  | [d1, d2] => { results := [.lit (.bool false)], args := [d1, d2] }
  | _ => none }
def RingbufferRearmsWrongFalsely : Prop := ringbufferRearmsRow.holds Try.pinned (OpenSpec.ofChange ringbufferRearmsWrong)

/- THE SECOND FORM. 'bulk': how many values and letters a reading holds, each counted each time it is reached (what is shared counts as often as it is met; a slice's spare places count too). A statement '..UptoSaid' is the law's where the arguments, and the package variables that the reading takes, are together of bulk at most 1048576: NARROWER than '..Said'. Prove '..Said' where nothing that the law and all that it calls make is longer than what came in: it says more and counts as full. Else prove '..UptoSaid'. A law counts once. -/
mutual
def uptoBulk {H : Type} : DataW H → Nat
  | .lit (.string bytes) => bytes.length + 1
  | .lit _ => 1
  | .nil => 1
  | .ptr d => uptoBulk d + 1
  | .slice elems spare => uptoBulkAll elems + uptoBulkAll spare + 1
  | .agg parts => uptoBulkAll parts + 1
  | .iface _ d => uptoBulk d + 1
  | .map entries => uptoBulkEntries entries + 1
  | .held _ => 1
def uptoBulkAll {H : Type} : List (DataW H) → Nat
  | [] => 0
  | d :: r => uptoBulk d + uptoBulkAll r
def uptoBulkEntries {H : Type} : List (Lit × DataW H) → Nat
  | [] => 0
  | x :: r => uptoBulkEntry x + uptoBulkEntries r
def uptoBulkEntry {H : Type} : Lit × DataW H → Nat
  | (.string bytes, d) => bytes.length + uptoBulk d + 1
  | (_, d) => uptoBulk d + 1
 end
def uptoSmall : (H : Type) → List (DataW H) → Bool := fun _ ds => decide (uptoBulkAll ds ≤ 1048576)
def OpenSpec.upto (s : _root_.Go.ChangeSpec) : _root_.Go.OpenSpec := { _root_.Go.OpenSpec.ofChange s with cond := some uptoSmall }

/-- 'betatronlaw51.RingbufferPut', WHERE WHAT IT READS IS OF BULK AT MOST 1048576: true; the input reads as it did. -/
def ringbufferPutUptoRow : OpenClaim := { program := "ytedbjnojogjnkaa", sum := "9e560bd34d88893f87a271438e670d44c850e0228e6dc865a7ae8e3840debf99", func := "betatron/betatronlaw51.RingbufferPut", spec := "ringbufferPut", apart := false, narrowed := true }
def RingbufferPutUptoSaid : Prop := ringbufferPutUptoRow.holds Try.pinned (OpenSpec.upto ringbufferPutSpec)

/-- 'betatronlaw51.RingbufferFreeze', WHERE WHAT IT READS IS OF BULK AT MOST 1048576: true; the input reads as it did. -/
def ringbufferFreezeUptoRow : OpenClaim := { program := "ytedbjnojogjnkaa", sum := "9e560bd34d88893f87a271438e670d44c850e0228e6dc865a7ae8e3840debf99", func := "betatron/betatronlaw51.RingbufferFreeze", spec := "ringbufferFreeze", apart := false, narrowed := true }
def RingbufferFreezeUptoSaid : Prop := ringbufferFreezeUptoRow.holds Try.pinned (OpenSpec.upto ringbufferFreezeSpec)

/-- 'betatronlaw51.RingbufferWindow', WHERE WHAT IT READS IS OF BULK AT MOST 1048576: true; the input reads as it did. -/
def ringbufferWindowUptoRow : OpenClaim := { program := "ytedbjnojogjnkaa", sum := "9e560bd34d88893f87a271438e670d44c850e0228e6dc865a7ae8e3840debf99", func := "betatron/betatronlaw51.RingbufferWindow", spec := "ringbufferWindow", apart := false, narrowed := true }
def RingbufferWindowUptoSaid : Prop := ringbufferWindowUptoRow.holds Try.pinned (OpenSpec.upto ringbufferWindowSpec)

/-- 'betatronlaw51.RingbufferExtremes', WHERE WHAT IT READS IS OF BULK AT MOST 1048576: true; the input reads as it did. -/
def ringbufferExtremesUptoRow : OpenClaim := { program := "ytedbjnojogjnkaa", sum := "9e560bd34d88893f87a271438e670d44c850e0228e6dc865a7ae8e3840debf99", func := "betatron/betatronlaw51.RingbufferExtremes", spec := "ringbufferExtremes", apart := false, narrowed := true }
def RingbufferExtremesUptoSaid : Prop := ringbufferExtremesUptoRow.holds Try.pinned (OpenSpec.upto ringbufferExtremesSpec)

/-- 'betatronlaw51.RingbufferRun', WHERE WHAT IT READS IS OF BULK AT MOST 1048576: true; the input reads as it did. -/
def ringbufferRunUptoRow : OpenClaim := { program := "ytedbjnojogjnkaa", sum := "9e560bd34d88893f87a271438e670d44c850e0228e6dc865a7ae8e3840debf99", func := "betatron/betatronlaw51.RingbufferRun", spec := "ringbufferRun", apart := false, narrowed := true }
def RingbufferRunUptoSaid : Prop := ringbufferRunUptoRow.holds Try.pinned (OpenSpec.upto ringbufferRunSpec)

/-- 'betatronlaw51.RingbufferNewest', WHERE WHAT IT READS IS OF BULK AT MOST 1048576: true; the input reads as it did. -/
def ringbufferNewestUptoRow : OpenClaim := { program := "ytedbjnojogjnkaa", sum := "9e560bd34d88893f87a271438e670d44c850e0228e6dc865a7ae8e3840debf99", func := "betatron/betatronlaw51.RingbufferNewest", spec := "ringbufferNewest", apart := false, narrowed := true }
def RingbufferNewestUptoSaid : Prop := ringbufferNewestUptoRow.holds Try.pinned (OpenSpec.upto ringbufferNewestSpec)

/-- 'betatronlaw51.RingbufferFrozen', WHERE WHAT IT READS IS OF BULK AT MOST 1048576: true; the input reads as it did. -/
def ringbufferFrozenUptoRow : OpenClaim := { program := "ytedbjnojogjnkaa", sum := "9e560bd34d88893f87a271438e670d44c850e0228e6dc865a7ae8e3840debf99", func := "betatron/betatronlaw51.RingbufferFrozen", spec := "ringbufferFrozen", apart := false, narrowed := true }
def RingbufferFrozenUptoSaid : Prop := ringbufferFrozenUptoRow.holds Try.pinned (OpenSpec.upto ringbufferFrozenSpec)

/-- 'betatronlaw51.RingbufferRearms', WHERE WHAT IT READS IS OF BULK AT MOST 1048576: true; the input reads as it did. -/
def ringbufferRearmsUptoRow : OpenClaim := { program := "ytedbjnojogjnkaa", sum := "9e560bd34d88893f87a271438e670d44c850e0228e6dc865a7ae8e3840debf99", func := "betatron/betatronlaw51.RingbufferRearms", spec := "ringbufferRearms", apart := false, narrowed := true }
def RingbufferRearmsUptoSaid : Prop := ringbufferRearmsUptoRow.holds Try.pinned (OpenSpec.upto ringbufferRearmsSpec)

end Rows
end Go.Proofs.Ytedbjnojogjnkaa
