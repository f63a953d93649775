/-
  No cell of these rows narrows 'for every input' (looked for: loops, veiled, ifaces, maps, wideKeys, modest, calm, conditions, laid).
  DERIVED. THE GIVEN ROWS OF THIS SEAT. 8 by the template 'for every input the law returns true; each argument reads behind the call as it read before'; 0 by the template 'total and deterministic' (their statements: YtjkfdmbhiooeiaaTotals.lean).
  GIVEN WITH THE SEED: the statements are not yours to turn. If you find one false, say at which input.
  Laid BY PROGRAM, IN A SANDBOX (cutbox-rows.mjs): the forced cells as the released guide's own fill.sh prints them over the translation 975ce1954ddf5faf… (all of the seat's roots in one cut). By AI agents, Wed Nov 11 2026. No macro, syntax, notation, axiom, sorry.
-/
import Derived.Test.YtjkfdmbhiooeiaaChecked
import GoSem.Claim
import GoSem.ClaimJoined
import GoSem.ClaimMapViews
import Derived.JoinedTies
import Derived.KernelRfl
namespace Go.Proofs.Ytjkfdmbhiooeiaa
/- THE CELL 'sum', in the pinned program and in every row, IS THE sha256 OF THE DUMP (.gsa) THAT YtjkfdmbhiooeiaaProg.lean LOADS. Nothing in Lean hashes anything: it is a label: what it is worth is what the hold of that sum in a sandbox is worth. -/
noncomputable def Try.pinned : Pinned := { name := "ytjkfdmbhiooeiaa", sum := "975ce1954ddf5faffc80480b9d8e3135aef0483075781035ec2ccfb0c79f445e", checked := Try.checked }
namespace Rows
def none {H : Type} : Left H := { results := [], args := [] }

/-- 'betatronlaw43.InputSample': WHATEVER THE INPUT: true; the input reads as it did. -/
def inputSampleSpec : ChangeSpec := { name := "inputSample", fn := fun _ => fun
  | [d1, d2] => { results := [.lit (.bool true)], args := [d1, d2] }
  | _ => none }
def inputSampleRow : OpenClaim := { program := "ytjkfdmbhiooeiaa", sum := "975ce1954ddf5faffc80480b9d8e3135aef0483075781035ec2ccfb0c79f445e", func := "betatron/betatronlaw43.InputSample", spec := "inputSample", unfollowed := true, recurses := true, apart := false }
def InputSampleSaid : Prop := inputSampleRow.holds Try.pinned (OpenSpec.ofChange inputSampleSpec)

/-- ITS FALSE NEIGHBOUR: 'it returns false'. Refute it at one input. -/
def inputSampleWrong : ChangeSpec := { name := "inputSample", fn := fun _ => fun
  | [d1, d2] => { results := [.lit (.bool false)], args := [d1, d2] }
  | _ => none }
def InputSampleWrongFalsely : Prop := inputSampleRow.holds Try.pinned (OpenSpec.ofChange inputSampleWrong)

/-- 'betatronlaw43.InputFilter': WHATEVER THE INPUT: true; the input reads as it did. -/
def inputFilterSpec : ChangeSpec := { name := "inputFilter", fn := fun _ => fun
  | [d1, d2, d3] => { results := [.lit (.bool true)], args := [d1, d2, d3] }
  | _ => none }
def inputFilterRow : OpenClaim := { program := "ytjkfdmbhiooeiaa", sum := "975ce1954ddf5faffc80480b9d8e3135aef0483075781035ec2ccfb0c79f445e", func := "betatron/betatronlaw43.InputFilter", spec := "inputFilter", unfollowed := true, recurses := true, apart := false }
def InputFilterSaid : Prop := inputFilterRow.holds Try.pinned (OpenSpec.ofChange inputFilterSpec)

/-- ITS FALSE NEIGHBOUR: 'it returns false'. Refute it at one input. -/
def inputFilterWrong : ChangeSpec := { name := "inputFilter", fn := fun _ => fun
  | [d1, d2, d3] => { results := [.lit (.bool false)], args := [d1, d2, d3] }
  | _ => none }
def InputFilterWrongFalsely : Prop := inputFilterRow.holds Try.pinned (OpenSpec.ofChange inputFilterWrong)

/-- 'betatronlaw43.InputRun': WHATEVER THE INPUT: true; the input reads as it did. -/
def inputRunSpec : ChangeSpec := { name := "inputRun", fn := fun _ => fun
  | [d1, d2] => { results := [.lit (.bool true)], args := [d1, d2] }
  | _ => none }
def inputRunRow : OpenClaim := { program := "ytjkfdmbhiooeiaa", sum := "975ce1954ddf5faffc80480b9d8e3135aef0483075781035ec2ccfb0c79f445e", func := "betatron/betatronlaw43.InputRun", spec := "inputRun", unfollowed := true, recurses := true, apart := false }
def InputRunSaid : Prop := inputRunRow.holds Try.pinned (OpenSpec.ofChange inputRunSpec)

/-- ITS FALSE NEIGHBOUR: 'it returns false'. Refute it at one input. -/
def inputRunWrong : ChangeSpec := { name := "inputRun", fn := fun _ => fun
  | [d1, d2] => { results := [.lit (.bool false)], args := [d1, d2] }
  | _ => none }
def InputRunWrongFalsely : Prop := inputRunRow.holds Try.pinned (OpenSpec.ofChange inputRunWrong)

/-- 'betatronlaw43.InputVote': WHATEVER THE INPUT: true; the input reads as it did. -/
def inputVoteSpec : ChangeSpec := { name := "inputVote", fn := fun _ => fun
  | [d1, d2] => { results := [.lit (.bool true)], args := [d1, d2] }
  | _ => none }
def inputVoteRow : OpenClaim := { program := "ytjkfdmbhiooeiaa", sum := "975ce1954ddf5faffc80480b9d8e3135aef0483075781035ec2ccfb0c79f445e", func := "betatron/betatronlaw43.InputVote", spec := "inputVote", unfollowed := true, recurses := true, apart := false }
def InputVoteSaid : Prop := inputVoteRow.holds Try.pinned (OpenSpec.ofChange inputVoteSpec)

/-- ITS FALSE NEIGHBOUR: 'it returns false'. Refute it at one input. -/
def inputVoteWrong : ChangeSpec := { name := "inputVote", fn := fun _ => fun
  | [d1, d2] => { results := [.lit (.bool false)], args := [d1, d2] }
  | _ => none }
def InputVoteWrongFalsely : Prop := inputVoteRow.holds Try.pinned (OpenSpec.ofChange inputVoteWrong)

/-- 'betatronlaw43.InputMasked': WHATEVER THE INPUT: true; the input reads as it did. -/
def inputMaskedSpec : ChangeSpec := { name := "inputMasked", fn := fun _ => fun
  | [d1, d2] => { results := [.lit (.bool true)], args := [d1, d2] }
  | _ => none }
def inputMaskedRow : OpenClaim := { program := "ytjkfdmbhiooeiaa", sum := "975ce1954ddf5faffc80480b9d8e3135aef0483075781035ec2ccfb0c79f445e", func := "betatron/betatronlaw43.InputMasked", spec := "inputMasked", unfollowed := true, recurses := true, apart := false }
def InputMaskedSaid : Prop := inputMaskedRow.holds Try.pinned (OpenSpec.ofChange inputMaskedSpec)

/-- ITS FALSE NEIGHBOUR: 'it returns false'. Refute it at one input. -/
def inputMaskedWrong : ChangeSpec := { name := "inputMasked", fn := fun _ => fun
  | [d1, d2] => { results := [.lit (.bool false)], args := [d1, d2] }
  | _ => none }
def InputMaskedWrongFalsely : Prop := inputMaskedRow.holds Try.pinned (OpenSpec.ofChange inputMaskedWrong)

/-- 'betatronlaw43.InputRises': WHATEVER THE INPUT: true; the input reads as it did. -/
def inputRisesSpec : ChangeSpec := { name := "inputRises", fn := fun _ => fun
  | [d1, d2] => { results := [.lit (.bool true)], args := [d1, d2] }
  | _ => none }
def inputRisesRow : OpenClaim := { program := "ytjkfdmbhiooeiaa", sum := "975ce1954ddf5faffc80480b9d8e3135aef0483075781035ec2ccfb0c79f445e", func := "betatron/betatronlaw43.InputRises", spec := "inputRises", unfollowed := true, recurses := true, apart := false }
def InputRisesSaid : Prop := inputRisesRow.holds Try.pinned (OpenSpec.ofChange inputRisesSpec)

/-- ITS FALSE NEIGHBOUR: 'it returns false'. Refute it at one input. -/
def inputRisesWrong : ChangeSpec := { name := "inputRises", fn := fun _ => fun
  | [d1, d2] => { results := [.lit (.bool false)], args := [d1, d2] }
  | _ => none }
def InputRisesWrongFalsely : Prop := inputRisesRow.holds Try.pinned (OpenSpec.ofChange inputRisesWrong)

/-- 'betatronlaw43.InputFalls': WHATEVER THE INPUT: true; the input reads as it did. -/
def inputFallsSpec : ChangeSpec := { name := "inputFalls", fn := fun _ => fun
  | [d1, d2] => { results := [.lit (.bool true)], args := [d1, d2] }
  | _ => none }
def inputFallsRow : OpenClaim := { program := "ytjkfdmbhiooeiaa", sum := "975ce1954ddf5faffc80480b9d8e3135aef0483075781035ec2ccfb0c79f445e", func := "betatron/betatronlaw43.InputFalls", spec := "inputFalls", unfollowed := true, recurses := true, apart := false }
def InputFallsSaid : Prop := inputFallsRow.holds Try.pinned (OpenSpec.ofChange inputFallsSpec)

/-- ITS FALSE NEIGHBOUR: 'it returns false'. Refute it at one input. -/
def inputFallsWrong : ChangeSpec := { name := "inputFalls", fn := fun _ => fun
  | [d1, d2] => { results := [.lit (.bool false)], args := [d1, d2] }
  | _ => none }
def InputFallsWrongFalsely : Prop := inputFallsRow.holds Try.pinned (OpenSpec.ofChange inputFallsWrong)

/-- 'betatronlaw43.InputStuck': WHATEVER THE INPUT: true; the input reads as it did. -/
def inputStuckSpec : ChangeSpec := { name := "inputStuck", fn := fun _ => fun
  | [d1, d2, d3] => { results := [.lit (.bool true)], args := [d1, d2, d3] }
  | _ => none }
def inputStuckRow : OpenClaim := { program := "ytjkfdmbhiooeiaa", sum := "975ce1954ddf5faffc80480b9d8e3135aef0483075781035ec2ccfb0c79f445e", func := "betatron/betatronlaw43.InputStuck", spec := "inputStuck", unfollowed := true, recurses := true, apart := false }
def InputStuckSaid : Prop := inputStuckRow.holds Try.pinned (OpenSpec.ofChange inputStuckSpec)

/-- ITS FALSE NEIGHBOUR: 'it returns false'. Refute it at one input. -/
def inputStuckWrong : ChangeSpec := { name := "inputStuck", fn := fun _ => fun
  | [d1, d2, d3] => { results := [.lit (.bool false)], args := [d1, d2, d3] }
  | _ => none }
def InputStuckWrongFalsely : Prop := inputStuckRow.holds Try.pinned (OpenSpec.ofChange inputStuckWrong)

/- THE SECOND FORM. 'bulk': how many values and letters a reading holds, each counted each time it is reached (what is shared counts as often as it is met; a slice's spare places count too). A statement '..UptoSaid' is the law's where the arguments, and the package variables that the reading takes, are together of bulk at most 1048576: NARROWER than '..Said'. Prove '..Said' where nothing that the law and all that it calls make is longer than what came in: it says more and counts as full. Else prove '..UptoSaid'. A law counts once. -/
mutual
def uptoBulk {H : Type} : DataW H → Nat
  | .lit (.string bytes) => bytes.length + 1
  | .lit _ => 1
  | .nil => 1
  | .ptr d => uptoBulk d + 1
  | .slice elems spare => uptoBulkAll elems + uptoBulkAll spare + 1
  | .agg parts => uptoBulkAll parts + 1
  | .iface _ d => uptoBulk d + 1
  | .map entries => uptoBulkEntries entries + 1
  | .held _ => 1
def uptoBulkAll {H : Type} : List (DataW H) → Nat
  | [] => 0
  | d :: r => uptoBulk d + uptoBulkAll r
def uptoBulkEntries {H : Type} : List (Lit × DataW H) → Nat
  | [] => 0
  | x :: r => uptoBulkEntry x + uptoBulkEntries r
def uptoBulkEntry {H : Type} : Lit × DataW H → Nat
  | (.string bytes, d) => bytes.length + uptoBulk d + 1
  | (_, d) => uptoBulk d + 1
 end
def uptoSmall : (H : Type) → List (DataW H) → Bool := fun _ ds => decide (uptoBulkAll ds ≤ 1048576)
def OpenSpec.upto (s : _root_.Go.ChangeSpec) : _root_.Go.OpenSpec := { _root_.Go.OpenSpec.ofChange s with cond := some uptoSmall }

/-- 'betatronlaw43.InputSample', WHERE WHAT IT READS IS OF BULK AT MOST 1048576: true; the input reads as it did. -/
def inputSampleUptoRow : OpenClaim := { program := "ytjkfdmbhiooeiaa", sum := "975ce1954ddf5faffc80480b9d8e3135aef0483075781035ec2ccfb0c79f445e", func := "betatron/betatronlaw43.InputSample", spec := "inputSample", unfollowed := true, recurses := true, apart := false, narrowed := true }
def InputSampleUptoSaid : Prop := inputSampleUptoRow.holds Try.pinned (OpenSpec.upto inputSampleSpec)

/-- 'betatronlaw43.InputFilter', WHERE WHAT IT READS IS OF BULK AT MOST 1048576: true; the input reads as it did. -/
def inputFilterUptoRow : OpenClaim := { program := "ytjkfdmbhiooeiaa", sum := "975ce1954ddf5faffc80480b9d8e3135aef0483075781035ec2ccfb0c79f445e", func := "betatron/betatronlaw43.InputFilter", spec := "inputFilter", unfollowed := true, recurses := true, apart := false, narrowed := true }
def InputFilterUptoSaid : Prop := inputFilterUptoRow.holds Try.pinned (OpenSpec.upto inputFilterSpec)

/-- 'betatronlaw43.InputRun', WHERE WHAT IT READS IS OF BULK AT MOST 1048576: true; the input reads as it did. -/
def inputRunUptoRow : OpenClaim := { program := "ytjkfdmbhiooeiaa", sum := "975ce1954ddf5faffc80480b9d8e3135aef0483075781035ec2ccfb0c79f445e", func := "betatron/betatronlaw43.InputRun", spec := "inputRun", unfollowed := true, recurses := true, apart := false, narrowed := true }
def InputRunUptoSaid : Prop := inputRunUptoRow.holds Try.pinned (OpenSpec.upto inputRunSpec)

/-- 'betatronlaw43.InputVote', WHERE WHAT IT READS IS OF BULK AT MOST 1048576: true; the input reads as it did. -/
def inputVoteUptoRow : OpenClaim := { program := "ytjkfdmbhiooeiaa", sum := "975ce1954ddf5faffc80480b9d8e3135aef0483075781035ec2ccfb0c79f445e", func := "betatron/betatronlaw43.InputVote", spec := "inputVote", unfollowed := true, recurses := true, apart := false, narrowed := true }
def InputVoteUptoSaid : Prop := inputVoteUptoRow.holds Try.pinned (OpenSpec.upto inputVoteSpec)

/-- 'betatronlaw43.InputMasked', WHERE WHAT IT READS IS OF BULK AT MOST 1048576: true; the input reads as it did. -/
def inputMaskedUptoRow : OpenClaim := { program := "ytjkfdmbhiooeiaa", sum := "975ce1954ddf5faffc80480b9d8e3135aef0483075781035ec2ccfb0c79f445e", func := "betatron/betatronlaw43.InputMasked", spec := "inputMasked", unfollowed := true, recurses := true, apart := false, narrowed := true }
def InputMaskedUptoSaid : Prop := inputMaskedUptoRow.holds Try.pinned (OpenSpec.upto inputMaskedSpec)

/-- 'betatronlaw43.InputRises', WHERE WHAT IT READS IS OF BULK AT MOST 1048576: true; the input reads as it did. -/
def inputRisesUptoRow : OpenClaim := { program := "ytjkfdmbhiooeiaa", sum := "975ce1954ddf5faffc80480b9d8e3135aef0483075781035ec2ccfb0c79f445e", func := "betatron/betatronlaw43.InputRises", spec := "inputRises", unfollowed := true, recurses := true, apart := false, narrowed := true }
def InputRisesUptoSaid : Prop := inputRisesUptoRow.holds Try.pinned (OpenSpec.upto inputRisesSpec)

/-- 'betatronlaw43.InputFalls', WHERE WHAT IT READS IS OF BULK AT MOST 1048576: true; the input reads as it did. -/
def inputFallsUptoRow : OpenClaim := { program := "ytjkfdmbhiooeiaa", sum := "975ce1954ddf5faffc80480b9d8e3135aef0483075781035ec2ccfb0c79f445e", func := "betatron/betatronlaw43.InputFalls", spec := "inputFalls", unfollowed := true, recurses := true, apart := false, narrowed := true }
def InputFallsUptoSaid : Prop := inputFallsUptoRow.holds Try.pinned (OpenSpec.upto inputFallsSpec)

/-- 'betatronlaw43.InputStuck', WHERE WHAT IT READS IS OF BULK AT MOST 1048576: true; the input reads as it did. -/
def inputStuckUptoRow : OpenClaim := { program := "ytjkfdmbhiooeiaa", sum := "975ce1954ddf5faffc80480b9d8e3135aef0483075781035ec2ccfb0c79f445e", func := "betatron/betatronlaw43.InputStuck", spec := "inputStuck", unfollowed := true, recurses := true, apart := false, narrowed := true }
def InputStuckUptoSaid : Prop := inputStuckUptoRow.holds Try.pinned (OpenSpec.upto inputStuckSpec)

end Rows
end Go.Proofs.Ytjkfdmbhiooeiaa
