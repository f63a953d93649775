/-
  NARROWER THAN 'FOR EVERY INPUT', by the rows' own cells (each row's printed sentence says how): ConverterValid: laid · ConverterCommand: laid · ConverterTick: laid · ConverterRun: laid · ConverterAllowed: laid · ConverterAdds: laid · ConverterArrives: laid · ConverterTrips: laid.
  DERIVED. THE GIVEN ROWS OF THIS SEAT. 8 by the template 'for every input the law returns true; each argument reads behind the call as it read before'; 0 by the template 'total and deterministic' (their statements: YtacfjngnfgnmeaaDoorTotals.lean).
  GIVEN WITH THE SEED: the statements are not yours to turn. If you find one false, say at which input.
  Laid BY PROGRAM, IN A SANDBOX (cutbox-rows.mjs): the forced cells as the released guide's own fill.sh prints them over the translation ca59a40164f9dcf3… (all of the seat's roots in one cut). By AI agents, Wed Nov 11 2026. No macro, syntax, notation, axiom, sorry.
-/
import Derived.Test.YtacfjngnfgnmeaaDoorChecked
import GoSem.Claim
import GoSem.ClaimJoined
import GoSem.ClaimMapViews
import Derived.JoinedTies
import Derived.KernelRfl
namespace Go.Proofs.YtacfjngnfgnmeaaDoor
/- THE CELL 'sum', in the pinned program and in every row, IS THE sha256 OF THE DUMP (.gsa) THAT YtacfjngnfgnmeaaDoorProg.lean LOADS. Nothing in Lean hashes anything: it is a label: what it is worth is what the hold of that sum in a sandbox is worth. -/
noncomputable def Tryd.pinned : Pinned := { name := "ytacfjngnfgnmeaadoor", sum := "ca59a40164f9dcf312430b1da629e9fc4493f2cbc829e23e47384486c529401e", checked := Tryd.checked }
namespace Rows
def none {H : Type} : Left H := { results := [], args := [] }

/- WHAT THE LISTED PACKAGE-LEVEL VARIABLES READ AS WHEN THE CALL BEGINS. Each datum BY PROGRAM (the guide's laid-datum.mjs) off the statement by which the dump's own 'gosem.cut.vars' lays the variable. In a bare row this is a premise. The card (YtacfjngnfgnmeaaDoorCards.lean) ties it to the program's text. -/
def laid_betatron_converter_names {H : Type} : DataW H := .agg [.lit (.string [111, 102, 102]), .lit (.string [115, 116, 97, 110, 100, 98, 121]), .lit (.string [111, 110]), .lit (.string [114, 97, 109, 112, 105, 110, 103]), .lit (.string [102, 97, 117, 108, 116])]

/-- 'betatronlaw25.ConverterValid': WHATEVER THE INPUT: true; the input reads as it did. -/
def converterValidSpec : ChangeSpec := { name := "converterValid", fn := fun _ => fun
  | [d1, d2] => { results := [.lit (.bool true)], args := [d1, d2] }
  | _ => none }
def converterValidRow : OpenClaim := { program := "ytacfjngnfgnmeaadoor", sum := "ca59a40164f9dcf312430b1da629e9fc4493f2cbc829e23e47384486c529401e", func := "betatron/betatronlaw25.ConverterValid", spec := "converterValid", named := ["betatron/converter.names"], apart := false, laid := [("betatron/converter.names", laid_betatron_converter_names)] }
def ConverterValidSaid : Prop := converterValidRow.holds Tryd.pinned (OpenSpec.ofChange converterValidSpec)

/-- ITS FALSE NEIGHBOUR: 'it returns false'. Refute it at one input. -/
def converterValidWrong : ChangeSpec := { name := "converterValid", fn := fun _ => fun
  | [d1, d2] => { results := [.lit (.bool false)], args := [d1, d2] }
  | _ => none }
def ConverterValidWrongFalsely : Prop := converterValidRow.holds Tryd.pinned (OpenSpec.ofChange converterValidWrong)

/-- 'betatronlaw25.ConverterCommand': WHATEVER THE INPUT: true; the input reads as it did. -/
def converterCommandSpec : ChangeSpec := { name := "converterCommand", fn := fun _ => fun
  | [d1, d2, d3] => { results := [.lit (.bool true)], args := [d1, d2, d3] }
  | _ => none }
def converterCommandRow : OpenClaim := { program := "ytacfjngnfgnmeaadoor", sum := "ca59a40164f9dcf312430b1da629e9fc4493f2cbc829e23e47384486c529401e", func := "betatron/betatronlaw25.ConverterCommand", spec := "converterCommand", named := ["betatron/converter.names"], apart := false, laid := [("betatron/converter.names", laid_betatron_converter_names)] }
def ConverterCommandSaid : Prop := converterCommandRow.holds Tryd.pinned (OpenSpec.ofChange converterCommandSpec)

/-- ITS FALSE NEIGHBOUR: 'it returns false'. Refute it at one input. -/
def converterCommandWrong : ChangeSpec := { name := "converterCommand", fn := fun _ => fun
  | [d1, d2, d3] => { results := [.lit (.bool false)], args := [d1, d2, d3] }
  | _ => none }
def ConverterCommandWrongFalsely : Prop := converterCommandRow.holds Tryd.pinned (OpenSpec.ofChange converterCommandWrong)

/-- 'betatronlaw25.ConverterTick': WHATEVER THE INPUT: true; the input reads as it did. -/
def converterTickSpec : ChangeSpec := { name := "converterTick", fn := fun _ => fun
  | [d1, d2] => { results := [.lit (.bool true)], args := [d1, d2] }
  | _ => none }
def converterTickRow : OpenClaim := { program := "ytacfjngnfgnmeaadoor", sum := "ca59a40164f9dcf312430b1da629e9fc4493f2cbc829e23e47384486c529401e", func := "betatron/betatronlaw25.ConverterTick", spec := "converterTick", named := ["betatron/converter.names"], apart := false, laid := [("betatron/converter.names", laid_betatron_converter_names)] }
def ConverterTickSaid : Prop := converterTickRow.holds Tryd.pinned (OpenSpec.ofChange converterTickSpec)

/-- ITS FALSE NEIGHBOUR: 'it returns false'. Refute it at one input. -/
def converterTickWrong : ChangeSpec := { name := "converterTick", fn := fun _ => fun
  | [d1, d2] => { results := [.lit (.bool false)], args := [d1, d2] }
  | _ => none }
def ConverterTickWrongFalsely : Prop := converterTickRow.holds Tryd.pinned (OpenSpec.ofChange converterTickWrong)

/-- 'betatronlaw25.ConverterRun': WHATEVER THE INPUT: true; the input reads as it did. -/
def converterRunSpec : ChangeSpec := { name := "converterRun", fn := fun _ => fun
  | [d1, d2] => { results := [.lit (.bool true)], args := [d1, d2] }
  | _ => none }
def converterRunRow : OpenClaim := { program := "ytacfjngnfgnmeaadoor", sum := "ca59a40164f9dcf312430b1da629e9fc4493f2cbc829e23e47384486c529401e", func := "betatron/betatronlaw25.ConverterRun", spec := "converterRun", named := ["betatron/converter.names"], apart := false, laid := [("betatron/converter.names", laid_betatron_converter_names)] }
def ConverterRunSaid : Prop := converterRunRow.holds Tryd.pinned (OpenSpec.ofChange converterRunSpec)

/-- ITS FALSE NEIGHBOUR: 'it returns false'. Refute it at one input. -/
def converterRunWrong : ChangeSpec := { name := "converterRun", fn := fun _ => fun
  | [d1, d2] => { results := [.lit (.bool false)], args := [d1, d2] }
  | _ => none }
def ConverterRunWrongFalsely : Prop := converterRunRow.holds Tryd.pinned (OpenSpec.ofChange converterRunWrong)

/-- 'betatronlaw25.ConverterAllowed': WHATEVER THE INPUT: true; the input reads as it did. -/
def converterAllowedSpec : ChangeSpec := { name := "converterAllowed", fn := fun _ => fun
  | [d1, d2] => { results := [.lit (.bool true)], args := [d1, d2] }
  | _ => none }
def converterAllowedRow : OpenClaim := { program := "ytacfjngnfgnmeaadoor", sum := "ca59a40164f9dcf312430b1da629e9fc4493f2cbc829e23e47384486c529401e", func := "betatron/betatronlaw25.ConverterAllowed", spec := "converterAllowed", named := ["betatron/converter.names"], apart := false, laid := [("betatron/converter.names", laid_betatron_converter_names)] }
def ConverterAllowedSaid : Prop := converterAllowedRow.holds Tryd.pinned (OpenSpec.ofChange converterAllowedSpec)

/-- ITS FALSE NEIGHBOUR: 'it returns false'. Refute it at one input. -/
def converterAllowedWrong : ChangeSpec := { name := "converterAllowed", fn := fun _ => fun
  | [d1, d2] => { results := [.lit (.bool false)], args := [d1, d2] }
  | _ => none }
def ConverterAllowedWrongFalsely : Prop := converterAllowedRow.holds Tryd.pinned (OpenSpec.ofChange converterAllowedWrong)

/-- 'betatronlaw25.ConverterAdds': WHATEVER THE INPUT: true; the input reads as it did. -/
def converterAddsSpec : ChangeSpec := { name := "converterAdds", fn := fun _ => fun
  | [d1, d2, d3] => { results := [.lit (.bool true)], args := [d1, d2, d3] }
  | _ => none }
def converterAddsRow : OpenClaim := { program := "ytacfjngnfgnmeaadoor", sum := "ca59a40164f9dcf312430b1da629e9fc4493f2cbc829e23e47384486c529401e", func := "betatron/betatronlaw25.ConverterAdds", spec := "converterAdds", named := ["betatron/converter.names"], apart := false, laid := [("betatron/converter.names", laid_betatron_converter_names)] }
def ConverterAddsSaid : Prop := converterAddsRow.holds Tryd.pinned (OpenSpec.ofChange converterAddsSpec)

/-- ITS FALSE NEIGHBOUR: 'it returns false'. Refute it at one input. -/
def converterAddsWrong : ChangeSpec := { name := "converterAdds", fn := fun _ => fun
  | [d1, d2, d3] => { results := [.lit (.bool false)], args := [d1, d2, d3] }
  | _ => none }
def ConverterAddsWrongFalsely : Prop := converterAddsRow.holds Tryd.pinned (OpenSpec.ofChange converterAddsWrong)

/-- 'betatronlaw25.ConverterArrives': WHATEVER THE INPUT: true; the input reads as it did. -/
def converterArrivesSpec : ChangeSpec := { name := "converterArrives", fn := fun _ => fun
  | [d1, d2, d3] => { results := [.lit (.bool true)], args := [d1, d2, d3] }
  | _ => none }
def converterArrivesRow : OpenClaim := { program := "ytacfjngnfgnmeaadoor", sum := "ca59a40164f9dcf312430b1da629e9fc4493f2cbc829e23e47384486c529401e", func := "betatron/betatronlaw25.ConverterArrives", spec := "converterArrives", named := ["betatron/converter.names"], apart := false, laid := [("betatron/converter.names", laid_betatron_converter_names)] }
def ConverterArrivesSaid : Prop := converterArrivesRow.holds Tryd.pinned (OpenSpec.ofChange converterArrivesSpec)

/-- ITS FALSE NEIGHBOUR: 'it returns false'. Refute it at one input. -/
def converterArrivesWrong : ChangeSpec := { name := "converterArrives", fn := fun _ => fun
  | [d1, d2, d3] => { results := [.lit (.bool false)], args := [d1, d2, d3] }
  | _ => none }
def ConverterArrivesWrongFalsely : Prop := converterArrivesRow.holds Tryd.pinned (OpenSpec.ofChange converterArrivesWrong)

/-- 'betatronlaw25.ConverterTrips': WHATEVER THE INPUT: true; the input reads as it did. -/
def converterTripsSpec : ChangeSpec := { name := "converterTrips", fn := fun _ => fun
  | [d1, d2, d3] => { results := [.lit (.bool true)], args := [d1, d2, d3] }
  | _ => none }
def converterTripsRow : OpenClaim := { program := "ytacfjngnfgnmeaadoor", sum := "ca59a40164f9dcf312430b1da629e9fc4493f2cbc829e23e47384486c529401e", func := "betatron/betatronlaw25.ConverterTrips", spec := "converterTrips", named := ["betatron/converter.names"], apart := false, laid := [("betatron/converter.names", laid_betatron_converter_names)] }
def ConverterTripsSaid : Prop := converterTripsRow.holds Tryd.pinned (OpenSpec.ofChange converterTripsSpec)

/-- ITS FALSE NEIGHBOUR: 'it returns false'. Refute it at one input. -/
def converterTripsWrong : ChangeSpec := { name := "converterTrips", fn := fun _ => fun
  | [d1, d2, d3] => { results := [.lit (.bool false)], args := [d1, d2, d3] }
  | _ => none }
def ConverterTripsWrongFalsely : Prop := converterTripsRow.holds Tryd.pinned (OpenSpec.ofChange converterTripsWrong)

/- THE SECOND FORM. 'bulk': how many values and letters a reading holds, each counted each time it is reached (what is shared counts as often as it is met; a slice's spare places count too). A statement '..UptoSaid' is the law's where the arguments, and the package variables that the reading takes, are together of bulk at most 1048576: NARROWER than '..Said'. Prove '..Said' where nothing that the law and all that it calls make is longer than what came in: it says more and counts as full. Else prove '..UptoSaid'. A law counts once. -/
mutual
def uptoBulk {H : Type} : DataW H → Nat
  | .lit (.string bytes) => bytes.length + 1
  | .lit _ => 1
  | .nil => 1
  | .ptr d => uptoBulk d + 1
  | .slice elems spare => uptoBulkAll elems + uptoBulkAll spare + 1
  | .agg parts => uptoBulkAll parts + 1
  | .iface _ d => uptoBulk d + 1
  | .map entries => uptoBulkEntries entries + 1
  | .held _ => 1
def uptoBulkAll {H : Type} : List (DataW H) → Nat
  | [] => 0
  | d :: r => uptoBulk d + uptoBulkAll r
def uptoBulkEntries {H : Type} : List (Lit × DataW H) → Nat
  | [] => 0
  | x :: r => uptoBulkEntry x + uptoBulkEntries r
def uptoBulkEntry {H : Type} : Lit × DataW H → Nat
  | (.string bytes, d) => bytes.length + uptoBulk d + 1
  | (_, d) => uptoBulk d + 1
 end
def uptoSmall : (H : Type) → List (DataW H) → Bool := fun _ ds => decide (uptoBulkAll ds ≤ 1048576)
def OpenSpec.upto (s : _root_.Go.ChangeSpec) : _root_.Go.OpenSpec := { _root_.Go.OpenSpec.ofChange s with cond := some uptoSmall }

/-- 'betatronlaw25.ConverterValid', WHERE WHAT IT READS IS OF BULK AT MOST 1048576: true; the input reads as it did. -/
def converterValidUptoRow : OpenClaim := { program := "ytacfjngnfgnmeaadoor", sum := "ca59a40164f9dcf312430b1da629e9fc4493f2cbc829e23e47384486c529401e", func := "betatron/betatronlaw25.ConverterValid", spec := "converterValid", named := ["betatron/converter.names"], apart := false, laid := [("betatron/converter.names", laid_betatron_converter_names)], narrowed := true }
def ConverterValidUptoSaid : Prop := converterValidUptoRow.holds Tryd.pinned (OpenSpec.upto converterValidSpec)

/-- 'betatronlaw25.ConverterCommand', WHERE WHAT IT READS IS OF BULK AT MOST 1048576: true; the input reads as it did. -/
def converterCommandUptoRow : OpenClaim := { program := "ytacfjngnfgnmeaadoor", sum := "ca59a40164f9dcf312430b1da629e9fc4493f2cbc829e23e47384486c529401e", func := "betatron/betatronlaw25.ConverterCommand", spec := "converterCommand", named := ["betatron/converter.names"], apart := false, laid := [("betatron/converter.names", laid_betatron_converter_names)], narrowed := true }
def ConverterCommandUptoSaid : Prop := converterCommandUptoRow.holds Tryd.pinned (OpenSpec.upto converterCommandSpec)

/-- 'betatronlaw25.ConverterTick', WHERE WHAT IT READS IS OF BULK AT MOST 1048576: true; the input reads as it did. -/
def converterTickUptoRow : OpenClaim := { program := "ytacfjngnfgnmeaadoor", sum := "ca59a40164f9dcf312430b1da629e9fc4493f2cbc829e23e47384486c529401e", func := "betatron/betatronlaw25.ConverterTick", spec := "converterTick", named := ["betatron/converter.names"], apart := false, laid := [("betatron/converter.names", laid_betatron_converter_names)], narrowed := true }
def ConverterTickUptoSaid : Prop := converterTickUptoRow.holds Tryd.pinned (OpenSpec.upto converterTickSpec)

/-- 'betatronlaw25.ConverterRun', WHERE WHAT IT READS IS OF BULK AT MOST 1048576: true; the input reads as it did. -/
def converterRunUptoRow : OpenClaim := { program := "ytacfjngnfgnmeaadoor", sum := "ca59a40164f9dcf312430b1da629e9fc4493f2cbc829e23e47384486c529401e", func := "betatron/betatronlaw25.ConverterRun", spec := "converterRun", named := ["betatron/converter.names"], apart := false, laid := [("betatron/converter.names", laid_betatron_converter_names)], narrowed := true }
def ConverterRunUptoSaid : Prop := converterRunUptoRow.holds Tryd.pinned (OpenSpec.upto converterRunSpec)

/-- 'betatronlaw25.ConverterAllowed', WHERE WHAT IT READS IS OF BULK AT MOST 1048576: true; the input reads as it did. -/
def converterAllowedUptoRow : OpenClaim := { program := "ytacfjngnfgnmeaadoor", sum := "ca59a40164f9dcf312430b1da629e9fc4493f2cbc829e23e47384486c529401e", func := "betatron/betatronlaw25.ConverterAllowed", spec := "converterAllowed", named := ["betatron/converter.names"], apart := false, laid := [("betatron/converter.names", laid_betatron_converter_names)], narrowed := true }
def ConverterAllowedUptoSaid : Prop := converterAllowedUptoRow.holds Tryd.pinned (OpenSpec.upto converterAllowedSpec)

/-- 'betatronlaw25.ConverterAdds', WHERE WHAT IT READS IS OF BULK AT MOST 1048576: true; the input reads as it did. -/
def converterAddsUptoRow : OpenClaim := { program := "ytacfjngnfgnmeaadoor", sum := "ca59a40164f9dcf312430b1da629e9fc4493f2cbc829e23e47384486c529401e", func := "betatron/betatronlaw25.ConverterAdds", spec := "converterAdds", named := ["betatron/converter.names"], apart := false, laid := [("betatron/converter.names", laid_betatron_converter_names)], narrowed := true }
def ConverterAddsUptoSaid : Prop := converterAddsUptoRow.holds Tryd.pinned (OpenSpec.upto converterAddsSpec)

/-- 'betatronlaw25.ConverterArrives', WHERE WHAT IT READS IS OF BULK AT MOST 1048576: true; the input reads as it did. -/
def converterArrivesUptoRow : OpenClaim := { program := "ytacfjngnfgnmeaadoor", sum := "ca59a40164f9dcf312430b1da629e9fc4493f2cbc829e23e47384486c529401e", func := "betatron/betatronlaw25.ConverterArrives", spec := "converterArrives", named := ["betatron/converter.names"], apart := false, laid := [("betatron/converter.names", laid_betatron_converter_names)], narrowed := true }
def ConverterArrivesUptoSaid : Prop := converterArrivesUptoRow.holds Tryd.pinned (OpenSpec.upto converterArrivesSpec)

/-- 'betatronlaw25.ConverterTrips', WHERE WHAT IT READS IS OF BULK AT MOST 1048576: true; the input reads as it did. -/
def converterTripsUptoRow : OpenClaim := { program := "ytacfjngnfgnmeaadoor", sum := "ca59a40164f9dcf312430b1da629e9fc4493f2cbc829e23e47384486c529401e", func := "betatron/betatronlaw25.ConverterTrips", spec := "converterTrips", named := ["betatron/converter.names"], apart := false, laid := [("betatron/converter.names", laid_betatron_converter_names)], narrowed := true }
def ConverterTripsUptoSaid : Prop := converterTripsUptoRow.holds Tryd.pinned (OpenSpec.upto converterTripsSpec)

end Rows
end Go.Proofs.YtacfjngnfgnmeaaDoor
