/-
  DERIVED. GIVEN WITH THE SEED: THE CARDS: each row of YtblfgknonjogfaaGreatDoorRows.lean that lists a variable, with what it lists TIED to the program's text (the seventh form; the later family's looks); each row that meets fmt, with fmt's text TOLD by the authors' own Lean function (tested against real Go, not proved from fmt's source: count such statements apart). THE CARD IS WHAT COUNTS. Prove the row's statement (the work); the ties are given (YtblfgknonjogfaaGreatDoorTie.lean); close each card by the builder's one call (the guide's Derived/Test/ToyasCard.lean, 'card_holds'). Laid BY PROGRAM, IN A SANDBOX (cutbox-door.mjs). By AI agents, Wed Nov 11 2026. No macro, syntax, notation, axiom, sorry.
-/
import Derived.Test.YtblfgknonjogfaaGreatDoorRows
import GoSem.ClaimSeven
namespace Go.Proofs.YtblfgknonjogfaaGreatDoor
namespace Rows

/-- THE TIED CARD OF 'betatronlaw02.RatioMade'. -/
def ratioMadeCard : Claim7 := { stood := { row := ratioMadeRow, standIns := [], harness := (true, "43ec375636a08b386d2cfe1a76d0db78f2cec17376a5008dff1873e5cc532c2b"), looks := false }, kinds := [], alts := [], laidByText := true, laidKinds := [.data, .pinned], laidTests := true, laidLooks := .later }
def RatioMadeCardSaid : Prop := Claim7.holds Tryz.pinned (.plain (OpenSpec.ofChange ratioMadeSpec)) ratioMadeCard

/-- THE TIED CARD OF 'betatronlaw02.RatioText'. -/
def ratioTextCard : Claim7 := { stood := { row := ratioTextRow, standIns := [], harness := (true, "43ec375636a08b386d2cfe1a76d0db78f2cec17376a5008dff1873e5cc532c2b"), looks := false }, kinds := [], alts := [], laidByText := true, laidKinds := [.data, .pinned], laidTests := true, laidLooks := .later }
def RatioTextCardSaid : Prop := Claim7.holds Tryz.pinned (.plain (OpenSpec.ofChange ratioTextSpec)) ratioTextCard

/-- THE TIED CARD OF 'betatronlaw02.RatioParse'. -/
def ratioParseCard : Claim7 := { stood := { row := ratioParseRow, standIns := [], harness := (true, "43ec375636a08b386d2cfe1a76d0db78f2cec17376a5008dff1873e5cc532c2b"), looks := false }, kinds := [], alts := [], laidByText := true, laidKinds := [.data, .pinned], laidTests := true, laidLooks := .later }
def RatioParseCardSaid : Prop := Claim7.holds Tryz.pinned (.plain (OpenSpec.ofChange ratioParseSpec)) ratioParseCard

/-- THE TIED CARD OF 'betatronlaw02.RatioOperations'. -/
def ratioOperationsCard : Claim7 := { stood := { row := ratioOperationsRow, standIns := [], harness := (true, "43ec375636a08b386d2cfe1a76d0db78f2cec17376a5008dff1873e5cc532c2b"), looks := false }, kinds := [], alts := [], laidByText := true, laidKinds := [.data, .pinned], laidTests := true, laidLooks := .later }
def RatioOperationsCardSaid : Prop := Claim7.holds Tryz.pinned (.plain (OpenSpec.ofChange ratioOperationsSpec)) ratioOperationsCard

/-- THE TIED CARD OF 'betatronlaw02.RatioLaws'. -/
def ratioLawsCard : Claim7 := { stood := { row := ratioLawsRow, standIns := [], harness := (true, "43ec375636a08b386d2cfe1a76d0db78f2cec17376a5008dff1873e5cc532c2b"), looks := false }, kinds := [], alts := [], laidByText := true, laidKinds := [.data, .pinned], laidTests := true, laidLooks := .later }
def RatioLawsCardSaid : Prop := Claim7.holds Tryz.pinned (.plain (OpenSpec.ofChange ratioLawsSpec)) ratioLawsCard

/-- THE TIED CARD OF 'betatronlaw02.RatioOrder'. -/
def ratioOrderCard : Claim7 := { stood := { row := ratioOrderRow, standIns := [], harness := (true, "43ec375636a08b386d2cfe1a76d0db78f2cec17376a5008dff1873e5cc532c2b"), looks := false }, kinds := [], alts := [], laidByText := true, laidKinds := [.data, .pinned], laidTests := true, laidLooks := .later }
def RatioOrderCardSaid : Prop := Claim7.holds Tryz.pinned (.plain (OpenSpec.ofChange ratioOrderSpec)) ratioOrderCard

/-- THE TIED CARD OF 'betatronlaw02.RatioFloor'. -/
def ratioFloorCard : Claim7 := { stood := { row := ratioFloorRow, standIns := [], harness := (true, "43ec375636a08b386d2cfe1a76d0db78f2cec17376a5008dff1873e5cc532c2b"), looks := false }, kinds := [], alts := [], laidByText := true, laidKinds := [.data, .pinned], laidTests := true, laidLooks := .later }
def RatioFloorCardSaid : Prop := Claim7.holds Tryz.pinned (.plain (OpenSpec.ofChange ratioFloorSpec)) ratioFloorCard

/-- THE TIED CARD OF 'betatronlaw02.RatioRound'. -/
def ratioRoundCard : Claim7 := { stood := { row := ratioRoundRow, standIns := [], harness := (true, "43ec375636a08b386d2cfe1a76d0db78f2cec17376a5008dff1873e5cc532c2b"), looks := false }, kinds := [], alts := [], laidByText := true, laidKinds := [.data, .pinned], laidTests := true, laidLooks := .later }
def RatioRoundCardSaid : Prop := Claim7.holds Tryz.pinned (.plain (OpenSpec.ofChange ratioRoundSpec)) ratioRoundCard

/-- THE TIED CARD OF 'betatronlaw02.RatioNear'. -/
def ratioNearCard : Claim7 := { stood := { row := ratioNearRow, standIns := [], harness := (true, "43ec375636a08b386d2cfe1a76d0db78f2cec17376a5008dff1873e5cc532c2b"), looks := false }, kinds := [], alts := [], laidByText := true, laidKinds := [.data, .pinned], laidTests := true, laidLooks := .later }
def RatioNearCardSaid : Prop := Claim7.holds Tryz.pinned (.plain (OpenSpec.ofChange ratioNearSpec)) ratioNearCard

/-- THE SECOND FORM's CARD OF 'betatronlaw02.RatioMade'. -/
def ratioMadeUptoCard : Claim7 := { stood := { row := ratioMadeUptoRow, standIns := [], harness := (true, "43ec375636a08b386d2cfe1a76d0db78f2cec17376a5008dff1873e5cc532c2b"), looks := false }, kinds := [], alts := [], laidByText := true, laidKinds := [.data, .pinned], laidTests := true, laidLooks := .later }
def RatioMadeUptoCardSaid : Prop := Claim7.holds Tryz.pinned (.plain (OpenSpec.upto ratioMadeSpec)) ratioMadeUptoCard

/-- THE SECOND FORM's CARD OF 'betatronlaw02.RatioText'. -/
def ratioTextUptoCard : Claim7 := { stood := { row := ratioTextUptoRow, standIns := [], harness := (true, "43ec375636a08b386d2cfe1a76d0db78f2cec17376a5008dff1873e5cc532c2b"), looks := false }, kinds := [], alts := [], laidByText := true, laidKinds := [.data, .pinned], laidTests := true, laidLooks := .later }
def RatioTextUptoCardSaid : Prop := Claim7.holds Tryz.pinned (.plain (OpenSpec.upto ratioTextSpec)) ratioTextUptoCard

/-- THE SECOND FORM's CARD OF 'betatronlaw02.RatioParse'. -/
def ratioParseUptoCard : Claim7 := { stood := { row := ratioParseUptoRow, standIns := [], harness := (true, "43ec375636a08b386d2cfe1a76d0db78f2cec17376a5008dff1873e5cc532c2b"), looks := false }, kinds := [], alts := [], laidByText := true, laidKinds := [.data, .pinned], laidTests := true, laidLooks := .later }
def RatioParseUptoCardSaid : Prop := Claim7.holds Tryz.pinned (.plain (OpenSpec.upto ratioParseSpec)) ratioParseUptoCard

/-- THE SECOND FORM's CARD OF 'betatronlaw02.RatioOperations'. -/
def ratioOperationsUptoCard : Claim7 := { stood := { row := ratioOperationsUptoRow, standIns := [], harness := (true, "43ec375636a08b386d2cfe1a76d0db78f2cec17376a5008dff1873e5cc532c2b"), looks := false }, kinds := [], alts := [], laidByText := true, laidKinds := [.data, .pinned], laidTests := true, laidLooks := .later }
def RatioOperationsUptoCardSaid : Prop := Claim7.holds Tryz.pinned (.plain (OpenSpec.upto ratioOperationsSpec)) ratioOperationsUptoCard

/-- THE SECOND FORM's CARD OF 'betatronlaw02.RatioLaws'. -/
def ratioLawsUptoCard : Claim7 := { stood := { row := ratioLawsUptoRow, standIns := [], harness := (true, "43ec375636a08b386d2cfe1a76d0db78f2cec17376a5008dff1873e5cc532c2b"), looks := false }, kinds := [], alts := [], laidByText := true, laidKinds := [.data, .pinned], laidTests := true, laidLooks := .later }
def RatioLawsUptoCardSaid : Prop := Claim7.holds Tryz.pinned (.plain (OpenSpec.upto ratioLawsSpec)) ratioLawsUptoCard

/-- THE SECOND FORM's CARD OF 'betatronlaw02.RatioOrder'. -/
def ratioOrderUptoCard : Claim7 := { stood := { row := ratioOrderUptoRow, standIns := [], harness := (true, "43ec375636a08b386d2cfe1a76d0db78f2cec17376a5008dff1873e5cc532c2b"), looks := false }, kinds := [], alts := [], laidByText := true, laidKinds := [.data, .pinned], laidTests := true, laidLooks := .later }
def RatioOrderUptoCardSaid : Prop := Claim7.holds Tryz.pinned (.plain (OpenSpec.upto ratioOrderSpec)) ratioOrderUptoCard

/-- THE SECOND FORM's CARD OF 'betatronlaw02.RatioFloor'. -/
def ratioFloorUptoCard : Claim7 := { stood := { row := ratioFloorUptoRow, standIns := [], harness := (true, "43ec375636a08b386d2cfe1a76d0db78f2cec17376a5008dff1873e5cc532c2b"), looks := false }, kinds := [], alts := [], laidByText := true, laidKinds := [.data, .pinned], laidTests := true, laidLooks := .later }
def RatioFloorUptoCardSaid : Prop := Claim7.holds Tryz.pinned (.plain (OpenSpec.upto ratioFloorSpec)) ratioFloorUptoCard

/-- THE SECOND FORM's CARD OF 'betatronlaw02.RatioRound'. -/
def ratioRoundUptoCard : Claim7 := { stood := { row := ratioRoundUptoRow, standIns := [], harness := (true, "43ec375636a08b386d2cfe1a76d0db78f2cec17376a5008dff1873e5cc532c2b"), looks := false }, kinds := [], alts := [], laidByText := true, laidKinds := [.data, .pinned], laidTests := true, laidLooks := .later }
def RatioRoundUptoCardSaid : Prop := Claim7.holds Tryz.pinned (.plain (OpenSpec.upto ratioRoundSpec)) ratioRoundUptoCard

/-- THE SECOND FORM's CARD OF 'betatronlaw02.RatioNear'. -/
def ratioNearUptoCard : Claim7 := { stood := { row := ratioNearUptoRow, standIns := [], harness := (true, "43ec375636a08b386d2cfe1a76d0db78f2cec17376a5008dff1873e5cc532c2b"), looks := false }, kinds := [], alts := [], laidByText := true, laidKinds := [.data, .pinned], laidTests := true, laidLooks := .later }
def RatioNearUptoCardSaid : Prop := Claim7.holds Tryz.pinned (.plain (OpenSpec.upto ratioNearSpec)) ratioNearUptoCard
end Rows
end Go.Proofs.YtblfgknonjogfaaGreatDoor
