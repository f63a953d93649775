/-
  DERIVED. GIVEN WITH THE SEED: THE CARDS: each row of YtacfjngnfgnmeaaDoorRows.lean that lists a variable, with what it lists TIED to the program's text (the seventh form; the later family's looks); each row that meets fmt, with fmt's text TOLD by the authors' own Lean function (tested against real Go, not proved from fmt's source: count such statements apart). THE CARD IS WHAT COUNTS. Prove the row's statement (the work); the ties are given (YtacfjngnfgnmeaaDoorTie.lean); close each card by the builder's one call (the guide's Derived/Test/ToyasCard.lean, 'card_holds'). Laid BY PROGRAM, IN A SANDBOX (cutbox-door.mjs). By AI agents, Wed Nov 11 2026. No macro, syntax, notation, axiom, sorry.
-/
import Derived.Test.YtacfjngnfgnmeaaDoorRows
import GoSem.ClaimSeven
namespace Go.Proofs.YtacfjngnfgnmeaaDoor
namespace Rows

/-- THE TIED CARD OF 'betatronlaw25.ConverterValid'. -/
def converterValidCard : Claim7 := { stood := { row := converterValidRow, standIns := [], harness := (true, "867ce1f3e5a8dcaf9792870a0361571d4a828cb2ec3ee3c4abb95d4c8e4e1949"), looks := false }, kinds := [], alts := [], laidByText := true, laidKinds := [.data], laidTests := true, laidLooks := .later }
def ConverterValidCardSaid : Prop := Claim7.holds Tryd.pinned (.plain (OpenSpec.ofChange converterValidSpec)) converterValidCard

/-- THE TIED CARD OF 'betatronlaw25.ConverterCommand'. -/
def converterCommandCard : Claim7 := { stood := { row := converterCommandRow, standIns := [], harness := (true, "867ce1f3e5a8dcaf9792870a0361571d4a828cb2ec3ee3c4abb95d4c8e4e1949"), looks := false }, kinds := [], alts := [], laidByText := true, laidKinds := [.data], laidTests := true, laidLooks := .later }
def ConverterCommandCardSaid : Prop := Claim7.holds Tryd.pinned (.plain (OpenSpec.ofChange converterCommandSpec)) converterCommandCard

/-- THE TIED CARD OF 'betatronlaw25.ConverterTick'. -/
def converterTickCard : Claim7 := { stood := { row := converterTickRow, standIns := [], harness := (true, "867ce1f3e5a8dcaf9792870a0361571d4a828cb2ec3ee3c4abb95d4c8e4e1949"), looks := false }, kinds := [], alts := [], laidByText := true, laidKinds := [.data], laidTests := true, laidLooks := .later }
def ConverterTickCardSaid : Prop := Claim7.holds Tryd.pinned (.plain (OpenSpec.ofChange converterTickSpec)) converterTickCard

/-- THE TIED CARD OF 'betatronlaw25.ConverterRun'. -/
def converterRunCard : Claim7 := { stood := { row := converterRunRow, standIns := [], harness := (true, "867ce1f3e5a8dcaf9792870a0361571d4a828cb2ec3ee3c4abb95d4c8e4e1949"), looks := false }, kinds := [], alts := [], laidByText := true, laidKinds := [.data], laidTests := true, laidLooks := .later }
def ConverterRunCardSaid : Prop := Claim7.holds Tryd.pinned (.plain (OpenSpec.ofChange converterRunSpec)) converterRunCard

/-- THE TIED CARD OF 'betatronlaw25.ConverterAllowed'. -/
def converterAllowedCard : Claim7 := { stood := { row := converterAllowedRow, standIns := [], harness := (true, "867ce1f3e5a8dcaf9792870a0361571d4a828cb2ec3ee3c4abb95d4c8e4e1949"), looks := false }, kinds := [], alts := [], laidByText := true, laidKinds := [.data], laidTests := true, laidLooks := .later }
def ConverterAllowedCardSaid : Prop := Claim7.holds Tryd.pinned (.plain (OpenSpec.ofChange converterAllowedSpec)) converterAllowedCard

/-- THE TIED CARD OF 'betatronlaw25.ConverterAdds'. -/
def converterAddsCard : Claim7 := { stood := { row := converterAddsRow, standIns := [], harness := (true, "867ce1f3e5a8dcaf9792870a0361571d4a828cb2ec3ee3c4abb95d4c8e4e1949"), looks := false }, kinds := [], alts := [], laidByText := true, laidKinds := [.data], laidTests := true, laidLooks := .later }
def ConverterAddsCardSaid : Prop := Claim7.holds Tryd.pinned (.plain (OpenSpec.ofChange converterAddsSpec)) converterAddsCard

/-- THE TIED CARD OF 'betatronlaw25.ConverterArrives'. -/
def converterArrivesCard : Claim7 := { stood := { row := converterArrivesRow, standIns := [], harness := (true, "867ce1f3e5a8dcaf9792870a0361571d4a828cb2ec3ee3c4abb95d4c8e4e1949"), looks := false }, kinds := [], alts := [], laidByText := true, laidKinds := [.data], laidTests := true, laidLooks := .later }
def ConverterArrivesCardSaid : Prop := Claim7.holds Tryd.pinned (.plain (OpenSpec.ofChange converterArrivesSpec)) converterArrivesCard

/-- THE TIED CARD OF 'betatronlaw25.ConverterTrips'. -/
def converterTripsCard : Claim7 := { stood := { row := converterTripsRow, standIns := [], harness := (true, "867ce1f3e5a8dcaf9792870a0361571d4a828cb2ec3ee3c4abb95d4c8e4e1949"), looks := false }, kinds := [], alts := [], laidByText := true, laidKinds := [.data], laidTests := true, laidLooks := .later }
def ConverterTripsCardSaid : Prop := Claim7.holds Tryd.pinned (.plain (OpenSpec.ofChange converterTripsSpec)) converterTripsCard

/-- THE SECOND FORM's CARD OF 'betatronlaw25.ConverterValid'. -/
def converterValidUptoCard : Claim7 := { stood := { row := converterValidUptoRow, standIns := [], harness := (true, "867ce1f3e5a8dcaf9792870a0361571d4a828cb2ec3ee3c4abb95d4c8e4e1949"), looks := false }, kinds := [], alts := [], laidByText := true, laidKinds := [.data], laidTests := true, laidLooks := .later }
def ConverterValidUptoCardSaid : Prop := Claim7.holds Tryd.pinned (.plain (OpenSpec.upto converterValidSpec)) converterValidUptoCard

/-- THE SECOND FORM's CARD OF 'betatronlaw25.ConverterCommand'. -/
def converterCommandUptoCard : Claim7 := { stood := { row := converterCommandUptoRow, standIns := [], harness := (true, "867ce1f3e5a8dcaf9792870a0361571d4a828cb2ec3ee3c4abb95d4c8e4e1949"), looks := false }, kinds := [], alts := [], laidByText := true, laidKinds := [.data], laidTests := true, laidLooks := .later }
def ConverterCommandUptoCardSaid : Prop := Claim7.holds Tryd.pinned (.plain (OpenSpec.upto converterCommandSpec)) converterCommandUptoCard

/-- THE SECOND FORM's CARD OF 'betatronlaw25.ConverterTick'. -/
def converterTickUptoCard : Claim7 := { stood := { row := converterTickUptoRow, standIns := [], harness := (true, "867ce1f3e5a8dcaf9792870a0361571d4a828cb2ec3ee3c4abb95d4c8e4e1949"), looks := false }, kinds := [], alts := [], laidByText := true, laidKinds := [.data], laidTests := true, laidLooks := .later }
def ConverterTickUptoCardSaid : Prop := Claim7.holds Tryd.pinned (.plain (OpenSpec.upto converterTickSpec)) converterTickUptoCard

/-- THE SECOND FORM's CARD OF 'betatronlaw25.ConverterRun'. -/
def converterRunUptoCard : Claim7 := { stood := { row := converterRunUptoRow, standIns := [], harness := (true, "867ce1f3e5a8dcaf9792870a0361571d4a828cb2ec3ee3c4abb95d4c8e4e1949"), looks := false }, kinds := [], alts := [], laidByText := true, laidKinds := [.data], laidTests := true, laidLooks := .later }
def ConverterRunUptoCardSaid : Prop := Claim7.holds Tryd.pinned (.plain (OpenSpec.upto converterRunSpec)) converterRunUptoCard

/-- THE SECOND FORM's CARD OF 'betatronlaw25.ConverterAllowed'. -/
def converterAllowedUptoCard : Claim7 := { stood := { row := converterAllowedUptoRow, standIns := [], harness := (true, "867ce1f3e5a8dcaf9792870a0361571d4a828cb2ec3ee3c4abb95d4c8e4e1949"), looks := false }, kinds := [], alts := [], laidByText := true, laidKinds := [.data], laidTests := true, laidLooks := .later }
def ConverterAllowedUptoCardSaid : Prop := Claim7.holds Tryd.pinned (.plain (OpenSpec.upto converterAllowedSpec)) converterAllowedUptoCard

/-- THE SECOND FORM's CARD OF 'betatronlaw25.ConverterAdds'. -/
def converterAddsUptoCard : Claim7 := { stood := { row := converterAddsUptoRow, standIns := [], harness := (true, "867ce1f3e5a8dcaf9792870a0361571d4a828cb2ec3ee3c4abb95d4c8e4e1949"), looks := false }, kinds := [], alts := [], laidByText := true, laidKinds := [.data], laidTests := true, laidLooks := .later }
def ConverterAddsUptoCardSaid : Prop := Claim7.holds Tryd.pinned (.plain (OpenSpec.upto converterAddsSpec)) converterAddsUptoCard

/-- THE SECOND FORM's CARD OF 'betatronlaw25.ConverterArrives'. -/
def converterArrivesUptoCard : Claim7 := { stood := { row := converterArrivesUptoRow, standIns := [], harness := (true, "867ce1f3e5a8dcaf9792870a0361571d4a828cb2ec3ee3c4abb95d4c8e4e1949"), looks := false }, kinds := [], alts := [], laidByText := true, laidKinds := [.data], laidTests := true, laidLooks := .later }
def ConverterArrivesUptoCardSaid : Prop := Claim7.holds Tryd.pinned (.plain (OpenSpec.upto converterArrivesSpec)) converterArrivesUptoCard

/-- THE SECOND FORM's CARD OF 'betatronlaw25.ConverterTrips'. -/
def converterTripsUptoCard : Claim7 := { stood := { row := converterTripsUptoRow, standIns := [], harness := (true, "867ce1f3e5a8dcaf9792870a0361571d4a828cb2ec3ee3c4abb95d4c8e4e1949"), looks := false }, kinds := [], alts := [], laidByText := true, laidKinds := [.data], laidTests := true, laidLooks := .later }
def ConverterTripsUptoCardSaid : Prop := Claim7.holds Tryd.pinned (.plain (OpenSpec.upto converterTripsSpec)) converterTripsUptoCard
end Rows
end Go.Proofs.YtacfjngnfgnmeaaDoor
