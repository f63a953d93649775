/-
  DERIVED. GIVEN WITH THE SEED: THE CARDS: each row of YtlmomkdmbacbpaaDoorRows.lean that lists a variable, with what it lists TIED to the program's text (the seventh form; the later family's looks); each row that meets fmt, with fmt's text TOLD by the authors' own Lean function (tested against real Go, not proved from fmt's source: count such statements apart). THE CARD IS WHAT COUNTS. Prove the row's statement (the work); the ties are given (YtlmomkdmbacbpaaDoorTie.lean); close each card by the builder's one call (the guide's Derived/Test/ToyasCard.lean, 'card_holds'). Laid BY PROGRAM, IN A SANDBOX (cutbox-door.mjs). By AI agents, Wed Nov 11 2026. No macro, syntax, notation, axiom, sorry.
-/
import Derived.Test.YtlmomkdmbacbpaaDoorRows
import GoSem.ClaimSeven
namespace Go.Proofs.YtlmomkdmbacbpaaDoor
namespace Rows

/-- THE TIED CARD OF 'betatronlaw01.IntegerValid'. -/
def integerValidCard : Claim7 := { stood := { row := integerValidRow, standIns := [], harness := (true, "4174c6a285c9aa4ac19f1c55a1ec9776a0315723f2626b04ef5aae89e8324684"), looks := false }, kinds := [], alts := [], laidByText := true, laidKinds := [.data, .pinned], laidTests := true, laidLooks := .later }
def IntegerValidCardSaid : Prop := Claim7.holds Tryd.pinned (.plain (OpenSpec.ofChange integerValidSpec)) integerValidCard

/-- THE TIED CARD OF 'betatronlaw01.IntegerSums'. -/
def integerSumsCard : Claim7 := { stood := { row := integerSumsRow, standIns := [], harness := (true, "4174c6a285c9aa4ac19f1c55a1ec9776a0315723f2626b04ef5aae89e8324684"), looks := false }, kinds := [], alts := [], laidByText := true, laidKinds := [.data, .pinned], laidTests := true, laidLooks := .later }
def IntegerSumsCardSaid : Prop := Claim7.holds Tryd.pinned (.plain (OpenSpec.ofChange integerSumsSpec)) integerSumsCard

/-- THE TIED CARD OF 'betatronlaw01.IntegerProducts'. -/
def integerProductsCard : Claim7 := { stood := { row := integerProductsRow, standIns := [], harness := (true, "4174c6a285c9aa4ac19f1c55a1ec9776a0315723f2626b04ef5aae89e8324684"), looks := false }, kinds := [], alts := [], laidByText := true, laidKinds := [.data, .pinned], laidTests := true, laidLooks := .later }
def IntegerProductsCardSaid : Prop := Claim7.holds Tryd.pinned (.plain (OpenSpec.ofChange integerProductsSpec)) integerProductsCard

/-- THE TIED CARD OF 'betatronlaw01.IntegerDivides'. -/
def integerDividesCard : Claim7 := { stood := { row := integerDividesRow, standIns := [], harness := (true, "4174c6a285c9aa4ac19f1c55a1ec9776a0315723f2626b04ef5aae89e8324684"), looks := false }, kinds := [], alts := [], laidByText := true, laidKinds := [.data, .pinned], laidTests := true, laidLooks := .later }
def IntegerDividesCardSaid : Prop := Claim7.holds Tryd.pinned (.plain (OpenSpec.ofChange integerDividesSpec)) integerDividesCard

/-- THE TIED CARD OF 'betatronlaw01.IntegerRing'. -/
def integerRingCard : Claim7 := { stood := { row := integerRingRow, standIns := [], harness := (true, "4174c6a285c9aa4ac19f1c55a1ec9776a0315723f2626b04ef5aae89e8324684"), looks := false }, kinds := [], alts := [], laidByText := true, laidKinds := [.data, .pinned], laidTests := true, laidLooks := .later }
def IntegerRingCardSaid : Prop := Claim7.holds Tryd.pinned (.plain (OpenSpec.ofChange integerRingSpec)) integerRingCard

/-- THE TIED CARD OF 'betatronlaw01.IntegerGcd'. -/
def integerGcdCard : Claim7 := { stood := { row := integerGcdRow, standIns := [], harness := (true, "4174c6a285c9aa4ac19f1c55a1ec9776a0315723f2626b04ef5aae89e8324684"), looks := false }, kinds := [], alts := [], laidByText := true, laidKinds := [.data, .pinned], laidTests := true, laidLooks := .later }
def IntegerGcdCardSaid : Prop := Claim7.holds Tryd.pinned (.plain (OpenSpec.ofChange integerGcdSpec)) integerGcdCard

/-- THE TIED CARD OF 'betatronlaw01.IntegerSqrt'. -/
def integerSqrtCard : Claim7 := { stood := { row := integerSqrtRow, standIns := [], harness := (true, "4174c6a285c9aa4ac19f1c55a1ec9776a0315723f2626b04ef5aae89e8324684"), looks := false }, kinds := [], alts := [], laidByText := true, laidKinds := [.data, .pinned], laidTests := true, laidLooks := .later }
def IntegerSqrtCardSaid : Prop := Claim7.holds Tryd.pinned (.plain (OpenSpec.ofChange integerSqrtSpec)) integerSqrtCard

/-- THE TIED CARD OF 'betatronlaw01.IntegerText'. -/
def integerTextCard : Claim7 := { stood := { row := integerTextRow, standIns := [], harness := (true, "4174c6a285c9aa4ac19f1c55a1ec9776a0315723f2626b04ef5aae89e8324684"), looks := false }, kinds := [], alts := [], laidByText := true, laidKinds := [.data, .pinned], laidTests := true, laidLooks := .later }
def IntegerTextCardSaid : Prop := Claim7.holds Tryd.pinned (.plain (OpenSpec.ofChange integerTextSpec)) integerTextCard

/-- THE TIED CARD OF 'betatronlaw01.IntegerParse'. -/
def integerParseCard : Claim7 := { stood := { row := integerParseRow, standIns := [], harness := (true, "4174c6a285c9aa4ac19f1c55a1ec9776a0315723f2626b04ef5aae89e8324684"), looks := false }, kinds := [], alts := [], laidByText := true, laidKinds := [.data, .pinned], laidTests := true, laidLooks := .later }
def IntegerParseCardSaid : Prop := Claim7.holds Tryd.pinned (.plain (OpenSpec.ofChange integerParseSpec)) integerParseCard

/-- THE SECOND FORM's CARD OF 'betatronlaw01.IntegerValid'. -/
def integerValidUptoCard : Claim7 := { stood := { row := integerValidUptoRow, standIns := [], harness := (true, "4174c6a285c9aa4ac19f1c55a1ec9776a0315723f2626b04ef5aae89e8324684"), looks := false }, kinds := [], alts := [], laidByText := true, laidKinds := [.data, .pinned], laidTests := true, laidLooks := .later }
def IntegerValidUptoCardSaid : Prop := Claim7.holds Tryd.pinned (.plain (OpenSpec.upto integerValidSpec)) integerValidUptoCard

/-- THE SECOND FORM's CARD OF 'betatronlaw01.IntegerSums'. -/
def integerSumsUptoCard : Claim7 := { stood := { row := integerSumsUptoRow, standIns := [], harness := (true, "4174c6a285c9aa4ac19f1c55a1ec9776a0315723f2626b04ef5aae89e8324684"), looks := false }, kinds := [], alts := [], laidByText := true, laidKinds := [.data, .pinned], laidTests := true, laidLooks := .later }
def IntegerSumsUptoCardSaid : Prop := Claim7.holds Tryd.pinned (.plain (OpenSpec.upto integerSumsSpec)) integerSumsUptoCard

/-- THE SECOND FORM's CARD OF 'betatronlaw01.IntegerProducts'. -/
def integerProductsUptoCard : Claim7 := { stood := { row := integerProductsUptoRow, standIns := [], harness := (true, "4174c6a285c9aa4ac19f1c55a1ec9776a0315723f2626b04ef5aae89e8324684"), looks := false }, kinds := [], alts := [], laidByText := true, laidKinds := [.data, .pinned], laidTests := true, laidLooks := .later }
def IntegerProductsUptoCardSaid : Prop := Claim7.holds Tryd.pinned (.plain (OpenSpec.upto integerProductsSpec)) integerProductsUptoCard

/-- THE SECOND FORM's CARD OF 'betatronlaw01.IntegerDivides'. -/
def integerDividesUptoCard : Claim7 := { stood := { row := integerDividesUptoRow, standIns := [], harness := (true, "4174c6a285c9aa4ac19f1c55a1ec9776a0315723f2626b04ef5aae89e8324684"), looks := false }, kinds := [], alts := [], laidByText := true, laidKinds := [.data, .pinned], laidTests := true, laidLooks := .later }
def IntegerDividesUptoCardSaid : Prop := Claim7.holds Tryd.pinned (.plain (OpenSpec.upto integerDividesSpec)) integerDividesUptoCard

/-- THE SECOND FORM's CARD OF 'betatronlaw01.IntegerRing'. -/
def integerRingUptoCard : Claim7 := { stood := { row := integerRingUptoRow, standIns := [], harness := (true, "4174c6a285c9aa4ac19f1c55a1ec9776a0315723f2626b04ef5aae89e8324684"), looks := false }, kinds := [], alts := [], laidByText := true, laidKinds := [.data, .pinned], laidTests := true, laidLooks := .later }
def IntegerRingUptoCardSaid : Prop := Claim7.holds Tryd.pinned (.plain (OpenSpec.upto integerRingSpec)) integerRingUptoCard

/-- THE SECOND FORM's CARD OF 'betatronlaw01.IntegerGcd'. -/
def integerGcdUptoCard : Claim7 := { stood := { row := integerGcdUptoRow, standIns := [], harness := (true, "4174c6a285c9aa4ac19f1c55a1ec9776a0315723f2626b04ef5aae89e8324684"), looks := false }, kinds := [], alts := [], laidByText := true, laidKinds := [.data, .pinned], laidTests := true, laidLooks := .later }
def IntegerGcdUptoCardSaid : Prop := Claim7.holds Tryd.pinned (.plain (OpenSpec.upto integerGcdSpec)) integerGcdUptoCard

/-- THE SECOND FORM's CARD OF 'betatronlaw01.IntegerSqrt'. -/
def integerSqrtUptoCard : Claim7 := { stood := { row := integerSqrtUptoRow, standIns := [], harness := (true, "4174c6a285c9aa4ac19f1c55a1ec9776a0315723f2626b04ef5aae89e8324684"), looks := false }, kinds := [], alts := [], laidByText := true, laidKinds := [.data, .pinned], laidTests := true, laidLooks := .later }
def IntegerSqrtUptoCardSaid : Prop := Claim7.holds Tryd.pinned (.plain (OpenSpec.upto integerSqrtSpec)) integerSqrtUptoCard

/-- THE SECOND FORM's CARD OF 'betatronlaw01.IntegerText'. -/
def integerTextUptoCard : Claim7 := { stood := { row := integerTextUptoRow, standIns := [], harness := (true, "4174c6a285c9aa4ac19f1c55a1ec9776a0315723f2626b04ef5aae89e8324684"), looks := false }, kinds := [], alts := [], laidByText := true, laidKinds := [.data, .pinned], laidTests := true, laidLooks := .later }
def IntegerTextUptoCardSaid : Prop := Claim7.holds Tryd.pinned (.plain (OpenSpec.upto integerTextSpec)) integerTextUptoCard

/-- THE SECOND FORM's CARD OF 'betatronlaw01.IntegerParse'. -/
def integerParseUptoCard : Claim7 := { stood := { row := integerParseUptoRow, standIns := [], harness := (true, "4174c6a285c9aa4ac19f1c55a1ec9776a0315723f2626b04ef5aae89e8324684"), looks := false }, kinds := [], alts := [], laidByText := true, laidKinds := [.data, .pinned], laidTests := true, laidLooks := .later }
def IntegerParseUptoCardSaid : Prop := Claim7.holds Tryd.pinned (.plain (OpenSpec.upto integerParseSpec)) integerParseUptoCard
end Rows
end Go.Proofs.YtlmomkdmbacbpaaDoor
