/-
  DERIVED. GIVEN WITH THE SEED: THE CARDS: each row of YtdibcllakkjegaaGreatDoorRows.lean that lists a variable, with what it lists TIED to the program's text (the seventh form; the later family's looks); each row that meets fmt, with fmt's text TOLD by the authors' own Lean function (tested against real Go, not proved from fmt's source: count such statements apart). THE CARD IS WHAT COUNTS. Prove the row's statement (the work); the ties are given (YtdibcllakkjegaaGreatDoorTie.lean); close each card by the builder's one call (the guide's Derived/Test/ToyasCard.lean, 'card_holds'). Laid BY PROGRAM, IN A SANDBOX (cutbox-door.mjs). By AI agents, Wed Nov 11 2026. No macro, syntax, notation, axiom, sorry.
-/
import Derived.Test.YtdibcllakkjegaaGreatDoorRows
import GoSem.ClaimSeven
namespace Go.Proofs.YtdibcllakkjegaaGreatDoor
namespace Rows

/-- THE TIED CARD OF 'surveyorlaw09.ParserParses'. -/
def parserParsesCard : Claim7 := { stood := { row := parserParsesRow, standIns := [], harness := (true, "4cf19d1f9b11ba6a167e7fad353b3608359f8537dcdfdd690edae06e6d88445a"), looks := true }, kinds := [], alts := [], laidByText := true, laidKinds := [.data, .data, .data, .sentinel, .sentinel, .data], laidTests := true, laidLooks := .later }
def ParserParsesCardSaid : Prop := Claim7.holds Tryz.pinned (.plain (OpenSpec.ofChange parserParsesSpec)) parserParsesCard

/-- THE TIED CARD OF 'surveyorlaw09.ParserParts'. -/
def parserPartsCard : Claim7 := { stood := { row := parserPartsRow, standIns := [], harness := (true, "4cf19d1f9b11ba6a167e7fad353b3608359f8537dcdfdd690edae06e6d88445a"), looks := true }, kinds := [], alts := [], laidByText := true, laidKinds := [.data, .data, .data, .sentinel, .sentinel, .data], laidTests := true, laidLooks := .later }
def ParserPartsCardSaid : Prop := Claim7.holds Tryz.pinned (.plain (OpenSpec.ofChange parserPartsSpec)) parserPartsCard

/-- THE TIED CARD OF 'surveyorlaw09.ParserLevels'. -/
def parserLevelsCard : Claim7 := { stood := { row := parserLevelsRow, standIns := [], harness := (true, "4cf19d1f9b11ba6a167e7fad353b3608359f8537dcdfdd690edae06e6d88445a"), looks := true }, kinds := [], alts := [], laidByText := true, laidKinds := [.data, .data, .data, .sentinel, .sentinel, .data], laidTests := true, laidLooks := .later }
def ParserLevelsCardSaid : Prop := Claim7.holds Tryz.pinned (.plain (OpenSpec.ofChange parserLevelsSpec)) parserLevelsCard

/-- THE TIED CARD OF 'surveyorlaw09.ParserSpaces'. -/
def parserSpacesCard : Claim7 := { stood := { row := parserSpacesRow, standIns := [], harness := (true, "4cf19d1f9b11ba6a167e7fad353b3608359f8537dcdfdd690edae06e6d88445a"), looks := true }, kinds := [], alts := [], laidByText := true, laidKinds := [.data, .data, .data, .sentinel, .sentinel, .data], laidTests := true, laidLooks := .later }
def ParserSpacesCardSaid : Prop := Claim7.holds Tryz.pinned (.plain (OpenSpec.ofChange parserSpacesSpec)) parserSpacesCard

/-- THE TIED CARD OF 'surveyorlaw09.ParserJoins'. -/
def parserJoinsCard : Claim7 := { stood := { row := parserJoinsRow, standIns := [], harness := (true, "4cf19d1f9b11ba6a167e7fad353b3608359f8537dcdfdd690edae06e6d88445a"), looks := true }, kinds := [], alts := [], laidByText := true, laidKinds := [.data, .data, .data, .sentinel, .sentinel, .data], laidTests := true, laidLooks := .later }
def ParserJoinsCardSaid : Prop := Claim7.holds Tryz.pinned (.plain (OpenSpec.ofChange parserJoinsSpec)) parserJoinsCard

/-- THE TIED CARD OF 'surveyorlaw09.ParserStands'. -/
def parserStandsCard : Claim7 := { stood := { row := parserStandsRow, standIns := [], harness := (true, "4cf19d1f9b11ba6a167e7fad353b3608359f8537dcdfdd690edae06e6d88445a"), looks := true }, kinds := [], alts := [], laidByText := true, laidKinds := [.data, .data, .data, .sentinel, .sentinel, .data], laidTests := true, laidLooks := .later }
def ParserStandsCardSaid : Prop := Claim7.holds Tryz.pinned (.plain (OpenSpec.ofChange parserStandsSpec)) parserStandsCard

/-- THE TIED CARD OF 'surveyorlaw09.ParserParens'. -/
def parserParensCard : Claim7 := { stood := { row := parserParensRow, standIns := [], harness := (true, "4cf19d1f9b11ba6a167e7fad353b3608359f8537dcdfdd690edae06e6d88445a"), looks := true }, kinds := [], alts := [], laidByText := true, laidKinds := [.data, .data, .data, .sentinel, .sentinel, .data], laidTests := true, laidLooks := .later }
def ParserParensCardSaid : Prop := Claim7.holds Tryz.pinned (.plain (OpenSpec.ofChange parserParensSpec)) parserParensCard

/-- THE TIED CARD OF 'surveyorlaw09.ParserCuts'. -/
def parserCutsCard : Claim7 := { stood := { row := parserCutsRow, standIns := [], harness := (true, "4cf19d1f9b11ba6a167e7fad353b3608359f8537dcdfdd690edae06e6d88445a"), looks := true }, kinds := [], alts := [], laidByText := true, laidKinds := [.data, .data, .data, .sentinel, .sentinel, .data], laidTests := true, laidLooks := .later }
def ParserCutsCardSaid : Prop := Claim7.holds Tryz.pinned (.plain (OpenSpec.ofChange parserCutsSpec)) parserCutsCard

/-- THE TIED CARD OF 'surveyorlaw09.ParserHolds'. -/
def parserHoldsCard : Claim7 := { stood := { row := parserHoldsRow, standIns := [], harness := (true, "4cf19d1f9b11ba6a167e7fad353b3608359f8537dcdfdd690edae06e6d88445a"), looks := true }, kinds := [], alts := [], laidByText := true, laidKinds := [.data, .data, .data, .sentinel, .sentinel, .data], laidTests := true, laidLooks := .later }
def ParserHoldsCardSaid : Prop := Claim7.holds Tryz.pinned (.plain (OpenSpec.ofChange parserHoldsSpec)) parserHoldsCard

/-- THE SECOND FORM's CARD OF 'surveyorlaw09.ParserParses'. -/
def parserParsesUptoCard : Claim7 := { stood := { row := parserParsesUptoRow, standIns := [], harness := (true, "4cf19d1f9b11ba6a167e7fad353b3608359f8537dcdfdd690edae06e6d88445a"), looks := true }, kinds := [], alts := [], laidByText := true, laidKinds := [.data, .data, .data, .sentinel, .sentinel, .data], laidTests := true, laidLooks := .later }
def ParserParsesUptoCardSaid : Prop := Claim7.holds Tryz.pinned (.plain (OpenSpec.upto parserParsesSpec)) parserParsesUptoCard

/-- THE SECOND FORM's CARD OF 'surveyorlaw09.ParserParts'. -/
def parserPartsUptoCard : Claim7 := { stood := { row := parserPartsUptoRow, standIns := [], harness := (true, "4cf19d1f9b11ba6a167e7fad353b3608359f8537dcdfdd690edae06e6d88445a"), looks := true }, kinds := [], alts := [], laidByText := true, laidKinds := [.data, .data, .data, .sentinel, .sentinel, .data], laidTests := true, laidLooks := .later }
def ParserPartsUptoCardSaid : Prop := Claim7.holds Tryz.pinned (.plain (OpenSpec.upto parserPartsSpec)) parserPartsUptoCard

/-- THE SECOND FORM's CARD OF 'surveyorlaw09.ParserLevels'. -/
def parserLevelsUptoCard : Claim7 := { stood := { row := parserLevelsUptoRow, standIns := [], harness := (true, "4cf19d1f9b11ba6a167e7fad353b3608359f8537dcdfdd690edae06e6d88445a"), looks := true }, kinds := [], alts := [], laidByText := true, laidKinds := [.data, .data, .data, .sentinel, .sentinel, .data], laidTests := true, laidLooks := .later }
def ParserLevelsUptoCardSaid : Prop := Claim7.holds Tryz.pinned (.plain (OpenSpec.upto parserLevelsSpec)) parserLevelsUptoCard

/-- THE SECOND FORM's CARD OF 'surveyorlaw09.ParserSpaces'. -/
def parserSpacesUptoCard : Claim7 := { stood := { row := parserSpacesUptoRow, standIns := [], harness := (true, "4cf19d1f9b11ba6a167e7fad353b3608359f8537dcdfdd690edae06e6d88445a"), looks := true }, kinds := [], alts := [], laidByText := true, laidKinds := [.data, .data, .data, .sentinel, .sentinel, .data], laidTests := true, laidLooks := .later }
def ParserSpacesUptoCardSaid : Prop := Claim7.holds Tryz.pinned (.plain (OpenSpec.upto parserSpacesSpec)) parserSpacesUptoCard

/-- THE SECOND FORM's CARD OF 'surveyorlaw09.ParserJoins'. -/
def parserJoinsUptoCard : Claim7 := { stood := { row := parserJoinsUptoRow, standIns := [], harness := (true, "4cf19d1f9b11ba6a167e7fad353b3608359f8537dcdfdd690edae06e6d88445a"), looks := true }, kinds := [], alts := [], laidByText := true, laidKinds := [.data, .data, .data, .sentinel, .sentinel, .data], laidTests := true, laidLooks := .later }
def ParserJoinsUptoCardSaid : Prop := Claim7.holds Tryz.pinned (.plain (OpenSpec.upto parserJoinsSpec)) parserJoinsUptoCard

/-- THE SECOND FORM's CARD OF 'surveyorlaw09.ParserStands'. -/
def parserStandsUptoCard : Claim7 := { stood := { row := parserStandsUptoRow, standIns := [], harness := (true, "4cf19d1f9b11ba6a167e7fad353b3608359f8537dcdfdd690edae06e6d88445a"), looks := true }, kinds := [], alts := [], laidByText := true, laidKinds := [.data, .data, .data, .sentinel, .sentinel, .data], laidTests := true, laidLooks := .later }
def ParserStandsUptoCardSaid : Prop := Claim7.holds Tryz.pinned (.plain (OpenSpec.upto parserStandsSpec)) parserStandsUptoCard

/-- THE SECOND FORM's CARD OF 'surveyorlaw09.ParserParens'. -/
def parserParensUptoCard : Claim7 := { stood := { row := parserParensUptoRow, standIns := [], harness := (true, "4cf19d1f9b11ba6a167e7fad353b3608359f8537dcdfdd690edae06e6d88445a"), looks := true }, kinds := [], alts := [], laidByText := true, laidKinds := [.data, .data, .data, .sentinel, .sentinel, .data], laidTests := true, laidLooks := .later }
def ParserParensUptoCardSaid : Prop := Claim7.holds Tryz.pinned (.plain (OpenSpec.upto parserParensSpec)) parserParensUptoCard

/-- THE SECOND FORM's CARD OF 'surveyorlaw09.ParserCuts'. -/
def parserCutsUptoCard : Claim7 := { stood := { row := parserCutsUptoRow, standIns := [], harness := (true, "4cf19d1f9b11ba6a167e7fad353b3608359f8537dcdfdd690edae06e6d88445a"), looks := true }, kinds := [], alts := [], laidByText := true, laidKinds := [.data, .data, .data, .sentinel, .sentinel, .data], laidTests := true, laidLooks := .later }
def ParserCutsUptoCardSaid : Prop := Claim7.holds Tryz.pinned (.plain (OpenSpec.upto parserCutsSpec)) parserCutsUptoCard

/-- THE SECOND FORM's CARD OF 'surveyorlaw09.ParserHolds'. -/
def parserHoldsUptoCard : Claim7 := { stood := { row := parserHoldsUptoRow, standIns := [], harness := (true, "4cf19d1f9b11ba6a167e7fad353b3608359f8537dcdfdd690edae06e6d88445a"), looks := true }, kinds := [], alts := [], laidByText := true, laidKinds := [.data, .data, .data, .sentinel, .sentinel, .data], laidTests := true, laidLooks := .later }
def ParserHoldsUptoCardSaid : Prop := Claim7.holds Tryz.pinned (.plain (OpenSpec.upto parserHoldsSpec)) parserHoldsUptoCard
end Rows
end Go.Proofs.YtdibcllakkjegaaGreatDoor
