/-
  DERIVED. GIVEN WITH THE SEED: THE CARDS: each row of YtmnbjkbkjmgmkaaGreatDoorRows.lean that lists a variable, with what it lists TIED to the program's text (the seventh form; the later family's looks); each row that meets fmt, with fmt's text TOLD by the authors' own Lean function (tested against real Go, not proved from fmt's source: count such statements apart). THE CARD IS WHAT COUNTS. Prove the row's statement (the work); the ties are given (YtmnbjkbkjmgmkaaGreatDoorTie.lean); close each card by the builder's one call (the guide's Derived/Test/ToyasCard.lean, 'card_holds'). Laid BY PROGRAM, IN A SANDBOX (cutbox-door.mjs). By AI agents, Wed Nov 11 2026. No macro, syntax, notation, axiom, sorry.
-/
import Derived.Test.YtmnbjkbkjmgmkaaGreatDoorRows
import GoSem.ClaimSeven
namespace Go.Proofs.YtmnbjkbkjmgmkaaGreatDoor
namespace Rows

/-- THE TIED CARD OF 'surveyorlaw19.SignSound'. -/
def signSoundCard : Claim7 := { stood := { row := signSoundRow, standIns := [], harness := (true, "ec2be6eb3066c6875a570055bdc33d4a4a9c4a7cf9d548562e46a1b0c4c2d47f"), looks := true }, kinds := [], alts := [], laidByText := true, laidKinds := [.data, .data, .data, .sentinel, .sentinel, .data, .data, .data], laidTests := true, laidLooks := .later }
def SignSoundCardSaid : Prop := Claim7.holds Tryz.pinned (.plain (OpenSpec.ofChange signSoundSpec)) signSoundCard

/-- THE TIED CARD OF 'surveyorlaw19.SignBest'. -/
def signBestCard : Claim7 := { stood := { row := signBestRow, standIns := [], harness := (true, "ec2be6eb3066c6875a570055bdc33d4a4a9c4a7cf9d548562e46a1b0c4c2d47f"), looks := true }, kinds := [], alts := [], laidByText := true, laidKinds := [.data, .data, .data, .sentinel, .sentinel, .data, .data, .data], laidTests := true, laidLooks := .later }
def SignBestCardSaid : Prop := Claim7.holds Tryz.pinned (.plain (OpenSpec.ofChange signBestSpec)) signBestCard

/-- THE SECOND FORM's CARD OF 'surveyorlaw19.SignSound'. -/
def signSoundUptoCard : Claim7 := { stood := { row := signSoundUptoRow, standIns := [], harness := (true, "ec2be6eb3066c6875a570055bdc33d4a4a9c4a7cf9d548562e46a1b0c4c2d47f"), looks := true }, kinds := [], alts := [], laidByText := true, laidKinds := [.data, .data, .data, .sentinel, .sentinel, .data, .data, .data], laidTests := true, laidLooks := .later }
def SignSoundUptoCardSaid : Prop := Claim7.holds Tryz.pinned (.plain (OpenSpec.upto signSoundSpec)) signSoundUptoCard

/-- THE SECOND FORM's CARD OF 'surveyorlaw19.SignBest'. -/
def signBestUptoCard : Claim7 := { stood := { row := signBestUptoRow, standIns := [], harness := (true, "ec2be6eb3066c6875a570055bdc33d4a4a9c4a7cf9d548562e46a1b0c4c2d47f"), looks := true }, kinds := [], alts := [], laidByText := true, laidKinds := [.data, .data, .data, .sentinel, .sentinel, .data, .data, .data], laidTests := true, laidLooks := .later }
def SignBestUptoCardSaid : Prop := Claim7.holds Tryz.pinned (.plain (OpenSpec.upto signBestSpec)) signBestUptoCard
end Rows
end Go.Proofs.YtmnbjkbkjmgmkaaGreatDoor
