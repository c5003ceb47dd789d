/-
  DERIVED. GIVEN WITH THE SEED: THE CARDS: each row of YtmnbjkbkjmgmkaaDoorRows.lean that lists a variable, with what it lists TIED to the program's text (the seventh form; the later family's looks); each row that meets fmt, with fmt's text TOLD by the authors' own Lean function (tested against real Go, not proved from fmt's source: count such statements apart). THE CARD IS WHAT COUNTS. Prove the row's statement (the work); the ties are given (YtmnbjkbkjmgmkaaDoorTie.lean); close each card by the builder's one call (the guide's Derived/Test/ToyasCard.lean, 'card_holds'). Laid BY PROGRAM, IN A SANDBOX (cutbox-door.mjs). By AI agents, Wed Nov 11 2026. No macro, syntax, notation, axiom, sorry.
-/
import Derived.Test.YtmnbjkbkjmgmkaaDoorRows
import GoSem.ClaimSeven
namespace Go.Proofs.YtmnbjkbkjmgmkaaDoor
namespace Rows

/-- THE TIED CARD OF 'surveyorlaw19.SignHolds'. -/
def signHoldsCard : Claim7 := { stood := { row := signHoldsRow, standIns := [], harness := (true, "ebfe9a164e444b78906b3db8b383937bbf5bed078b9e1696d68074bd088e92b8"), looks := false }, kinds := [], alts := [], laidByText := true, laidKinds := [.data, .data, .data], laidTests := true, laidLooks := .later }
def SignHoldsCardSaid : Prop := Claim7.holds Tryd.pinned (.plain (OpenSpec.ofChange signHoldsSpec)) signHoldsCard

/-- THE TIED CARD OF 'surveyorlaw19.SignOrders'. -/
def signOrdersCard : Claim7 := { stood := { row := signOrdersRow, standIns := [], harness := (true, "ebfe9a164e444b78906b3db8b383937bbf5bed078b9e1696d68074bd088e92b8"), looks := false }, kinds := [], alts := [], laidByText := true, laidKinds := [.data, .data, .data], laidTests := true, laidLooks := .later }
def SignOrdersCardSaid : Prop := Claim7.holds Tryd.pinned (.plain (OpenSpec.ofChange signOrdersSpec)) signOrdersCard

/-- THE TIED CARD OF 'surveyorlaw19.SignComputes'. -/
def signComputesCard : Claim7 := { stood := { row := signComputesRow, standIns := [], harness := (true, "ebfe9a164e444b78906b3db8b383937bbf5bed078b9e1696d68074bd088e92b8"), looks := false }, kinds := [], alts := [], laidByText := true, laidKinds := [.data, .data, .data], laidTests := true, laidLooks := .later }
def SignComputesCardSaid : Prop := Claim7.holds Tryd.pinned (.plain (OpenSpec.ofChange signComputesSpec)) signComputesCard

/-- THE TIED CARD OF 'surveyorlaw19.SignRefines'. -/
def signRefinesCard : Claim7 := { stood := { row := signRefinesRow, standIns := [], harness := (true, "ebfe9a164e444b78906b3db8b383937bbf5bed078b9e1696d68074bd088e92b8"), looks := false }, kinds := [], alts := [], laidByText := true, laidKinds := [.data, .data, .data], laidTests := true, laidLooks := .later }
def SignRefinesCardSaid : Prop := Claim7.holds Tryd.pinned (.plain (OpenSpec.ofChange signRefinesSpec)) signRefinesCard

/-- THE TIED CARD OF 'surveyorlaw19.SignGrows'. -/
def signGrowsCard : Claim7 := { stood := { row := signGrowsRow, standIns := [], harness := (true, "ebfe9a164e444b78906b3db8b383937bbf5bed078b9e1696d68074bd088e92b8"), looks := false }, kinds := [], alts := [], laidByText := true, laidKinds := [.data, .data, .data], laidTests := true, laidLooks := .later }
def SignGrowsCardSaid : Prop := Claim7.holds Tryd.pinned (.plain (OpenSpec.ofChange signGrowsSpec)) signGrowsCard

/-- THE TIED CARD OF 'surveyorlaw19.SignKeeps'. -/
def signKeepsCard : Claim7 := { stood := { row := signKeepsRow, standIns := [], harness := (true, "ebfe9a164e444b78906b3db8b383937bbf5bed078b9e1696d68074bd088e92b8"), looks := false }, kinds := [], alts := [], laidByText := true, laidKinds := [.data, .data, .data], laidTests := true, laidLooks := .later }
def SignKeepsCardSaid : Prop := Claim7.holds Tryd.pinned (.plain (OpenSpec.ofChange signKeepsSpec)) signKeepsCard

/-- THE SECOND FORM's CARD OF 'surveyorlaw19.SignHolds'. -/
def signHoldsUptoCard : Claim7 := { stood := { row := signHoldsUptoRow, standIns := [], harness := (true, "ebfe9a164e444b78906b3db8b383937bbf5bed078b9e1696d68074bd088e92b8"), looks := false }, kinds := [], alts := [], laidByText := true, laidKinds := [.data, .data, .data], laidTests := true, laidLooks := .later }
def SignHoldsUptoCardSaid : Prop := Claim7.holds Tryd.pinned (.plain (OpenSpec.upto signHoldsSpec)) signHoldsUptoCard

/-- THE SECOND FORM's CARD OF 'surveyorlaw19.SignOrders'. -/
def signOrdersUptoCard : Claim7 := { stood := { row := signOrdersUptoRow, standIns := [], harness := (true, "ebfe9a164e444b78906b3db8b383937bbf5bed078b9e1696d68074bd088e92b8"), looks := false }, kinds := [], alts := [], laidByText := true, laidKinds := [.data, .data, .data], laidTests := true, laidLooks := .later }
def SignOrdersUptoCardSaid : Prop := Claim7.holds Tryd.pinned (.plain (OpenSpec.upto signOrdersSpec)) signOrdersUptoCard

/-- THE SECOND FORM's CARD OF 'surveyorlaw19.SignComputes'. -/
def signComputesUptoCard : Claim7 := { stood := { row := signComputesUptoRow, standIns := [], harness := (true, "ebfe9a164e444b78906b3db8b383937bbf5bed078b9e1696d68074bd088e92b8"), looks := false }, kinds := [], alts := [], laidByText := true, laidKinds := [.data, .data, .data], laidTests := true, laidLooks := .later }
def SignComputesUptoCardSaid : Prop := Claim7.holds Tryd.pinned (.plain (OpenSpec.upto signComputesSpec)) signComputesUptoCard

/-- THE SECOND FORM's CARD OF 'surveyorlaw19.SignRefines'. -/
def signRefinesUptoCard : Claim7 := { stood := { row := signRefinesUptoRow, standIns := [], harness := (true, "ebfe9a164e444b78906b3db8b383937bbf5bed078b9e1696d68074bd088e92b8"), looks := false }, kinds := [], alts := [], laidByText := true, laidKinds := [.data, .data, .data], laidTests := true, laidLooks := .later }
def SignRefinesUptoCardSaid : Prop := Claim7.holds Tryd.pinned (.plain (OpenSpec.upto signRefinesSpec)) signRefinesUptoCard

/-- THE SECOND FORM's CARD OF 'surveyorlaw19.SignGrows'. -/
def signGrowsUptoCard : Claim7 := { stood := { row := signGrowsUptoRow, standIns := [], harness := (true, "ebfe9a164e444b78906b3db8b383937bbf5bed078b9e1696d68074bd088e92b8"), looks := false }, kinds := [], alts := [], laidByText := true, laidKinds := [.data, .data, .data], laidTests := true, laidLooks := .later }
def SignGrowsUptoCardSaid : Prop := Claim7.holds Tryd.pinned (.plain (OpenSpec.upto signGrowsSpec)) signGrowsUptoCard

/-- THE SECOND FORM's CARD OF 'surveyorlaw19.SignKeeps'. -/
def signKeepsUptoCard : Claim7 := { stood := { row := signKeepsUptoRow, standIns := [], harness := (true, "ebfe9a164e444b78906b3db8b383937bbf5bed078b9e1696d68074bd088e92b8"), looks := false }, kinds := [], alts := [], laidByText := true, laidKinds := [.data, .data, .data], laidTests := true, laidLooks := .later }
def SignKeepsUptoCardSaid : Prop := Claim7.holds Tryd.pinned (.plain (OpenSpec.upto signKeepsSpec)) signKeepsUptoCard
end Rows
end Go.Proofs.YtmnbjkbkjmgmkaaDoor
