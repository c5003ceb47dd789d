/-
  NARROWER THAN 'FOR EVERY INPUT', by the rows' own cells (each row's printed sentence says how): SignHolds: laid · SignOrders: laid · SignComputes: laid · SignRefines: laid · SignGrows: laid · SignKeeps: laid.
  DERIVED. THE GIVEN ROWS OF THIS SEAT. 6 by the template 'for every input the law returns true; each argument reads behind the call as it read before'; 0 by the template 'total and deterministic' (their statements: YtmnbjkbkjmgmkaaDoorTotals.lean).
  GIVEN WITH THE SEED: the statements are not yours to turn. If you find one false, say at which input.
  Laid BY PROGRAM, IN A SANDBOX (cutbox-rows.mjs): the forced cells as the released guide's own fill.sh prints them over the translation 0e506ca208c7d5c3… (all of the seat's roots in one cut). By AI agents, Wed Nov 11 2026. No macro, syntax, notation, axiom, sorry.
-/
import Derived.Test.YtmnbjkbkjmgmkaaDoorChecked
import GoSem.Claim
import GoSem.ClaimJoined
import GoSem.ClaimMapViews
import Derived.JoinedTies
import Derived.KernelRfl
namespace Go.Proofs.YtmnbjkbkjmgmkaaDoor
/- THE CELL 'sum', in the pinned program and in every row, IS THE sha256 OF THE DUMP (.gsa) THAT YtmnbjkbkjmgmkaaDoorProg.lean LOADS. Nothing in Lean hashes anything: it is a label: what it is worth is what the hold of that sum in a sandbox is worth. -/
noncomputable def Tryd.pinned : Pinned := { name := "ytmnbjkbkjmgmkaadoor", sum := "0e506ca208c7d5c3338953dc47161c2ca66582e242b9d687b6cc35c16aae6695", checked := Tryd.checked }
namespace Rows
def none {H : Type} : Left H := { results := [], args := [] }

/- WHAT THE LISTED PACKAGE-LEVEL VARIABLES READ AS WHEN THE CALL BEGINS. Each datum BY PROGRAM (the guide's laid-datum.mjs) off the statement by which the dump's own 'gosem.cut.vars' lays the variable. In a bare row this is a premise. The card (YtmnbjkbkjmgmkaaDoorCards.lean) ties it to the program's text. -/
def laid_surveyor_sign_names {H : Type} : DataW H := .agg [.lit (.string [110, 111, 110, 101]), .lit (.string [110, 101, 103, 97, 116, 105, 118, 101]), .lit (.string [122, 101, 114, 111]), .lit (.string [110, 111, 110, 112, 111, 115, 105, 116, 105, 118, 101]), .lit (.string [112, 111, 115, 105, 116, 105, 118, 101]), .lit (.string [110, 111, 110, 122, 101, 114, 111]), .lit (.string [110, 111, 110, 110, 101, 103, 97, 116, 105, 118, 101]), .lit (.string [97, 110, 121])]
def laid_surveyor_sign_results {H : Type} : DataW H := .agg [.agg [.agg [.lit (.int .i64 1), .lit (.int .i64 1), .lit (.int .i64 7)], .agg [.lit (.int .i64 1), .lit (.int .i64 2), .lit (.int .i64 4)], .agg [.lit (.int .i64 7), .lit (.int .i64 4), .lit (.int .i64 4)]], .agg [.agg [.lit (.int .i64 7), .lit (.int .i64 1), .lit (.int .i64 1)], .agg [.lit (.int .i64 4), .lit (.int .i64 2), .lit (.int .i64 1)], .agg [.lit (.int .i64 4), .lit (.int .i64 4), .lit (.int .i64 7)]], .agg [.agg [.lit (.int .i64 4), .lit (.int .i64 2), .lit (.int .i64 1)], .agg [.lit (.int .i64 2), .lit (.int .i64 2), .lit (.int .i64 2)], .agg [.lit (.int .i64 1), .lit (.int .i64 2), .lit (.int .i64 4)]], .agg [.agg [.lit (.int .i64 6), .lit (.int .i64 0), .lit (.int .i64 1)], .agg [.lit (.int .i64 2), .lit (.int .i64 0), .lit (.int .i64 2)], .agg [.lit (.int .i64 1), .lit (.int .i64 0), .lit (.int .i64 6)]], .agg [.agg [.lit (.int .i64 3), .lit (.int .i64 0), .lit (.int .i64 6)], .agg [.lit (.int .i64 2), .lit (.int .i64 0), .lit (.int .i64 2)], .agg [.lit (.int .i64 3), .lit (.int .i64 0), .lit (.int .i64 6)]]]
def laid_surveyor_sign_partners {H : Type} : DataW H := .agg [.agg [.lit (.int .i64 0), .lit (.int .i64 0), .lit (.int .i64 0)], .agg [.lit (.int .i64 0), .lit (.int .i64 0), .lit (.int .i64 0)], .agg [.lit (.int .i64 1), .lit (.int .i64 2), .lit (.int .i64 4)], .agg [.lit (.int .i64 7), .lit (.int .i64 5), .lit (.int .i64 7)], .agg [.lit (.int .i64 7), .lit (.int .i64 4), .lit (.int .i64 4)], .agg [.lit (.int .i64 7), .lit (.int .i64 6), .lit (.int .i64 4)]]

/-- 'surveyorlaw19.SignHolds': WHATEVER THE INPUT: true; the input reads as it did. -/
def signHoldsSpec : ChangeSpec := { name := "signHolds", fn := fun _ => fun
  | [d1, d2] => { results := [.lit (.bool true)], args := [d1, d2] }
  | _ => none }
def signHoldsRow : OpenClaim := { program := "ytmnbjkbkjmgmkaadoor", sum := "0e506ca208c7d5c3338953dc47161c2ca66582e242b9d687b6cc35c16aae6695", func := "surveyor/surveyorlaw19.SignHolds", spec := "signHolds", inPlace := ["internal/bytealg.abigen_runtime_cmpstring"], unfollowed := true, recurses := true, named := ["surveyor/sign.results", "surveyor/sign.partners", "surveyor/sign.names"], apart := false, laid := [("surveyor/sign.names", laid_surveyor_sign_names), ("surveyor/sign.results", laid_surveyor_sign_results), ("surveyor/sign.partners", laid_surveyor_sign_partners)] }
def SignHoldsSaid : Prop := signHoldsRow.holds Tryd.pinned (OpenSpec.ofChange signHoldsSpec)

/-- ITS FALSE NEIGHBOUR: 'it returns false'. Refute it at one input. -/
def signHoldsWrong : ChangeSpec := { name := "signHolds", fn := fun _ => fun
  | [d1, d2] => { results := [.lit (.bool false)], args := [d1, d2] }
  | _ => none }
def SignHoldsWrongFalsely : Prop := signHoldsRow.holds Tryd.pinned (OpenSpec.ofChange signHoldsWrong)

/-- 'surveyorlaw19.SignOrders': WHATEVER THE INPUT: true; the input reads as it did. -/
def signOrdersSpec : ChangeSpec := { name := "signOrders", fn := fun _ => fun
  | [d1, d2] => { results := [.lit (.bool true)], args := [d1, d2] }
  | _ => none }
def signOrdersRow : OpenClaim := { program := "ytmnbjkbkjmgmkaadoor", sum := "0e506ca208c7d5c3338953dc47161c2ca66582e242b9d687b6cc35c16aae6695", func := "surveyor/surveyorlaw19.SignOrders", spec := "signOrders", unfollowed := true, recurses := true, named := ["surveyor/sign.results", "surveyor/sign.partners", "surveyor/sign.names"], apart := false, laid := [("surveyor/sign.names", laid_surveyor_sign_names), ("surveyor/sign.results", laid_surveyor_sign_results), ("surveyor/sign.partners", laid_surveyor_sign_partners)] }
def SignOrdersSaid : Prop := signOrdersRow.holds Tryd.pinned (OpenSpec.ofChange signOrdersSpec)

/-- ITS FALSE NEIGHBOUR: 'it returns false'. Refute it at one input. -/
def signOrdersWrong : ChangeSpec := { name := "signOrders", fn := fun _ => fun
  | [d1, d2] => { results := [.lit (.bool false)], args := [d1, d2] }
  | _ => none }
def SignOrdersWrongFalsely : Prop := signOrdersRow.holds Tryd.pinned (OpenSpec.ofChange signOrdersWrong)

/-- 'surveyorlaw19.SignComputes': WHATEVER THE INPUT: true; the input reads as it did. -/
def signComputesSpec : ChangeSpec := { name := "signComputes", fn := fun _ => fun
  | [d1, d2] => { results := [.lit (.bool true)], args := [d1, d2] }
  | _ => none }
def signComputesRow : OpenClaim := { program := "ytmnbjkbkjmgmkaadoor", sum := "0e506ca208c7d5c3338953dc47161c2ca66582e242b9d687b6cc35c16aae6695", func := "surveyor/surveyorlaw19.SignComputes", spec := "signComputes", unfollowed := true, recurses := true, named := ["surveyor/sign.results", "surveyor/sign.partners", "surveyor/sign.names"], apart := false, laid := [("surveyor/sign.names", laid_surveyor_sign_names), ("surveyor/sign.results", laid_surveyor_sign_results), ("surveyor/sign.partners", laid_surveyor_sign_partners)] }
def SignComputesSaid : Prop := signComputesRow.holds Tryd.pinned (OpenSpec.ofChange signComputesSpec)

/-- ITS FALSE NEIGHBOUR: 'it returns false'. Refute it at one input. -/
def signComputesWrong : ChangeSpec := { name := "signComputes", fn := fun _ => fun
  | [d1, d2] => { results := [.lit (.bool false)], args := [d1, d2] }
  | _ => none }
def SignComputesWrongFalsely : Prop := signComputesRow.holds Tryd.pinned (OpenSpec.ofChange signComputesWrong)

/-- 'surveyorlaw19.SignRefines': WHATEVER THE INPUT: true; the input reads as it did. -/
def signRefinesSpec : ChangeSpec := { name := "signRefines", fn := fun _ => fun
  | [d1, d2, d3] => { results := [.lit (.bool true)], args := [d1, d2, d3] }
  | _ => none }
def signRefinesRow : OpenClaim := { program := "ytmnbjkbkjmgmkaadoor", sum := "0e506ca208c7d5c3338953dc47161c2ca66582e242b9d687b6cc35c16aae6695", func := "surveyor/surveyorlaw19.SignRefines", spec := "signRefines", unfollowed := true, recurses := true, named := ["surveyor/sign.partners", "surveyor/sign.results", "surveyor/sign.names"], apart := false, laid := [("surveyor/sign.names", laid_surveyor_sign_names), ("surveyor/sign.results", laid_surveyor_sign_results), ("surveyor/sign.partners", laid_surveyor_sign_partners)] }
def SignRefinesSaid : Prop := signRefinesRow.holds Tryd.pinned (OpenSpec.ofChange signRefinesSpec)

/-- ITS FALSE NEIGHBOUR: 'it returns false'. Refute it at one input. -/
def signRefinesWrong : ChangeSpec := { name := "signRefines", fn := fun _ => fun
  | [d1, d2, d3] => { results := [.lit (.bool false)], args := [d1, d2, d3] }
  | _ => none }
def SignRefinesWrongFalsely : Prop := signRefinesRow.holds Tryd.pinned (OpenSpec.ofChange signRefinesWrong)

/-- 'surveyorlaw19.SignGrows': WHATEVER THE INPUT: true; the input reads as it did. -/
def signGrowsSpec : ChangeSpec := { name := "signGrows", fn := fun _ => fun
  | [d1, d2] => { results := [.lit (.bool true)], args := [d1, d2] }
  | _ => none }
def signGrowsRow : OpenClaim := { program := "ytmnbjkbkjmgmkaadoor", sum := "0e506ca208c7d5c3338953dc47161c2ca66582e242b9d687b6cc35c16aae6695", func := "surveyor/surveyorlaw19.SignGrows", spec := "signGrows", unfollowed := true, recurses := true, named := ["surveyor/sign.results", "surveyor/sign.partners", "surveyor/sign.names"], apart := false, laid := [("surveyor/sign.names", laid_surveyor_sign_names), ("surveyor/sign.results", laid_surveyor_sign_results), ("surveyor/sign.partners", laid_surveyor_sign_partners)] }
def SignGrowsSaid : Prop := signGrowsRow.holds Tryd.pinned (OpenSpec.ofChange signGrowsSpec)

/-- ITS FALSE NEIGHBOUR: 'it returns false'. Refute it at one input. -/
def signGrowsWrong : ChangeSpec := { name := "signGrows", fn := fun _ => fun
  | [d1, d2] => { results := [.lit (.bool false)], args := [d1, d2] }
  | _ => none }
def SignGrowsWrongFalsely : Prop := signGrowsRow.holds Tryd.pinned (OpenSpec.ofChange signGrowsWrong)

/-- 'surveyorlaw19.SignKeeps': WHATEVER THE INPUT: true; the input reads as it did. -/
def signKeepsSpec : ChangeSpec := { name := "signKeeps", fn := fun _ => fun
  | [d1, d2, d3] => { results := [.lit (.bool true)], args := [d1, d2, d3] }
  | _ => none }
def signKeepsRow : OpenClaim := { program := "ytmnbjkbkjmgmkaadoor", sum := "0e506ca208c7d5c3338953dc47161c2ca66582e242b9d687b6cc35c16aae6695", func := "surveyor/surveyorlaw19.SignKeeps", spec := "signKeeps", inPlace := ["internal/bytealg.abigen_runtime_cmpstring"], unfollowed := true, recurses := true, named := ["surveyor/sign.results", "surveyor/sign.partners", "surveyor/sign.names"], apart := false, laid := [("surveyor/sign.names", laid_surveyor_sign_names), ("surveyor/sign.results", laid_surveyor_sign_results), ("surveyor/sign.partners", laid_surveyor_sign_partners)] }
def SignKeepsSaid : Prop := signKeepsRow.holds Tryd.pinned (OpenSpec.ofChange signKeepsSpec)

/-- ITS FALSE NEIGHBOUR: 'it returns false'. Refute it at one input. -/
def signKeepsWrong : ChangeSpec := { name := "signKeeps", fn := fun _ => fun
  | [d1, d2, d3] => { results := [.lit (.bool false)], args := [d1, d2, d3] }
  | _ => none }
def SignKeepsWrongFalsely : Prop := signKeepsRow.holds Tryd.pinned (OpenSpec.ofChange signKeepsWrong)

/- THE SECOND FORM. 'bulk': how many values and letters a reading holds, each counted each time it is reached (what is shared counts as often as it is met; a slice's spare places count too). A statement '..UptoSaid' is the law's where the arguments, and the package variables that the reading takes, are together of bulk at most 1048576: NARROWER than '..Said'. Prove '..Said' where nothing that the law and all that it calls make is longer than what came in: it says more and counts as full. Else prove '..UptoSaid'. A law counts once. -/
mutual
def uptoBulk {H : Type} : DataW H → Nat
  | .lit (.string bytes) => bytes.length + 1
  | .lit _ => 1
  | .nil => 1
  | .ptr d => uptoBulk d + 1
  | .slice elems spare => uptoBulkAll elems + uptoBulkAll spare + 1
  | .agg parts => uptoBulkAll parts + 1
  | .iface _ d => uptoBulk d + 1
  | .map entries => uptoBulkEntries entries + 1
  | .held _ => 1
def uptoBulkAll {H : Type} : List (DataW H) → Nat
  | [] => 0
  | d :: r => uptoBulk d + uptoBulkAll r
def uptoBulkEntries {H : Type} : List (Lit × DataW H) → Nat
  | [] => 0
  | x :: r => uptoBulkEntry x + uptoBulkEntries r
def uptoBulkEntry {H : Type} : Lit × DataW H → Nat
  | (.string bytes, d) => bytes.length + uptoBulk d + 1
  | (_, d) => uptoBulk d + 1
 end
def uptoSmall : (H : Type) → List (DataW H) → Bool := fun _ ds => decide (uptoBulkAll ds ≤ 1048576)
def OpenSpec.upto (s : _root_.Go.ChangeSpec) : _root_.Go.OpenSpec := { _root_.Go.OpenSpec.ofChange s with cond := some uptoSmall }

/-- 'surveyorlaw19.SignHolds', WHERE WHAT IT READS IS OF BULK AT MOST 1048576: true; the input reads as it did. -/
def signHoldsUptoRow : OpenClaim := { program := "ytmnbjkbkjmgmkaadoor", sum := "0e506ca208c7d5c3338953dc47161c2ca66582e242b9d687b6cc35c16aae6695", func := "surveyor/surveyorlaw19.SignHolds", spec := "signHolds", inPlace := ["internal/bytealg.abigen_runtime_cmpstring"], unfollowed := true, recurses := true, named := ["surveyor/sign.results", "surveyor/sign.partners", "surveyor/sign.names"], apart := false, laid := [("surveyor/sign.names", laid_surveyor_sign_names), ("surveyor/sign.results", laid_surveyor_sign_results), ("surveyor/sign.partners", laid_surveyor_sign_partners)], narrowed := true }
def SignHoldsUptoSaid : Prop := signHoldsUptoRow.holds Tryd.pinned (OpenSpec.upto signHoldsSpec)

/-- 'surveyorlaw19.SignOrders', WHERE WHAT IT READS IS OF BULK AT MOST 1048576: true; the input reads as it did. -/
def signOrdersUptoRow : OpenClaim := { program := "ytmnbjkbkjmgmkaadoor", sum := "0e506ca208c7d5c3338953dc47161c2ca66582e242b9d687b6cc35c16aae6695", func := "surveyor/surveyorlaw19.SignOrders", spec := "signOrders", unfollowed := true, recurses := true, named := ["surveyor/sign.results", "surveyor/sign.partners", "surveyor/sign.names"], apart := false, laid := [("surveyor/sign.names", laid_surveyor_sign_names), ("surveyor/sign.results", laid_surveyor_sign_results), ("surveyor/sign.partners", laid_surveyor_sign_partners)], narrowed := true }
def SignOrdersUptoSaid : Prop := signOrdersUptoRow.holds Tryd.pinned (OpenSpec.upto signOrdersSpec)

/-- 'surveyorlaw19.SignComputes', WHERE WHAT IT READS IS OF BULK AT MOST 1048576: true; the input reads as it did. -/
def signComputesUptoRow : OpenClaim := { program := "ytmnbjkbkjmgmkaadoor", sum := "0e506ca208c7d5c3338953dc47161c2ca66582e242b9d687b6cc35c16aae6695", func := "surveyor/surveyorlaw19.SignComputes", spec := "signComputes", unfollowed := true, recurses := true, named := ["surveyor/sign.results", "surveyor/sign.partners", "surveyor/sign.names"], apart := false, laid := [("surveyor/sign.names", laid_surveyor_sign_names), ("surveyor/sign.results", laid_surveyor_sign_results), ("surveyor/sign.partners", laid_surveyor_sign_partners)], narrowed := true }
def SignComputesUptoSaid : Prop := signComputesUptoRow.holds Tryd.pinned (OpenSpec.upto signComputesSpec)

/-- 'surveyorlaw19.SignRefines', WHERE WHAT IT READS IS OF BULK AT MOST 1048576: true; the input reads as it did. -/
def signRefinesUptoRow : OpenClaim := { program := "ytmnbjkbkjmgmkaadoor", sum := "0e506ca208c7d5c3338953dc47161c2ca66582e242b9d687b6cc35c16aae6695", func := "surveyor/surveyorlaw19.SignRefines", spec := "signRefines", unfollowed := true, recurses := true, named := ["surveyor/sign.partners", "surveyor/sign.results", "surveyor/sign.names"], apart := false, laid := [("surveyor/sign.names", laid_surveyor_sign_names), ("surveyor/sign.results", laid_surveyor_sign_results), ("surveyor/sign.partners", laid_surveyor_sign_partners)], narrowed := true }
def SignRefinesUptoSaid : Prop := signRefinesUptoRow.holds Tryd.pinned (OpenSpec.upto signRefinesSpec)

/-- 'surveyorlaw19.SignGrows', WHERE WHAT IT READS IS OF BULK AT MOST 1048576: true; the input reads as it did. -/
def signGrowsUptoRow : OpenClaim := { program := "ytmnbjkbkjmgmkaadoor", sum := "0e506ca208c7d5c3338953dc47161c2ca66582e242b9d687b6cc35c16aae6695", func := "surveyor/surveyorlaw19.SignGrows", spec := "signGrows", unfollowed := true, recurses := true, named := ["surveyor/sign.results", "surveyor/sign.partners", "surveyor/sign.names"], apart := false, laid := [("surveyor/sign.names", laid_surveyor_sign_names), ("surveyor/sign.results", laid_surveyor_sign_results), ("surveyor/sign.partners", laid_surveyor_sign_partners)], narrowed := true }
def SignGrowsUptoSaid : Prop := signGrowsUptoRow.holds Tryd.pinned (OpenSpec.upto signGrowsSpec)

/-- 'surveyorlaw19.SignKeeps', WHERE WHAT IT READS IS OF BULK AT MOST 1048576: true; the input reads as it did. -/
def signKeepsUptoRow : OpenClaim := { program := "ytmnbjkbkjmgmkaadoor", sum := "0e506ca208c7d5c3338953dc47161c2ca66582e242b9d687b6cc35c16aae6695", func := "surveyor/surveyorlaw19.SignKeeps", spec := "signKeeps", inPlace := ["internal/bytealg.abigen_runtime_cmpstring"], unfollowed := true, recurses := true, named := ["surveyor/sign.results", "surveyor/sign.partners", "surveyor/sign.names"], apart := false, laid := [("surveyor/sign.names", laid_surveyor_sign_names), ("surveyor/sign.results", laid_surveyor_sign_results), ("surveyor/sign.partners", laid_surveyor_sign_partners)], narrowed := true }
def SignKeepsUptoSaid : Prop := signKeepsUptoRow.holds Tryd.pinned (OpenSpec.upto signKeepsSpec)

end Rows
end Go.Proofs.YtmnbjkbkjmgmkaaDoor
