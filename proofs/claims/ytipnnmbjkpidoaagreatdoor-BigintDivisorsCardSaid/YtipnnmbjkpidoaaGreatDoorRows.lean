/-
  NARROWER THAN 'FOR EVERY INPUT', by the rows' own cells (each row's printed sentence says how): BigintChecks: laid · BigintOrders: laid · BigintAdds: laid · BigintDivides: laid · BigintShares: laid · BigintPowers: laid · BigintRing: laid · BigintRests: laid · BigintDivisors: laid · BigintAgrees: laid · TopIntegersRing: laid · TopIntegersDivide: laid · TopIntegersOrdered: laid.
  DERIVED. THE GIVEN ROWS OF THIS SEAT. 13 by the template 'for every input the law returns true; each argument reads behind the call as it read before'; 0 by the template 'total and deterministic' (their statements: YtipnnmbjkpidoaaGreatDoorTotals.lean).
  GIVEN WITH THE SEED: the statements are not yours to turn. If you find one false, say at which input.
  Laid BY PROGRAM, IN A SANDBOX (cutbox-rows.mjs): the forced cells as the released guide's own fill.sh prints them over the translation 5ca279b28fa3ce8c… (all of the seat's roots in one cut). By AI agents, Wed Nov 11 2026. No macro, syntax, notation, axiom, sorry.
-/
import Derived.Test.YtipnnmbjkpidoaaGreatDoorChecked
import GoSem.Claim
import GoSem.ClaimJoined
import GoSem.ClaimMapViews
import Derived.JoinedTies
import Derived.KernelRfl
namespace Go.Proofs.YtipnnmbjkpidoaaGreatDoor
/- THE CELL 'sum', in the pinned program and in every row, IS THE sha256 OF THE DUMP (.gsa) THAT YtipnnmbjkpidoaaGreatDoorProg.lean LOADS. Nothing in Lean hashes anything: it is a label: what it is worth is what the hold of that sum in a sandbox is worth. -/
noncomputable def Tryz.pinned : Pinned := { name := "ytipnnmbjkpidoaagreatdoor", sum := "5ca279b28fa3ce8c66669d85656bd44291550f5af386db83cbd5bf66ad58de2b", checked := Tryz.checked }
namespace Rows
def none {H : Type} : Left H := { results := [], args := [] }

/- WHAT THE LISTED PACKAGE-LEVEL VARIABLES READ AS WHEN THE CALL BEGINS. Each datum BY PROGRAM (the guide's laid-datum.mjs) off the statement by which the dump's own 'gosem.cut.vars' lays the variable. In a bare row this is a premise. The card (YtipnnmbjkpidoaaGreatDoorCards.lean) ties it to the program's text. -/
def laid_math_bits_deBruijn32tab {H : Type} : DataW H := .agg [.lit (.int .u8 0), .lit (.int .u8 1), .lit (.int .u8 28), .lit (.int .u8 2), .lit (.int .u8 29), .lit (.int .u8 14), .lit (.int .u8 24), .lit (.int .u8 3), .lit (.int .u8 30), .lit (.int .u8 22), .lit (.int .u8 20), .lit (.int .u8 15), .lit (.int .u8 25), .lit (.int .u8 17), .lit (.int .u8 4), .lit (.int .u8 8), .lit (.int .u8 31), .lit (.int .u8 27), .lit (.int .u8 13), .lit (.int .u8 23), .lit (.int .u8 21), .lit (.int .u8 19), .lit (.int .u8 16), .lit (.int .u8 7), .lit (.int .u8 26), .lit (.int .u8 12), .lit (.int .u8 18), .lit (.int .u8 6), .lit (.int .u8 11), .lit (.int .u8 5), .lit (.int .u8 10), .lit (.int .u8 9)]
def laid_math_bits_deBruijn64tab {H : Type} : DataW H := .agg [.lit (.int .u8 0), .lit (.int .u8 1), .lit (.int .u8 56), .lit (.int .u8 2), .lit (.int .u8 57), .lit (.int .u8 49), .lit (.int .u8 28), .lit (.int .u8 3), .lit (.int .u8 61), .lit (.int .u8 58), .lit (.int .u8 42), .lit (.int .u8 50), .lit (.int .u8 38), .lit (.int .u8 29), .lit (.int .u8 17), .lit (.int .u8 4), .lit (.int .u8 62), .lit (.int .u8 47), .lit (.int .u8 59), .lit (.int .u8 36), .lit (.int .u8 45), .lit (.int .u8 43), .lit (.int .u8 51), .lit (.int .u8 22), .lit (.int .u8 53), .lit (.int .u8 39), .lit (.int .u8 33), .lit (.int .u8 30), .lit (.int .u8 24), .lit (.int .u8 18), .lit (.int .u8 12), .lit (.int .u8 5), .lit (.int .u8 63), .lit (.int .u8 55), .lit (.int .u8 48), .lit (.int .u8 27), .lit (.int .u8 60), .lit (.int .u8 41), .lit (.int .u8 37), .lit (.int .u8 16), .lit (.int .u8 46), .lit (.int .u8 35), .lit (.int .u8 44), .lit (.int .u8 21), .lit (.int .u8 52), .lit (.int .u8 32), .lit (.int .u8 23), .lit (.int .u8 11), .lit (.int .u8 54), .lit (.int .u8 26), .lit (.int .u8 40), .lit (.int .u8 15), .lit (.int .u8 34), .lit (.int .u8 20), .lit (.int .u8 31), .lit (.int .u8 10), .lit (.int .u8 25), .lit (.int .u8 14), .lit (.int .u8 19), .lit (.int .u8 9), .lit (.int .u8 13), .lit (.int .u8 8), .lit (.int .u8 7), .lit (.int .u8 6)]
def laid_internal_strconv_uint64pow10 {H : Type} : DataW H := .agg [.lit (.int .u64 1), .lit (.int .u64 10), .lit (.int .u64 100), .lit (.int .u64 1000), .lit (.int .u64 10000), .lit (.int .u64 100000), .lit (.int .u64 1000000), .lit (.int .u64 10000000), .lit (.int .u64 100000000), .lit (.int .u64 1000000000), .lit (.int .u64 10000000000), .lit (.int .u64 100000000000), .lit (.int .u64 1000000000000), .lit (.int .u64 10000000000000), .lit (.int .u64 100000000000000), .lit (.int .u64 1000000000000000), .lit (.int .u64 10000000000000000), .lit (.int .u64 100000000000000000), .lit (.int .u64 1000000000000000000), .lit (.int .u64 10000000000000000000)]
def laid_strconv_ErrRange {H : Type} : DataW H := .iface "*errors.errorString" (.ptr (.agg [.lit (.string [118, 97, 108, 117, 101, 32, 111, 117, 116, 32, 111, 102, 32, 114, 97, 110, 103, 101])]))
def laid_strconv_ErrSyntax {H : Type} : DataW H := .iface "*errors.errorString" (.ptr (.agg [.lit (.string [105, 110, 118, 97, 108, 105, 100, 32, 115, 121, 110, 116, 97, 120])]))

/-- 'surveyorlaw01.BigintChecks': WHATEVER THE INPUT: true; the input reads as it did. -/
def bigintChecksSpec : ChangeSpec := { name := "bigintChecks", fn := fun _ => fun
  | [d1, d2] => { results := [.lit (.bool true)], args := [d1, d2] }
  | _ => none }
def bigintChecksRow : OpenClaim := { program := "ytipnnmbjkpidoaagreatdoor", sum := "5ca279b28fa3ce8c66669d85656bd44291550f5af386db83cbd5bf66ad58de2b", func := "surveyor/surveyorlaw01.BigintChecks", spec := "bigintChecks", inPlace := ["internal/bytealg.abigen_runtime_cmpstring"], unfollowed := true, recurses := true, named := ["strconv.ErrSyntax", "strconv.ErrRange", "internal/strconv.uint64pow10", "math/bits.deBruijn32tab", "math/bits.deBruijn64tab"], apart := false, laid := [("math/bits.deBruijn32tab", laid_math_bits_deBruijn32tab), ("math/bits.deBruijn64tab", laid_math_bits_deBruijn64tab), ("internal/strconv.uint64pow10", laid_internal_strconv_uint64pow10), ("strconv.ErrRange", laid_strconv_ErrRange), ("strconv.ErrSyntax", laid_strconv_ErrSyntax)] }
def BigintChecksSaid : Prop := bigintChecksRow.holds Tryz.pinned (OpenSpec.ofChange bigintChecksSpec)

/-- ITS FALSE NEIGHBOUR: 'it returns false'. Refute it at one input. -/
def bigintChecksWrong : ChangeSpec := { name := "bigintChecks", fn := fun _ => fun
  | [d1, d2] => { results := [.lit (.bool false)], args := [d1, d2] }
  | _ => none }
def BigintChecksWrongFalsely : Prop := bigintChecksRow.holds Tryz.pinned (OpenSpec.ofChange bigintChecksWrong)

/-- 'surveyorlaw01.BigintOrders': WHATEVER THE INPUT: true; the input reads as it did. -/
def bigintOrdersSpec : ChangeSpec := { name := "bigintOrders", fn := fun _ => fun
  | [d1, d2] => { results := [.lit (.bool true)], args := [d1, d2] }
  | _ => none }
def bigintOrdersRow : OpenClaim := { program := "ytipnnmbjkpidoaagreatdoor", sum := "5ca279b28fa3ce8c66669d85656bd44291550f5af386db83cbd5bf66ad58de2b", func := "surveyor/surveyorlaw01.BigintOrders", spec := "bigintOrders", inPlace := ["internal/bytealg.abigen_runtime_cmpstring"], unfollowed := true, recurses := true, named := ["strconv.ErrSyntax", "strconv.ErrRange", "internal/strconv.uint64pow10", "math/bits.deBruijn32tab", "math/bits.deBruijn64tab"], apart := false, laid := [("math/bits.deBruijn32tab", laid_math_bits_deBruijn32tab), ("math/bits.deBruijn64tab", laid_math_bits_deBruijn64tab), ("internal/strconv.uint64pow10", laid_internal_strconv_uint64pow10), ("strconv.ErrRange", laid_strconv_ErrRange), ("strconv.ErrSyntax", laid_strconv_ErrSyntax)] }
def BigintOrdersSaid : Prop := bigintOrdersRow.holds Tryz.pinned (OpenSpec.ofChange bigintOrdersSpec)

/-- ITS FALSE NEIGHBOUR: 'it returns false'. Refute it at one input. -/
def bigintOrdersWrong : ChangeSpec := { name := "bigintOrders", fn := fun _ => fun
  | [d1, d2] => { results := [.lit (.bool false)], args := [d1, d2] }
  | _ => none }
def BigintOrdersWrongFalsely : Prop := bigintOrdersRow.holds Tryz.pinned (OpenSpec.ofChange bigintOrdersWrong)

/-- 'surveyorlaw01.BigintAdds': WHATEVER THE INPUT: true; the input reads as it did. -/
def bigintAddsSpec : ChangeSpec := { name := "bigintAdds", fn := fun _ => fun
  | [d1, d2] => { results := [.lit (.bool true)], args := [d1, d2] }
  | _ => none }
def bigintAddsRow : OpenClaim := { program := "ytipnnmbjkpidoaagreatdoor", sum := "5ca279b28fa3ce8c66669d85656bd44291550f5af386db83cbd5bf66ad58de2b", func := "surveyor/surveyorlaw01.BigintAdds", spec := "bigintAdds", unfollowed := true, recurses := true, named := ["strconv.ErrSyntax", "strconv.ErrRange", "internal/strconv.uint64pow10", "math/bits.deBruijn32tab", "math/bits.deBruijn64tab"], apart := false, laid := [("math/bits.deBruijn32tab", laid_math_bits_deBruijn32tab), ("math/bits.deBruijn64tab", laid_math_bits_deBruijn64tab), ("internal/strconv.uint64pow10", laid_internal_strconv_uint64pow10), ("strconv.ErrRange", laid_strconv_ErrRange), ("strconv.ErrSyntax", laid_strconv_ErrSyntax)] }
def BigintAddsSaid : Prop := bigintAddsRow.holds Tryz.pinned (OpenSpec.ofChange bigintAddsSpec)

/-- ITS FALSE NEIGHBOUR: 'it returns false'. Refute it at one input. -/
def bigintAddsWrong : ChangeSpec := { name := "bigintAdds", fn := fun _ => fun
  | [d1, d2] => { results := [.lit (.bool false)], args := [d1, d2] }
  | _ => none }
def BigintAddsWrongFalsely : Prop := bigintAddsRow.holds Tryz.pinned (OpenSpec.ofChange bigintAddsWrong)

/-- 'surveyorlaw01.BigintDivides': WHATEVER THE INPUT: true; the input reads as it did. -/
def bigintDividesSpec : ChangeSpec := { name := "bigintDivides", fn := fun _ => fun
  | [d1, d2] => { results := [.lit (.bool true)], args := [d1, d2] }
  | _ => none }
def bigintDividesRow : OpenClaim := { program := "ytipnnmbjkpidoaagreatdoor", sum := "5ca279b28fa3ce8c66669d85656bd44291550f5af386db83cbd5bf66ad58de2b", func := "surveyor/surveyorlaw01.BigintDivides", spec := "bigintDivides", unfollowed := true, recurses := true, named := ["strconv.ErrSyntax", "strconv.ErrRange", "internal/strconv.uint64pow10", "math/bits.deBruijn32tab", "math/bits.deBruijn64tab"], apart := false, laid := [("math/bits.deBruijn32tab", laid_math_bits_deBruijn32tab), ("math/bits.deBruijn64tab", laid_math_bits_deBruijn64tab), ("internal/strconv.uint64pow10", laid_internal_strconv_uint64pow10), ("strconv.ErrRange", laid_strconv_ErrRange), ("strconv.ErrSyntax", laid_strconv_ErrSyntax)] }
def BigintDividesSaid : Prop := bigintDividesRow.holds Tryz.pinned (OpenSpec.ofChange bigintDividesSpec)

/-- ITS FALSE NEIGHBOUR: 'it returns false'. Refute it at one input. -/
def bigintDividesWrong : ChangeSpec := { name := "bigintDivides", fn := fun _ => fun
  | [d1, d2] => { results := [.lit (.bool false)], args := [d1, d2] }
  | _ => none }
def BigintDividesWrongFalsely : Prop := bigintDividesRow.holds Tryz.pinned (OpenSpec.ofChange bigintDividesWrong)

/-- 'surveyorlaw01.BigintShares': WHATEVER THE INPUT: true; the input reads as it did. -/
def bigintSharesSpec : ChangeSpec := { name := "bigintShares", fn := fun _ => fun
  | [d1, d2] => { results := [.lit (.bool true)], args := [d1, d2] }
  | _ => none }
def bigintSharesRow : OpenClaim := { program := "ytipnnmbjkpidoaagreatdoor", sum := "5ca279b28fa3ce8c66669d85656bd44291550f5af386db83cbd5bf66ad58de2b", func := "surveyor/surveyorlaw01.BigintShares", spec := "bigintShares", unfollowed := true, recurses := true, named := ["strconv.ErrSyntax", "strconv.ErrRange", "internal/strconv.uint64pow10", "math/bits.deBruijn32tab", "math/bits.deBruijn64tab"], apart := false, laid := [("math/bits.deBruijn32tab", laid_math_bits_deBruijn32tab), ("math/bits.deBruijn64tab", laid_math_bits_deBruijn64tab), ("internal/strconv.uint64pow10", laid_internal_strconv_uint64pow10), ("strconv.ErrRange", laid_strconv_ErrRange), ("strconv.ErrSyntax", laid_strconv_ErrSyntax)] }
def BigintSharesSaid : Prop := bigintSharesRow.holds Tryz.pinned (OpenSpec.ofChange bigintSharesSpec)

/-- ITS FALSE NEIGHBOUR: 'it returns false'. Refute it at one input. -/
def bigintSharesWrong : ChangeSpec := { name := "bigintShares", fn := fun _ => fun
  | [d1, d2] => { results := [.lit (.bool false)], args := [d1, d2] }
  | _ => none }
def BigintSharesWrongFalsely : Prop := bigintSharesRow.holds Tryz.pinned (OpenSpec.ofChange bigintSharesWrong)

/-- 'surveyorlaw01.BigintPowers': WHATEVER THE INPUT: true; the input reads as it did. -/
def bigintPowersSpec : ChangeSpec := { name := "bigintPowers", fn := fun _ => fun
  | [d1, d2] => { results := [.lit (.bool true)], args := [d1, d2] }
  | _ => none }
def bigintPowersRow : OpenClaim := { program := "ytipnnmbjkpidoaagreatdoor", sum := "5ca279b28fa3ce8c66669d85656bd44291550f5af386db83cbd5bf66ad58de2b", func := "surveyor/surveyorlaw01.BigintPowers", spec := "bigintPowers", unfollowed := true, recurses := true, named := ["strconv.ErrSyntax", "strconv.ErrRange", "internal/strconv.uint64pow10", "math/bits.deBruijn32tab", "math/bits.deBruijn64tab"], apart := false, laid := [("math/bits.deBruijn32tab", laid_math_bits_deBruijn32tab), ("math/bits.deBruijn64tab", laid_math_bits_deBruijn64tab), ("internal/strconv.uint64pow10", laid_internal_strconv_uint64pow10), ("strconv.ErrRange", laid_strconv_ErrRange), ("strconv.ErrSyntax", laid_strconv_ErrSyntax)] }
def BigintPowersSaid : Prop := bigintPowersRow.holds Tryz.pinned (OpenSpec.ofChange bigintPowersSpec)

/-- ITS FALSE NEIGHBOUR: 'it returns false'. Refute it at one input. -/
def bigintPowersWrong : ChangeSpec := { name := "bigintPowers", fn := fun _ => fun
  | [d1, d2] => { results := [.lit (.bool false)], args := [d1, d2] }
  | _ => none }
def BigintPowersWrongFalsely : Prop := bigintPowersRow.holds Tryz.pinned (OpenSpec.ofChange bigintPowersWrong)

/-- 'surveyorlaw01.BigintRing': WHATEVER THE INPUT: true; the input reads as it did. -/
def bigintRingSpec : ChangeSpec := { name := "bigintRing", fn := fun _ => fun
  | [d1, d2, d3] => { results := [.lit (.bool true)], args := [d1, d2, d3] }
  | _ => none }
def bigintRingRow : OpenClaim := { program := "ytipnnmbjkpidoaagreatdoor", sum := "5ca279b28fa3ce8c66669d85656bd44291550f5af386db83cbd5bf66ad58de2b", func := "surveyor/surveyorlaw01.BigintRing", spec := "bigintRing", unfollowed := true, recurses := true, named := ["strconv.ErrSyntax", "strconv.ErrRange", "internal/strconv.uint64pow10", "math/bits.deBruijn32tab", "math/bits.deBruijn64tab"], apart := false, laid := [("math/bits.deBruijn32tab", laid_math_bits_deBruijn32tab), ("math/bits.deBruijn64tab", laid_math_bits_deBruijn64tab), ("internal/strconv.uint64pow10", laid_internal_strconv_uint64pow10), ("strconv.ErrRange", laid_strconv_ErrRange), ("strconv.ErrSyntax", laid_strconv_ErrSyntax)] }
def BigintRingSaid : Prop := bigintRingRow.holds Tryz.pinned (OpenSpec.ofChange bigintRingSpec)

/-- ITS FALSE NEIGHBOUR: 'it returns false'. Refute it at one input. -/
def bigintRingWrong : ChangeSpec := { name := "bigintRing", fn := fun _ => fun
  | [d1, d2, d3] => { results := [.lit (.bool false)], args := [d1, d2, d3] }
  | _ => none }
def BigintRingWrongFalsely : Prop := bigintRingRow.holds Tryz.pinned (OpenSpec.ofChange bigintRingWrong)

/-- 'surveyorlaw01.BigintRests': WHATEVER THE INPUT: true; the input reads as it did. -/
def bigintRestsSpec : ChangeSpec := { name := "bigintRests", fn := fun _ => fun
  | [d1, d2] => { results := [.lit (.bool true)], args := [d1, d2] }
  | _ => none }
def bigintRestsRow : OpenClaim := { program := "ytipnnmbjkpidoaagreatdoor", sum := "5ca279b28fa3ce8c66669d85656bd44291550f5af386db83cbd5bf66ad58de2b", func := "surveyor/surveyorlaw01.BigintRests", spec := "bigintRests", inPlace := ["internal/bytealg.abigen_runtime_cmpstring"], unfollowed := true, recurses := true, named := ["strconv.ErrSyntax", "strconv.ErrRange", "internal/strconv.uint64pow10", "math/bits.deBruijn32tab", "math/bits.deBruijn64tab"], apart := false, laid := [("math/bits.deBruijn32tab", laid_math_bits_deBruijn32tab), ("math/bits.deBruijn64tab", laid_math_bits_deBruijn64tab), ("internal/strconv.uint64pow10", laid_internal_strconv_uint64pow10), ("strconv.ErrRange", laid_strconv_ErrRange), ("strconv.ErrSyntax", laid_strconv_ErrSyntax)] }
def BigintRestsSaid : Prop := bigintRestsRow.holds Tryz.pinned (OpenSpec.ofChange bigintRestsSpec)

/-- ITS FALSE NEIGHBOUR: 'it returns false'. Refute it at one input. -/
def bigintRestsWrong : ChangeSpec := { name := "bigintRests", fn := fun _ => fun
  | [d1, d2] => { results := [.lit (.bool false)], args := [d1, d2] }
  | _ => none }
def BigintRestsWrongFalsely : Prop := bigintRestsRow.holds Tryz.pinned (OpenSpec.ofChange bigintRestsWrong)

/-- 'surveyorlaw01.BigintDivisors': WHATEVER THE INPUT: true; the input reads as it did. -/
def bigintDivisorsSpec : ChangeSpec := { name := "bigintDivisors", fn := fun _ => fun
  | [d1, d2, d3] => { results := [.lit (.bool true)], args := [d1, d2, d3] }
  | _ => none }
def bigintDivisorsRow : OpenClaim := { program := "ytipnnmbjkpidoaagreatdoor", sum := "5ca279b28fa3ce8c66669d85656bd44291550f5af386db83cbd5bf66ad58de2b", func := "surveyor/surveyorlaw01.BigintDivisors", spec := "bigintDivisors", unfollowed := true, recurses := true, named := ["strconv.ErrSyntax", "strconv.ErrRange", "internal/strconv.uint64pow10", "math/bits.deBruijn32tab", "math/bits.deBruijn64tab"], apart := false, laid := [("math/bits.deBruijn32tab", laid_math_bits_deBruijn32tab), ("math/bits.deBruijn64tab", laid_math_bits_deBruijn64tab), ("internal/strconv.uint64pow10", laid_internal_strconv_uint64pow10), ("strconv.ErrRange", laid_strconv_ErrRange), ("strconv.ErrSyntax", laid_strconv_ErrSyntax)] }
def BigintDivisorsSaid : Prop := bigintDivisorsRow.holds Tryz.pinned (OpenSpec.ofChange bigintDivisorsSpec)

/-- ITS FALSE NEIGHBOUR: 'it returns false'. Refute it at one input. -/
def bigintDivisorsWrong : ChangeSpec := { name := "bigintDivisors", fn := fun _ => fun
  | [d1, d2, d3] => { results := [.lit (.bool false)], args := [d1, d2, d3] }
  | _ => none }
def BigintDivisorsWrongFalsely : Prop := bigintDivisorsRow.holds Tryz.pinned (OpenSpec.ofChange bigintDivisorsWrong)

/-- 'surveyorlaw01.BigintAgrees': WHATEVER THE INPUT: true; the input reads as it did. -/
def bigintAgreesSpec : ChangeSpec := { name := "bigintAgrees", fn := fun _ => fun
  | [d1, d2, d3] => { results := [.lit (.bool true)], args := [d1, d2, d3] }
  | _ => none }
def bigintAgreesRow : OpenClaim := { program := "ytipnnmbjkpidoaagreatdoor", sum := "5ca279b28fa3ce8c66669d85656bd44291550f5af386db83cbd5bf66ad58de2b", func := "surveyor/surveyorlaw01.BigintAgrees", spec := "bigintAgrees", inPlace := ["internal/bytealg.abigen_runtime_cmpstring"], unfollowed := true, recurses := true, named := ["internal/strconv.uint64pow10", "math/bits.deBruijn32tab", "math/bits.deBruijn64tab", "strconv.ErrSyntax", "strconv.ErrRange"], apart := false, laid := [("math/bits.deBruijn32tab", laid_math_bits_deBruijn32tab), ("math/bits.deBruijn64tab", laid_math_bits_deBruijn64tab), ("internal/strconv.uint64pow10", laid_internal_strconv_uint64pow10), ("strconv.ErrRange", laid_strconv_ErrRange), ("strconv.ErrSyntax", laid_strconv_ErrSyntax)] }
def BigintAgreesSaid : Prop := bigintAgreesRow.holds Tryz.pinned (OpenSpec.ofChange bigintAgreesSpec)

/-- ITS FALSE NEIGHBOUR: 'it returns false'. Refute it at one input. -/
def bigintAgreesWrong : ChangeSpec := { name := "bigintAgrees", fn := fun _ => fun
  | [d1, d2, d3] => { results := [.lit (.bool false)], args := [d1, d2, d3] }
  | _ => none }
def BigintAgreesWrongFalsely : Prop := bigintAgreesRow.holds Tryz.pinned (OpenSpec.ofChange bigintAgreesWrong)

/-- 'surveyortop.TopIntegersRing': WHATEVER THE INPUT: true; the input reads as it did. -/
def topIntegersRingSpec : ChangeSpec := { name := "topIntegersRing", fn := fun _ => fun
  | [d1, d2, d3] => { results := [.lit (.bool true)], args := [d1, d2, d3] }
  | _ => none }
def topIntegersRingRow : OpenClaim := { program := "ytipnnmbjkpidoaagreatdoor", sum := "5ca279b28fa3ce8c66669d85656bd44291550f5af386db83cbd5bf66ad58de2b", func := "surveyor/surveyortop.TopIntegersRing", spec := "topIntegersRing", inPlace := ["internal/bytealg.IndexByteString", "internal/bytealg.IndexString"], unfollowed := true, recurses := true, named := ["strconv.ErrSyntax", "strconv.ErrRange", "internal/strconv.uint64pow10", "math/bits.deBruijn32tab", "math/bits.deBruijn64tab", "internal/bytealg.MaxLen"], apart := false, laid := [("math/bits.deBruijn32tab", laid_math_bits_deBruijn32tab), ("math/bits.deBruijn64tab", laid_math_bits_deBruijn64tab), ("internal/strconv.uint64pow10", laid_internal_strconv_uint64pow10), ("strconv.ErrRange", laid_strconv_ErrRange), ("strconv.ErrSyntax", laid_strconv_ErrSyntax)] }
def TopIntegersRingSaid : Prop := topIntegersRingRow.holds Tryz.pinned (OpenSpec.ofChange topIntegersRingSpec)

/-- ITS FALSE NEIGHBOUR: 'it returns false'. Refute it at one input. -/
def topIntegersRingWrong : ChangeSpec := { name := "topIntegersRing", fn := fun _ => fun
  | [d1, d2, d3] => { results := [.lit (.bool false)], args := [d1, d2, d3] }
  | _ => none }
def TopIntegersRingWrongFalsely : Prop := topIntegersRingRow.holds Tryz.pinned (OpenSpec.ofChange topIntegersRingWrong)

/-- 'surveyortop.TopIntegersDivide': WHATEVER THE INPUT: true; the input reads as it did. -/
def topIntegersDivideSpec : ChangeSpec := { name := "topIntegersDivide", fn := fun _ => fun
  | [d1, d2] => { results := [.lit (.bool true)], args := [d1, d2] }
  | _ => none }
def topIntegersDivideRow : OpenClaim := { program := "ytipnnmbjkpidoaagreatdoor", sum := "5ca279b28fa3ce8c66669d85656bd44291550f5af386db83cbd5bf66ad58de2b", func := "surveyor/surveyortop.TopIntegersDivide", spec := "topIntegersDivide", inPlace := ["internal/bytealg.IndexByteString", "internal/bytealg.IndexString", "internal/bytealg.abigen_runtime_cmpstring"], unfollowed := true, recurses := true, named := ["strconv.ErrSyntax", "strconv.ErrRange", "internal/strconv.uint64pow10", "math/bits.deBruijn32tab", "math/bits.deBruijn64tab", "internal/bytealg.MaxLen"], apart := false, laid := [("math/bits.deBruijn32tab", laid_math_bits_deBruijn32tab), ("math/bits.deBruijn64tab", laid_math_bits_deBruijn64tab), ("internal/strconv.uint64pow10", laid_internal_strconv_uint64pow10), ("strconv.ErrRange", laid_strconv_ErrRange), ("strconv.ErrSyntax", laid_strconv_ErrSyntax)] }
def TopIntegersDivideSaid : Prop := topIntegersDivideRow.holds Tryz.pinned (OpenSpec.ofChange topIntegersDivideSpec)

/-- ITS FALSE NEIGHBOUR: 'it returns false'. Refute it at one input. -/
def topIntegersDivideWrong : ChangeSpec := { name := "topIntegersDivide", fn := fun _ => fun
  | [d1, d2] => { results := [.lit (.bool false)], args := [d1, d2] }
  | _ => none }
def TopIntegersDivideWrongFalsely : Prop := topIntegersDivideRow.holds Tryz.pinned (OpenSpec.ofChange topIntegersDivideWrong)

/-- 'surveyortop.TopIntegersOrdered': WHATEVER THE INPUT: true; the input reads as it did. -/
def topIntegersOrderedSpec : ChangeSpec := { name := "topIntegersOrdered", fn := fun _ => fun
  | [d1, d2, d3] => { results := [.lit (.bool true)], args := [d1, d2, d3] }
  | _ => none }
def topIntegersOrderedRow : OpenClaim := { program := "ytipnnmbjkpidoaagreatdoor", sum := "5ca279b28fa3ce8c66669d85656bd44291550f5af386db83cbd5bf66ad58de2b", func := "surveyor/surveyortop.TopIntegersOrdered", spec := "topIntegersOrdered", inPlace := ["internal/bytealg.IndexByteString", "internal/bytealg.IndexString", "internal/bytealg.abigen_runtime_cmpstring"], unfollowed := true, recurses := true, named := ["strconv.ErrSyntax", "strconv.ErrRange", "internal/strconv.uint64pow10", "math/bits.deBruijn32tab", "math/bits.deBruijn64tab", "internal/bytealg.MaxLen"], apart := false, laid := [("math/bits.deBruijn32tab", laid_math_bits_deBruijn32tab), ("math/bits.deBruijn64tab", laid_math_bits_deBruijn64tab), ("internal/strconv.uint64pow10", laid_internal_strconv_uint64pow10), ("strconv.ErrRange", laid_strconv_ErrRange), ("strconv.ErrSyntax", laid_strconv_ErrSyntax)] }
def TopIntegersOrderedSaid : Prop := topIntegersOrderedRow.holds Tryz.pinned (OpenSpec.ofChange topIntegersOrderedSpec)

/-- ITS FALSE NEIGHBOUR: 'it returns false'. Refute it at one input. -/
def topIntegersOrderedWrong : ChangeSpec := { name := "topIntegersOrdered", fn := fun _ => fun
  | [d1, d2, d3] => { results := [.lit (.bool false)], args := [d1, d2, d3] }
  | _ => none }
def TopIntegersOrderedWrongFalsely : Prop := topIntegersOrderedRow.holds Tryz.pinned (OpenSpec.ofChange topIntegersOrderedWrong)

/- THE SECOND FORM. 'bulk': how many values and letters a reading holds, each counted each time it is reached (what is shared counts as often as it is met; a slice's spare places count too). A statement '..UptoSaid' is the law's where the arguments, and the package variables that the reading takes, are together of bulk at most 1048576: NARROWER than '..Said'. Prove '..Said' where nothing that the law and all that it calls make is longer than what came in: it says more and counts as full. Else prove '..UptoSaid'. A law counts once. -/
mutual
def uptoBulk {H : Type} : DataW H → Nat
  | .lit (.string bytes) => bytes.length + 1
  | .lit _ => 1
  | .nil => 1
  | .ptr d => uptoBulk d + 1
  | .slice elems spare => uptoBulkAll elems + uptoBulkAll spare + 1
  | .agg parts => uptoBulkAll parts + 1
  | .iface _ d => uptoBulk d + 1
  | .map entries => uptoBulkEntries entries + 1
  | .held _ => 1
def uptoBulkAll {H : Type} : List (DataW H) → Nat
  | [] => 0
  | d :: r => uptoBulk d + uptoBulkAll r
def uptoBulkEntries {H : Type} : List (Lit × DataW H) → Nat
  | [] => 0
  | x :: r => uptoBulkEntry x + uptoBulkEntries r
def uptoBulkEntry {H : Type} : Lit × DataW H → Nat
  | (.string bytes, d) => bytes.length + uptoBulk d + 1
  | (_, d) => uptoBulk d + 1
 end
def uptoSmall : (H : Type) → List (DataW H) → Bool := fun _ ds => decide (uptoBulkAll ds ≤ 1048576)
def OpenSpec.upto (s : _root_.Go.ChangeSpec) : _root_.Go.OpenSpec := { _root_.Go.OpenSpec.ofChange s with cond := some uptoSmall }

/-- 'surveyorlaw01.BigintChecks', WHERE WHAT IT READS IS OF BULK AT MOST 1048576: true; the input reads as it did. -/
def bigintChecksUptoRow : OpenClaim := { program := "ytipnnmbjkpidoaagreatdoor", sum := "5ca279b28fa3ce8c66669d85656bd44291550f5af386db83cbd5bf66ad58de2b", func := "surveyor/surveyorlaw01.BigintChecks", spec := "bigintChecks", inPlace := ["internal/bytealg.abigen_runtime_cmpstring"], unfollowed := true, recurses := true, named := ["strconv.ErrSyntax", "strconv.ErrRange", "internal/strconv.uint64pow10", "math/bits.deBruijn32tab", "math/bits.deBruijn64tab"], apart := false, laid := [("math/bits.deBruijn32tab", laid_math_bits_deBruijn32tab), ("math/bits.deBruijn64tab", laid_math_bits_deBruijn64tab), ("internal/strconv.uint64pow10", laid_internal_strconv_uint64pow10), ("strconv.ErrRange", laid_strconv_ErrRange), ("strconv.ErrSyntax", laid_strconv_ErrSyntax)], narrowed := true }
def BigintChecksUptoSaid : Prop := bigintChecksUptoRow.holds Tryz.pinned (OpenSpec.upto bigintChecksSpec)

/-- 'surveyorlaw01.BigintOrders', WHERE WHAT IT READS IS OF BULK AT MOST 1048576: true; the input reads as it did. -/
def bigintOrdersUptoRow : OpenClaim := { program := "ytipnnmbjkpidoaagreatdoor", sum := "5ca279b28fa3ce8c66669d85656bd44291550f5af386db83cbd5bf66ad58de2b", func := "surveyor/surveyorlaw01.BigintOrders", spec := "bigintOrders", inPlace := ["internal/bytealg.abigen_runtime_cmpstring"], unfollowed := true, recurses := true, named := ["strconv.ErrSyntax", "strconv.ErrRange", "internal/strconv.uint64pow10", "math/bits.deBruijn32tab", "math/bits.deBruijn64tab"], apart := false, laid := [("math/bits.deBruijn32tab", laid_math_bits_deBruijn32tab), ("math/bits.deBruijn64tab", laid_math_bits_deBruijn64tab), ("internal/strconv.uint64pow10", laid_internal_strconv_uint64pow10), ("strconv.ErrRange", laid_strconv_ErrRange), ("strconv.ErrSyntax", laid_strconv_ErrSyntax)], narrowed := true }
def BigintOrdersUptoSaid : Prop := bigintOrdersUptoRow.holds Tryz.pinned (OpenSpec.upto bigintOrdersSpec)

/-- 'surveyorlaw01.BigintAdds', WHERE WHAT IT READS IS OF BULK AT MOST 1048576: true; the input reads as it did. -/
def bigintAddsUptoRow : OpenClaim := { program := "ytipnnmbjkpidoaagreatdoor", sum := "5ca279b28fa3ce8c66669d85656bd44291550f5af386db83cbd5bf66ad58de2b", func := "surveyor/surveyorlaw01.BigintAdds", spec := "bigintAdds", unfollowed := true, recurses := true, named := ["strconv.ErrSyntax", "strconv.ErrRange", "internal/strconv.uint64pow10", "math/bits.deBruijn32tab", "math/bits.deBruijn64tab"], apart := false, laid := [("math/bits.deBruijn32tab", laid_math_bits_deBruijn32tab), ("math/bits.deBruijn64tab", laid_math_bits_deBruijn64tab), ("internal/strconv.uint64pow10", laid_internal_strconv_uint64pow10), ("strconv.ErrRange", laid_strconv_ErrRange), ("strconv.ErrSyntax", laid_strconv_ErrSyntax)], narrowed := true }
def BigintAddsUptoSaid : Prop := bigintAddsUptoRow.holds Tryz.pinned (OpenSpec.upto bigintAddsSpec)

/-- 'surveyorlaw01.BigintDivides', WHERE WHAT IT READS IS OF BULK AT MOST 1048576: true; the input reads as it did. -/
def bigintDividesUptoRow : OpenClaim := { program := "ytipnnmbjkpidoaagreatdoor", sum := "5ca279b28fa3ce8c66669d85656bd44291550f5af386db83cbd5bf66ad58de2b", func := "surveyor/surveyorlaw01.BigintDivides", spec := "bigintDivides", unfollowed := true, recurses := true, named := ["strconv.ErrSyntax", "strconv.ErrRange", "internal/strconv.uint64pow10", "math/bits.deBruijn32tab", "math/bits.deBruijn64tab"], apart := false, laid := [("math/bits.deBruijn32tab", laid_math_bits_deBruijn32tab), ("math/bits.deBruijn64tab", laid_math_bits_deBruijn64tab), ("internal/strconv.uint64pow10", laid_internal_strconv_uint64pow10), ("strconv.ErrRange", laid_strconv_ErrRange), ("strconv.ErrSyntax", laid_strconv_ErrSyntax)], narrowed := true }
def BigintDividesUptoSaid : Prop := bigintDividesUptoRow.holds Tryz.pinned (OpenSpec.upto bigintDividesSpec)

/-- 'surveyorlaw01.BigintShares', WHERE WHAT IT READS IS OF BULK AT MOST 1048576: true; the input reads as it did. -/
def bigintSharesUptoRow : OpenClaim := { program := "ytipnnmbjkpidoaagreatdoor", sum := "5ca279b28fa3ce8c66669d85656bd44291550f5af386db83cbd5bf66ad58de2b", func := "surveyor/surveyorlaw01.BigintShares", spec := "bigintShares", unfollowed := true, recurses := true, named := ["strconv.ErrSyntax", "strconv.ErrRange", "internal/strconv.uint64pow10", "math/bits.deBruijn32tab", "math/bits.deBruijn64tab"], apart := false, laid := [("math/bits.deBruijn32tab", laid_math_bits_deBruijn32tab), ("math/bits.deBruijn64tab", laid_math_bits_deBruijn64tab), ("internal/strconv.uint64pow10", laid_internal_strconv_uint64pow10), ("strconv.ErrRange", laid_strconv_ErrRange), ("strconv.ErrSyntax", laid_strconv_ErrSyntax)], narrowed := true }
def BigintSharesUptoSaid : Prop := bigintSharesUptoRow.holds Tryz.pinned (OpenSpec.upto bigintSharesSpec)

/-- 'surveyorlaw01.BigintPowers', WHERE WHAT IT READS IS OF BULK AT MOST 1048576: true; the input reads as it did. -/
def bigintPowersUptoRow : OpenClaim := { program := "ytipnnmbjkpidoaagreatdoor", sum := "5ca279b28fa3ce8c66669d85656bd44291550f5af386db83cbd5bf66ad58de2b", func := "surveyor/surveyorlaw01.BigintPowers", spec := "bigintPowers", unfollowed := true, recurses := true, named := ["strconv.ErrSyntax", "strconv.ErrRange", "internal/strconv.uint64pow10", "math/bits.deBruijn32tab", "math/bits.deBruijn64tab"], apart := false, laid := [("math/bits.deBruijn32tab", laid_math_bits_deBruijn32tab), ("math/bits.deBruijn64tab", laid_math_bits_deBruijn64tab), ("internal/strconv.uint64pow10", laid_internal_strconv_uint64pow10), ("strconv.ErrRange", laid_strconv_ErrRange), ("strconv.ErrSyntax", laid_strconv_ErrSyntax)], narrowed := true }
def BigintPowersUptoSaid : Prop := bigintPowersUptoRow.holds Tryz.pinned (OpenSpec.upto bigintPowersSpec)

/-- 'surveyorlaw01.BigintRing', WHERE WHAT IT READS IS OF BULK AT MOST 1048576: true; the input reads as it did. -/
def bigintRingUptoRow : OpenClaim := { program := "ytipnnmbjkpidoaagreatdoor", sum := "5ca279b28fa3ce8c66669d85656bd44291550f5af386db83cbd5bf66ad58de2b", func := "surveyor/surveyorlaw01.BigintRing", spec := "bigintRing", unfollowed := true, recurses := true, named := ["strconv.ErrSyntax", "strconv.ErrRange", "internal/strconv.uint64pow10", "math/bits.deBruijn32tab", "math/bits.deBruijn64tab"], apart := false, laid := [("math/bits.deBruijn32tab", laid_math_bits_deBruijn32tab), ("math/bits.deBruijn64tab", laid_math_bits_deBruijn64tab), ("internal/strconv.uint64pow10", laid_internal_strconv_uint64pow10), ("strconv.ErrRange", laid_strconv_ErrRange), ("strconv.ErrSyntax", laid_strconv_ErrSyntax)], narrowed := true }
def BigintRingUptoSaid : Prop := bigintRingUptoRow.holds Tryz.pinned (OpenSpec.upto bigintRingSpec)

/-- 'surveyorlaw01.BigintRests', WHERE WHAT IT READS IS OF BULK AT MOST 1048576: true; the input reads as it did. -/
def bigintRestsUptoRow : OpenClaim := { program := "ytipnnmbjkpidoaagreatdoor", sum := "5ca279b28fa3ce8c66669d85656bd44291550f5af386db83cbd5bf66ad58de2b", func := "surveyor/surveyorlaw01.BigintRests", spec := "bigintRests", inPlace := ["internal/bytealg.abigen_runtime_cmpstring"], unfollowed := true, recurses := true, named := ["strconv.ErrSyntax", "strconv.ErrRange", "internal/strconv.uint64pow10", "math/bits.deBruijn32tab", "math/bits.deBruijn64tab"], apart := false, laid := [("math/bits.deBruijn32tab", laid_math_bits_deBruijn32tab), ("math/bits.deBruijn64tab", laid_math_bits_deBruijn64tab), ("internal/strconv.uint64pow10", laid_internal_strconv_uint64pow10), ("strconv.ErrRange", laid_strconv_ErrRange), ("strconv.ErrSyntax", laid_strconv_ErrSyntax)], narrowed := true }
def BigintRestsUptoSaid : Prop := bigintRestsUptoRow.holds Tryz.pinned (OpenSpec.upto bigintRestsSpec)

/-- 'surveyorlaw01.BigintDivisors', WHERE WHAT IT READS IS OF BULK AT MOST 1048576: true; the input reads as it did. -/
def bigintDivisorsUptoRow : OpenClaim := { program := "ytipnnmbjkpidoaagreatdoor", sum := "5ca279b28fa3ce8c66669d85656bd44291550f5af386db83cbd5bf66ad58de2b", func := "surveyor/surveyorlaw01.BigintDivisors", spec := "bigintDivisors", unfollowed := true, recurses := true, named := ["strconv.ErrSyntax", "strconv.ErrRange", "internal/strconv.uint64pow10", "math/bits.deBruijn32tab", "math/bits.deBruijn64tab"], apart := false, laid := [("math/bits.deBruijn32tab", laid_math_bits_deBruijn32tab), ("math/bits.deBruijn64tab", laid_math_bits_deBruijn64tab), ("internal/strconv.uint64pow10", laid_internal_strconv_uint64pow10), ("strconv.ErrRange", laid_strconv_ErrRange), ("strconv.ErrSyntax", laid_strconv_ErrSyntax)], narrowed := true }
def BigintDivisorsUptoSaid : Prop := bigintDivisorsUptoRow.holds Tryz.pinned (OpenSpec.upto bigintDivisorsSpec)

/-- 'surveyorlaw01.BigintAgrees', WHERE WHAT IT READS IS OF BULK AT MOST 1048576: true; the input reads as it did. -/
def bigintAgreesUptoRow : OpenClaim := { program := "ytipnnmbjkpidoaagreatdoor", sum := "5ca279b28fa3ce8c66669d85656bd44291550f5af386db83cbd5bf66ad58de2b", func := "surveyor/surveyorlaw01.BigintAgrees", spec := "bigintAgrees", inPlace := ["internal/bytealg.abigen_runtime_cmpstring"], unfollowed := true, recurses := true, named := ["internal/strconv.uint64pow10", "math/bits.deBruijn32tab", "math/bits.deBruijn64tab", "strconv.ErrSyntax", "strconv.ErrRange"], apart := false, laid := [("math/bits.deBruijn32tab", laid_math_bits_deBruijn32tab), ("math/bits.deBruijn64tab", laid_math_bits_deBruijn64tab), ("internal/strconv.uint64pow10", laid_internal_strconv_uint64pow10), ("strconv.ErrRange", laid_strconv_ErrRange), ("strconv.ErrSyntax", laid_strconv_ErrSyntax)], narrowed := true }
def BigintAgreesUptoSaid : Prop := bigintAgreesUptoRow.holds Tryz.pinned (OpenSpec.upto bigintAgreesSpec)

/-- 'surveyortop.TopIntegersRing', WHERE WHAT IT READS IS OF BULK AT MOST 1048576: true; the input reads as it did. -/
def topIntegersRingUptoRow : OpenClaim := { program := "ytipnnmbjkpidoaagreatdoor", sum := "5ca279b28fa3ce8c66669d85656bd44291550f5af386db83cbd5bf66ad58de2b", func := "surveyor/surveyortop.TopIntegersRing", spec := "topIntegersRing", inPlace := ["internal/bytealg.IndexByteString", "internal/bytealg.IndexString"], unfollowed := true, recurses := true, named := ["strconv.ErrSyntax", "strconv.ErrRange", "internal/strconv.uint64pow10", "math/bits.deBruijn32tab", "math/bits.deBruijn64tab", "internal/bytealg.MaxLen"], apart := false, laid := [("math/bits.deBruijn32tab", laid_math_bits_deBruijn32tab), ("math/bits.deBruijn64tab", laid_math_bits_deBruijn64tab), ("internal/strconv.uint64pow10", laid_internal_strconv_uint64pow10), ("strconv.ErrRange", laid_strconv_ErrRange), ("strconv.ErrSyntax", laid_strconv_ErrSyntax)], narrowed := true }
def TopIntegersRingUptoSaid : Prop := topIntegersRingUptoRow.holds Tryz.pinned (OpenSpec.upto topIntegersRingSpec)

/-- 'surveyortop.TopIntegersDivide', WHERE WHAT IT READS IS OF BULK AT MOST 1048576: true; the input reads as it did. -/
def topIntegersDivideUptoRow : OpenClaim := { program := "ytipnnmbjkpidoaagreatdoor", sum := "5ca279b28fa3ce8c66669d85656bd44291550f5af386db83cbd5bf66ad58de2b", func := "surveyor/surveyortop.TopIntegersDivide", spec := "topIntegersDivide", inPlace := ["internal/bytealg.IndexByteString", "internal/bytealg.IndexString", "internal/bytealg.abigen_runtime_cmpstring"], unfollowed := true, recurses := true, named := ["strconv.ErrSyntax", "strconv.ErrRange", "internal/strconv.uint64pow10", "math/bits.deBruijn32tab", "math/bits.deBruijn64tab", "internal/bytealg.MaxLen"], apart := false, laid := [("math/bits.deBruijn32tab", laid_math_bits_deBruijn32tab), ("math/bits.deBruijn64tab", laid_math_bits_deBruijn64tab), ("internal/strconv.uint64pow10", laid_internal_strconv_uint64pow10), ("strconv.ErrRange", laid_strconv_ErrRange), ("strconv.ErrSyntax", laid_strconv_ErrSyntax)], narrowed := true }
def TopIntegersDivideUptoSaid : Prop := topIntegersDivideUptoRow.holds Tryz.pinned (OpenSpec.upto topIntegersDivideSpec)

/-- 'surveyortop.TopIntegersOrdered', WHERE WHAT IT READS IS OF BULK AT MOST 1048576: true; the input reads as it did. -/
def topIntegersOrderedUptoRow : OpenClaim := { program := "ytipnnmbjkpidoaagreatdoor", sum := "5ca279b28fa3ce8c66669d85656bd44291550f5af386db83cbd5bf66ad58de2b", func := "surveyor/surveyortop.TopIntegersOrdered", spec := "topIntegersOrdered", inPlace := ["internal/bytealg.IndexByteString", "internal/bytealg.IndexString", "internal/bytealg.abigen_runtime_cmpstring"], unfollowed := true, recurses := true, named := ["strconv.ErrSyntax", "strconv.ErrRange", "internal/strconv.uint64pow10", "math/bits.deBruijn32tab", "math/bits.deBruijn64tab", "internal/bytealg.MaxLen"], apart := false, laid := [("math/bits.deBruijn32tab", laid_math_bits_deBruijn32tab), ("math/bits.deBruijn64tab", laid_math_bits_deBruijn64tab), ("internal/strconv.uint64pow10", laid_internal_strconv_uint64pow10), ("strconv.ErrRange", laid_strconv_ErrRange), ("strconv.ErrSyntax", laid_strconv_ErrSyntax)], narrowed := true }
def TopIntegersOrderedUptoSaid : Prop := topIntegersOrderedUptoRow.holds Tryz.pinned (OpenSpec.upto topIntegersOrderedSpec)

end Rows
end Go.Proofs.YtipnnmbjkpidoaaGreatDoor
