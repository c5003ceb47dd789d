import Derived.Test.YtjobmkdaaionlaaGreatDoorOwnBezC
import Derived.Test.YtjobmkdaaionlaaGreatDoorCut13
import Derived.Test.YtjobmkdaaionlaaGreatDoorRows
import Derived.LaidMore
import Derived.LaidLaws
import Derived.LaidHandle
import Derived.MakeChecks
import Derived.Stop.Joined
import Derived.Stop.LaidErr
import Derived.OpenShut
import Derived.ProofKit
import Derived.DataShut

set_option linter.unusedVariables false
/-
  bigint: Bezout at canonical integers.
-/
namespace Go.Proofs.YtjobmkdaaionlaaGreatDoor
open Go Go.Proofs Go.RowKit
theorem str_lit {s : ByteArray} {z : Int} (h1 : canonB (bytes s) = true) (h2 : valZ (bytes s) = z) (h3 : (digL (bytes s)).length ≤ 4096) : Str s z := by
  have e : bytes s = Lib.itoa z := by rw [← h2]; exact itoa_valZ h1
  refine ⟨e, ?_⟩
  rw [e, digL_itoa] at h3
  exact h3
theorem lit_str {s : ByteArray} {z : Int} (h : Str s z) : str (Lib.itoa z) = s := by rw [← h.text, str_bytes]
theorem resV_lit {s : ByteArray} {r : Int} (h : Str s r) : resV r = .tuple #[.string s, .int .i64 0] := by
  rw [resV_fits (by have := h.len; omega), lit_str h]
theorem resV_lit' {s : ByteArray} {r z : Int} (h : Str s z) (e : r = z) : resV r = .tuple #[.string s, .int .i64 0] := by rw [e]; exact resV_lit h
theorem s7 : Str ⟨#[55]⟩ 7 := str_lit (by decide) (by decide) (by decide)
theorem s2 : Str ⟨#[50]⟩ 2 := str_lit (by decide) (by decide) (by decide)
theorem s1 : Str ⟨#[49]⟩ 1 := str_lit (by decide) (by decide) (by decide)
theorem s6 : Str ⟨#[54]⟩ 6 := str_lit (by decide) (by decide) (by decide)
theorem s12 : Str ⟨#[49, 50]⟩ 12 := str_lit (by decide) (by decide) (by decide)
theorem own : ownKnob Tryz.prog.godebug = none := by kernel_rfl
theorem gPow : Tryz.prog.globalNamed "internal/strconv.uint64pow10" = some 1 := by kernel_rfl
theorem gPowType : (Tryz.prog.globals[1]?).map (·.type) = some 234 := by kernel_rfl
def laidAll : List (String × DataW Unit) := [("math/bits.deBruijn32tab", Rows.laid_math_bits_deBruijn32tab), ("math/bits.deBruijn64tab", Rows.laid_math_bits_deBruijn64tab), ("internal/strconv.uint64pow10", Rows.laid_internal_strconv_uint64pow10), ("strconv.ErrRange", Rows.laid_strconv_ErrRange), ("strconv.ErrSyntax", Rows.laid_strconv_ErrSyntax)]
set_option maxRecDepth 100000 in
theorem door_met (os : Os) (args : Array Value) : laidMetH Tryz.prog laidAll ((World.doorLaid Tryz.prog 62 os).forCall (fun _ _ => 0) ⟨#[], args, []⟩).memory :=
  laidMetH_of_parts3 (fuel := 8) (laidMet_of_run' 8 (by kernel_rfl) (by kernel_rfl)) (by kernel_rfl) (by kernel_rfl)
set_option maxRecDepth 100000 in
theorem tab_of_laid {W : World} (h : laidMetH Tryz.prog laidAll W) : Lib.TabIs Tryz.prog W "internal/strconv.uint64pow10" .u64 Lib.pow10Tab := by
  rw [MakeChecks.laidMetH_plain _ _ _ (by kernel_rfl)] at h
  have h2 : laidMet Tryz.prog [("internal/strconv.uint64pow10", Rows.laid_internal_strconv_uint64pow10), ("strconv.ErrRange", Rows.laid_strconv_ErrRange), ("strconv.ErrSyntax", Rows.laid_strconv_ErrSyntax)] W := h.tail.tail
  exact Lib.tabIs_of_head gPow gPowType Tryz.underlying234 Tryz.underlying159 (by kernel_rfl) (by kernel_rfl) h2
end Go.Proofs.YtjobmkdaaionlaaGreatDoor
