import Derived.Test.YtipnnmbjkpidoaaGreatDoorBase35
import Derived.Test.YtipnnmbjkpidoaaGreatDoorBase39
import Derived.Test.YtipnnmbjkpidoaaGreatDoorRows
import Derived.LaidMore
import Derived.LaidLaws
import Derived.LaidHandle
import Derived.MakeChecks
import Derived.Stop.Joined
import Derived.Stop.LaidErr
import Derived.OpenShut
import Derived.ProofKit
import Derived.DataShut

set_option linter.unusedVariables false
/-
  The laws' examples of the chapter.
-/
namespace Go.Proofs.YtipnnmbjkpidoaaGreatDoor
open Go Go.Proofs Go.RowKit

theorem str_lit {s : ByteArray} {z : Int} (h1 : canonB (bytes s) = true) (h2 : valZ (bytes s) = z) (h3 : (digL (bytes s)).length ≤ 4096) : Str s z := by
  have e : bytes s = Lib.itoa z := by rw [← h2]; exact itoa_valZ h1
  refine ⟨e, ?_⟩
  rw [e, digL_itoa] at h3
  exact h3
theorem lit_str {s : ByteArray} {z : Int} (h : Str s z) : str (Lib.itoa z) = s := by rw [← h.text, str_bytes]
theorem resV_lit {s : ByteArray} {r : Int} (h : Str s r) : resV r = .tuple #[.string s, .int .i64 0] := by
  rw [resV_fits (by have := h.len; omega), lit_str h]

theorem resV_lit' {s : ByteArray} {r z : Int} (h : Str s z) (e : r = z) : resV r = .tuple #[.string s, .int .i64 0] := by rw [e]; exact resV_lit h

theorem sM7 : Str ⟨#[45, 55]⟩ (-7) := str_lit (by decide) (by decide) (by decide)
theorem s7 : Str ⟨#[55]⟩ 7 := str_lit (by decide) (by decide) (by decide)
theorem s2 : Str ⟨#[50]⟩ 2 := str_lit (by decide) (by decide) (by decide)
theorem sM2 : Str ⟨#[45, 50]⟩ (-2) := str_lit (by decide) (by decide) (by decide)
theorem s1 : Str ⟨#[49]⟩ 1 := str_lit (by decide) (by decide) (by decide)
theorem s6 : Str ⟨#[54]⟩ 6 := str_lit (by decide) (by decide) (by decide)
theorem s12 : Str ⟨#[49, 50]⟩ 12 := str_lit (by decide) (by decide) (by decide)
theorem sM18 : Str ⟨#[45, 49, 56]⟩ (-18) := str_lit (by decide) (by decide) (by decide)
theorem s36 : Str ⟨#[51, 54]⟩ 36 := str_lit (by decide) (by decide) (by decide)
theorem sM4 : Str ⟨#[45, 52]⟩ (-4) := str_lit (by decide) (by decide) (by decide)
theorem sM1 : Str ⟨#[45, 49]⟩ (-1) := str_lit (by decide) (by decide) (by decide)
theorem sNines : Str ⟨#[57, 57, 57, 57, 57, 57, 57, 57, 57, 57, 57, 57, 57, 57, 57, 57, 57, 57, 57, 57]⟩ 99999999999999999999 := str_lit (by decide) (by decide) (by decide)
theorem sHundred : Str ⟨#[49, 48, 48, 48, 48, 48, 48, 48, 48, 48, 48, 48, 48, 48, 48, 48, 48, 48, 48, 48, 48]⟩ 100000000000000000000 := str_lit (by decide) (by decide) (by decide)
theorem sOnes : Str ⟨#[49, 49, 49, 49, 49, 49, 49, 49, 49]⟩ 111111111 := str_lit (by decide) (by decide) (by decide)
theorem sSquare : Str ⟨#[49, 50, 51, 52, 53, 54, 55, 56, 57, 56, 55, 54, 53, 52, 51, 50, 49]⟩ 12345678987654321 := str_lit (by decide) (by decide) (by decide)
theorem sPower : Str ⟨#[49, 56, 52, 52, 54, 55, 52, 52, 48, 55, 51, 55, 48, 57, 53, 53, 49, 54, 49, 54]⟩ 18446744073709551616 := str_lit (by decide) (by decide) (by decide)

theorem bez_example : bezOf 12 (-18) = (6, 2, 1) := by
  have h : bezRun 18 12 0 1 = (6, -1) := by
    rw [bezRun_step _ _ _ _ (by decide), show (18 : Int) - Int.fdiv 18 12 * 12 = 6 by decide, show (0 : Int) - Int.fdiv 18 12 * 1 = -1 by decide,
      bezRun_step _ _ _ _ (by decide), show (12 : Int) - Int.fdiv 12 6 * 6 = 0 by decide, bezRun_zero]
  rw [bezOf_pos 12 (-18) (by decide)]
  rw [show (((-18 : Int).natAbs : Nat) : Int) = 18 by decide, show Int.fmod 12 18 = 12 by decide, h]
  decide

set_option maxHeartbeats 4000000 in
theorem awake_any (w : World) (htab : Lib.TabIs Tryz.prog w "internal/strconv.uint64pow10" .u64 Lib.pow10Tab) :
    Calls Tryz.prog 17 #[] w fun e w' => e = .returned (.bool true) ∧ Below w.heap.size w w' := by
  have hT := Lib.tabBelow_of_tabIs htab
  have C1 : ∀ W : World, Below w.heap.size w W → Calls Tryz.prog 40 #[.string ⟨#[45, 55]⟩, .string ⟨#[50]⟩] W fun e w' => e = .returned (.tuple #[.string ⟨#[45, 52]⟩, .int .i64 0]) ∧ Below W.heap.size W w' := fun W hW => by
    have := quoZ _ _ _ _ W sM7 s2 (by decide) (hT.on hW).here
    rwa [resV_lit' (s := ⟨#[45, 52]⟩) (r := (-7 : Int).fdiv 2) sM4 (by decide)] at this
  have C2 : ∀ W : World, Below w.heap.size w W → Calls Tryz.prog 42 #[.string ⟨#[45, 55]⟩, .string ⟨#[50]⟩] W fun e w' => e = .returned (.tuple #[.string ⟨#[49]⟩, .int .i64 0]) ∧ Below W.heap.size W w' := fun W hW => by
    have := remZ _ _ _ _ W sM7 s2 (by decide) (hT.on hW).here
    rwa [resV_lit' (s := ⟨#[49]⟩) (r := (-7 : Int).fmod 2) s1 (by decide)] at this
  have C3 : ∀ W : World, Below w.heap.size w W → Calls Tryz.prog 40 #[.string ⟨#[55]⟩, .string ⟨#[45, 50]⟩] W fun e w' => e = .returned (.tuple #[.string ⟨#[45, 52]⟩, .int .i64 0]) ∧ Below W.heap.size W w' := fun W hW => by
    have := quoZ _ _ _ _ W s7 sM2 (by decide) (hT.on hW).here
    rwa [resV_lit' (s := ⟨#[45, 52]⟩) (r := (7 : Int).fdiv (-2)) sM4 (by decide)] at this
  have C4 : ∀ W : World, Below w.heap.size w W → Calls Tryz.prog 42 #[.string ⟨#[55]⟩, .string ⟨#[45, 50]⟩] W fun e w' => e = .returned (.tuple #[.string ⟨#[45, 49]⟩, .int .i64 0]) ∧ Below W.heap.size W w' := fun W hW => by
    have := remZ _ _ _ _ W s7 sM2 (by decide) (hT.on hW).here
    rwa [resV_lit' (s := ⟨#[45, 49]⟩) (r := (7 : Int).fmod (-2)) sM1 (by decide)] at this
  have C5 : ∀ W : World, Below w.heap.size w W → Calls Tryz.prog 34 #[.string ⟨#[57, 57, 57, 57, 57, 57, 57, 57, 57, 57, 57, 57, 57, 57, 57, 57, 57, 57, 57, 57]⟩, .string ⟨#[49]⟩] W fun e w' => e = .returned (.tuple #[.string ⟨#[49, 48, 48, 48, 48, 48, 48, 48, 48, 48, 48, 48, 48, 48, 48, 48, 48, 48, 48, 48, 48]⟩, .int .i64 0]) ∧ Below W.heap.size W w' := fun W hW => by
    have := addZ _ _ _ _ W sNines s1 (hT.on hW).here
    rwa [resV_lit' (s := ⟨#[49, 48, 48, 48, 48, 48, 48, 48, 48, 48, 48, 48, 48, 48, 48, 48, 48, 48, 48, 48, 48]⟩) (r := 99999999999999999999 + 1) sHundred (by decide)] at this
  have C6 : ∀ W : World, Below w.heap.size w W → Calls Tryz.prog 38 #[.string ⟨#[49, 49, 49, 49, 49, 49, 49, 49, 49]⟩, .string ⟨#[49, 49, 49, 49, 49, 49, 49, 49, 49]⟩] W fun e w' => e = .returned (.tuple #[.string ⟨#[49, 50, 51, 52, 53, 54, 55, 56, 57, 56, 55, 54, 53, 52, 51, 50, 49]⟩, .int .i64 0]) ∧ Below W.heap.size W w' := fun W hW => by
    have := mulZ _ _ _ _ W sOnes sOnes (hT.on hW).here
    rwa [resV_lit' (s := ⟨#[49, 50, 51, 52, 53, 54, 55, 56, 57, 56, 55, 54, 53, 52, 51, 50, 49]⟩) (r := 111111111 * 111111111) sSquare (by decide)] at this
  have C7 : ∀ W : World, Below w.heap.size w W → Calls Tryz.prog 48 #[.string ⟨#[49, 50]⟩, .string ⟨#[45, 49, 56]⟩] W fun e w' => e = .returned (.tuple #[.string ⟨#[54]⟩, .string ⟨#[50]⟩, .string ⟨#[49]⟩, .int .i64 0]) ∧ Below W.heap.size W w' := fun W hW => by
    have := bezoutZ _ _ _ _ W s12 sM18 (hT.on hW).here
    rw [bez_example] at this
    unfold bezV at this
    dsimp only at this
    rwa [lit_str s6, lit_str s2, lit_str s1] at this
  have C8 : ∀ W : World, Below w.heap.size w W → Calls Tryz.prog 46 #[.string ⟨#[49, 50]⟩, .string ⟨#[45, 49, 56]⟩] W fun e w' => e = .returned (.tuple #[.string ⟨#[51, 54]⟩, .int .i64 0]) ∧ Below W.heap.size W w' := fun W hW => by
    have := lcm_short _ _ _ _ W s12 sM18 (by decide) (by decide) (by decide) (hT.on hW).here
    rwa [show (((12 : Int).fdiv (Int.gcd 12 (-18) : Nat) * (-18)).natAbs : Int) = 36 by decide +kernel, lit_str s36] at this
  have C9 : ∀ W : World, Below w.heap.size w W → Calls Tryz.prog 51 #[.string ⟨#[50]⟩, .int .i64 64] W fun e w' => e = .returned (.tuple #[.string ⟨#[49, 56, 52, 52, 54, 55, 52, 52, 48, 55, 51, 55, 48, 57, 53, 53, 49, 54, 49, 54]⟩, .int .i64 0]) ∧ Below W.heap.size W w' := fun W hW => by
    have := powZ _ 2 64 W s2 (by decide) (hT.on hW).here
    rwa [resV_lit' (s := ⟨#[49, 56, 52, 52, 54, 55, 52, 52, 48, 55, 51, 55, 48, 57, 53, 53, 49, 54, 49, 54]⟩) (r := (2 : Int) ^ 64) sPower (by decide)] at this
  have C10 : ∀ W : World, Calls Tryz.prog 24 #[.string ⟨#[45, 48]⟩] W fun e w' => e = .returned (.int .i64 3) ∧ w' = W := fun W => check_any ⟨#[45, 48]⟩ W (by decide)
  have C11 : ∀ W : World, Calls Tryz.prog 24 #[.string ⟨#[48, 48, 55]⟩] W fun e w' => e = .returned (.int .i64 3) ∧ w' = W := fun W => check_any ⟨#[48, 48, 55]⟩ W (by decide)
  have C12 : ∀ W : World, Calls Tryz.prog 24 #[.string ⟨#[45, 49, 50]⟩] W fun e w' => e = .returned (.int .i64 0) ∧ w' = W := fun W => check_any ⟨#[45, 49, 50]⟩ W (by decide)
  have K1 := Lib.hid C1; have K2 := Lib.hid C2; have K3 := Lib.hid C3; have K4 := Lib.hid C4; have K5 := Lib.hid C5; have K6 := Lib.hid C6; have K7 := Lib.hid C7; have K8 := Lib.hid C8; have K9 := Lib.hid C9; have K10 := Lib.hid C10; have K11 := Lib.hid C11; have K12 := Lib.hid C12
  clear C1 C2 C3 C4 C5 C6 C7 C8 C9 C10 C11 C12 htab hT
  go_enter Tryz.func17, Tryz.ntmps17
  go_wp2_with (go_at_call 40; refine (K1.out _ (Below.refl _ _)).mono ?_; rintro e w1 ⟨rfl, hb1⟩; refine Hid.out ?_)
  refine Lib.hid ?_
  go_wp2_with (go_at_call 42; refine (K2.out _ hb1).mono ?_; rintro e w2 ⟨rfl, hb2⟩; refine Hid.out ?_)
  have hb2' := Below.chain hb1 hb2; clear hb1 hb2
  refine Lib.hid ?_
  go_wp2_with (go_at_call 40; refine (K3.out _ hb2').mono ?_; rintro e w3 ⟨rfl, hb3⟩; refine Hid.out ?_)
  have hb3' := Below.chain hb2' hb3; clear hb2' hb3
  refine Lib.hid ?_
  go_wp2_with (go_at_call 42; refine (K4.out _ hb3').mono ?_; rintro e w4 ⟨rfl, hb4⟩; refine Hid.out ?_)
  have hb4' := Below.chain hb3' hb4; clear hb3' hb4
  refine Lib.hid ?_
  go_wp2_with (go_at_call 34; refine (K5.out _ hb4').mono ?_; rintro e w5 ⟨rfl, hb5⟩; refine Hid.out ?_)
  have hb5' := Below.chain hb4' hb5; clear hb4' hb5
  refine Lib.hid ?_
  go_wp2_with (go_at_call 38; refine (K6.out _ hb5').mono ?_; rintro e w6 ⟨rfl, hb6⟩; refine Hid.out ?_)
  have hb6' := Below.chain hb5' hb6; clear hb5' hb6
  refine Lib.hid ?_
  go_wp2_with (go_at_call 48; refine (K7.out _ hb6').mono ?_; rintro e w7 ⟨rfl, hb7⟩; refine Hid.out ?_)
  have hb7' := Below.chain hb6' hb7; clear hb6' hb7
  refine Lib.hid ?_
  go_wp2_with (go_at_call 46; refine (K8.out _ hb7').mono ?_; rintro e w8 ⟨rfl, hb8⟩; refine Hid.out ?_)
  have hb8' := Below.chain hb7' hb8; clear hb7' hb8
  refine Lib.hid ?_
  go_wp2_with (go_at_call 51; refine (K9.out _ hb8').mono ?_; rintro e w9 ⟨rfl, hb9⟩; refine Hid.out ?_)
  have hb9' := Below.chain hb8' hb9; clear hb8' hb9
  refine Lib.hid ?_
  go_wp2_with (go_at_call 24; refine (K10.out _).mono ?_; rintro e w10 ⟨rfl, rfl⟩; refine Hid.out ?_)
  refine Lib.hid ?_
  go_wp2_with (go_at_call 24; refine (K11.out _).mono ?_; rintro e w11 ⟨rfl, rfl⟩; refine Hid.out ?_)
  refine Lib.hid ?_
  go_wp2_with (go_at_call 24; refine (K12.out _).mono ?_; rintro e w12 ⟨rfl, rfl⟩; refine Hid.out ?_)
  refine Lib.hid ?_
  go_wp2
  refine bodyPost_ret (v := .bool true) (by simp [results, Tryz.results17, go_sem]) rfl ?_
  exact ⟨rfl, hb9'⟩
end Go.Proofs.YtipnnmbjkpidoaaGreatDoor

/-
  What the rows' condition on the listed variables gives, and a world that meets it.
-/
namespace Go.Proofs.YtipnnmbjkpidoaaGreatDoor
open Go Go.Proofs Go.RowKit

theorem own : ownKnob Tryz.prog.godebug = none := by kernel_rfl
theorem gPow : Tryz.prog.globalNamed "internal/strconv.uint64pow10" = some 3 := by kernel_rfl
theorem gPowType : (Tryz.prog.globals[3]?).map (·.type) = some 185 := by kernel_rfl

/-- The list of the rows. -/
def laidAll : List (String × DataW Unit) := [("math/bits.deBruijn32tab", Rows.laid_math_bits_deBruijn32tab), ("math/bits.deBruijn64tab", Rows.laid_math_bits_deBruijn64tab), ("internal/strconv.uint64pow10", Rows.laid_internal_strconv_uint64pow10), ("strconv.ErrRange", Rows.laid_strconv_ErrRange), ("strconv.ErrSyntax", Rows.laid_strconv_ErrSyntax)]

set_option maxRecDepth 100000 in
theorem door_met (os : Os) (args : Array Value) : laidMetH Tryz.prog laidAll ((World.doorLaid Tryz.prog 62 os).forCall (fun _ _ => 0) ⟨#[], args, []⟩).memory :=
  laidMetH_of_parts3 (fuel := 8) (laidMet_of_run' 8 (by kernel_rfl) (by kernel_rfl)) (by kernel_rfl) (by kernel_rfl)

set_option maxRecDepth 100000 in
theorem tab_of_laid {W : World} (h : laidMetH Tryz.prog laidAll W) : Lib.TabIs Tryz.prog W "internal/strconv.uint64pow10" .u64 Lib.pow10Tab := by
  rw [MakeChecks.laidMetH_plain _ _ _ (by kernel_rfl)] at h
  have h2 : laidMet Tryz.prog [("internal/strconv.uint64pow10", Rows.laid_internal_strconv_uint64pow10), ("strconv.ErrRange", Rows.laid_strconv_ErrRange), ("strconv.ErrSyntax", Rows.laid_strconv_ErrSyntax)] W := h.tail.tail
  exact Lib.tabIs_of_head gPow gPowType Tryz.underlying185 Tryz.underlying114 (by kernel_rfl) (by kernel_rfl) h2

theorem len_le {s : ByteArray} (h : s.size ≤ maxLen) : s.size ≤ 9223372036854775807 := by unfold maxLen at h; omega
theorem i32_bounds {a : Int} (h : (Lit.int .i32 a).wf = true) : -2147483648 ≤ a ∧ a ≤ 2147483647 := (Lit.wf_int_iff .i32 a).1 h
theorem u8_bounds {a : Int} (h : (Lit.int .u8 a).wf = true) : 0 ≤ a ∧ a ≤ 255 := (Lit.wf_int_iff .u8 a).1 h
theorem i64_bounds {a : Int} (h : (Lit.int .i64 a).wf = true) : -9223372036854775808 ≤ a ∧ a ≤ 9223372036854775807 := (Lit.wf_int_iff .i64 a).1 h
end Go.Proofs.YtipnnmbjkpidoaaGreatDoor
