import Derived.Test.YtbadibbdoljjhaaGreatDoorOwnBezC
import Derived.Test.YtbadibbdoljjhaaGreatDoorCut13
import Derived.Test.YtbadibbdoljjhaaGreatDoorRows
import Derived.LaidMore
import Derived.LaidLaws
import Derived.LaidHandle
import Derived.MakeChecks
import Derived.Stop.Joined
import Derived.Stop.LaidErr
import Derived.OpenShut
import Derived.ProofKit
import Derived.DataShut
import Derived.Test.YtbadibbdoljjhaaGreatDoorCut1
import Derived.Test.YtbadibbdoljjhaaGreatDoorCut3

set_option linter.unusedVariables false
/-
  bigint: Bezout at canonical integers.
-/
namespace Go.Proofs.YtbadibbdoljjhaaGreatDoor
open Go Go.Proofs Go.RowKit

end Go.Proofs.YtbadibbdoljjhaaGreatDoor

/-
  The laws' examples of the chapter.
-/
namespace Go.Proofs.YtbadibbdoljjhaaGreatDoor
open Go Go.Proofs Go.RowKit

theorem str_lit {s : ByteArray} {z : Int} (h1 : canonB (bytes s) = true) (h2 : valZ (bytes s) = z) (h3 : (digL (bytes s)).length ≤ 4096) : Str s z := by
  have e : bytes s = Lib.itoa z := by rw [← h2]; exact itoa_valZ h1
  refine ⟨e, ?_⟩
  rw [e, digL_itoa] at h3
  exact h3
theorem lit_str {s : ByteArray} {z : Int} (h : Str s z) : str (Lib.itoa z) = s := by rw [← h.text, str_bytes]
theorem resV_lit {s : ByteArray} {r : Int} (h : Str s r) : resV r = .tuple #[.string s, .int .i64 0] := by
  rw [resV_fits (by have := h.len; omega), lit_str h]

theorem resV_lit' {s : ByteArray} {r z : Int} (h : Str s z) (e : r = z) : resV r = .tuple #[.string s, .int .i64 0] := by rw [e]; exact resV_lit h

theorem s7 : Str ⟨#[55]⟩ 7 := str_lit (by decide) (by decide) (by decide)
theorem s2 : Str ⟨#[50]⟩ 2 := str_lit (by decide) (by decide) (by decide)
theorem sM2 : Str ⟨#[45, 50]⟩ (-2) := str_lit (by decide) (by decide) (by decide)
theorem s1 : Str ⟨#[49]⟩ 1 := str_lit (by decide) (by decide) (by decide)
theorem s6 : Str ⟨#[54]⟩ 6 := str_lit (by decide) (by decide) (by decide)
theorem s12 : Str ⟨#[49, 50]⟩ 12 := str_lit (by decide) (by decide) (by decide)
theorem sM4 : Str ⟨#[45, 52]⟩ (-4) := str_lit (by decide) (by decide) (by decide)
theorem sM1 : Str ⟨#[45, 49]⟩ (-1) := str_lit (by decide) (by decide) (by decide)
end Go.Proofs.YtbadibbdoljjhaaGreatDoor

/-
  What the rows' condition on the listed variables gives, and a world that meets it.
-/
namespace Go.Proofs.YtbadibbdoljjhaaGreatDoor
open Go Go.Proofs Go.RowKit

theorem own : ownKnob Tryz.prog.godebug = none := by kernel_rfl
theorem gPow : Tryz.prog.globalNamed "internal/strconv.uint64pow10" = some 0 := by kernel_rfl
theorem gPowType : (Tryz.prog.globals[0]?).map (·.type) = some 200 := by kernel_rfl

/-- The list of the rows. -/
def laidAll : List (String × DataW Unit) := [("math/bits.deBruijn32tab", Rows.laid_math_bits_deBruijn32tab), ("math/bits.deBruijn64tab", Rows.laid_math_bits_deBruijn64tab), ("internal/strconv.uint64pow10", Rows.laid_internal_strconv_uint64pow10), ("strconv.ErrRange", Rows.laid_strconv_ErrRange), ("strconv.ErrSyntax", Rows.laid_strconv_ErrSyntax)]

set_option maxRecDepth 100000 in
theorem door_met (os : Os) (args : Array Value) : laidMetH Tryz.prog laidAll ((World.doorLaid Tryz.prog 62 os).forCall (fun _ _ => 0) ⟨#[], args, []⟩).memory :=
  laidMetH_of_parts3 (fuel := 8) (laidMet_of_run' 8 (by kernel_rfl) (by kernel_rfl)) (by kernel_rfl) (by kernel_rfl)

set_option maxRecDepth 100000 in
theorem tab_of_laid {W : World} (h : laidMetH Tryz.prog laidAll W) : Lib.TabIs Tryz.prog W "internal/strconv.uint64pow10" .u64 Lib.pow10Tab := by
  rw [MakeChecks.laidMetH_plain _ _ _ (by kernel_rfl)] at h
  have h2 : laidMet Tryz.prog [("internal/strconv.uint64pow10", Rows.laid_internal_strconv_uint64pow10), ("strconv.ErrRange", Rows.laid_strconv_ErrRange), ("strconv.ErrSyntax", Rows.laid_strconv_ErrSyntax)] W := h.tail.tail
  exact Lib.tabIs_of_head gPow gPowType Tryz.underlying200 Tryz.underlying124 (by kernel_rfl) (by kernel_rfl) h2

theorem len_le {s : ByteArray} (h : s.size ≤ maxLen) : s.size ≤ 9223372036854775807 := by unfold maxLen at h; omega
end Go.Proofs.YtbadibbdoljjhaaGreatDoor

/-
  Plain mathematics of Lehmer's steps: no program, no model.
-/
namespace Go.Proofs.YtbadibbdoljjhaaGreatDoor

theorem mul_up {a u p : Int} (ha : 0 ≤ a) (h0 : 0 ≤ u) (h1 : u ≤ p) : 0 ≤ a * u ∧ a * u ≤ a * p := ⟨Int.mul_nonneg ha h0, Int.mul_le_mul_of_nonneg_left h1 ha⟩
theorem mul_dn {a u p : Int} (ha : a ≤ 0) (h0 : 0 ≤ u) (h1 : u ≤ p) : a * p ≤ a * u ∧ a * u ≤ 0 := by
  have h := mul_up (a := -a) (by omega) h0 h1
  simp only [Int.neg_mul] at h
  omega
/-- The true quotient is the one of the bounds. -/
theorem true_quo {X Y U V U' V' q P : Int} (hP : 0 < P) (hq : 0 ≤ q) (h1 : U * P ≤ X) (h2 : Y ≤ V * P) (h3 : X ≤ U' * P) (h4 : V' * P ≤ Y) (h5 : q * V ≤ U) (h6 : U' < (q + 1) * V') :
    0 ≤ X - q * Y ∧ X - q * Y < Y := by
  have a1 : q * Y ≤ q * (V * P) := Int.mul_le_mul_of_nonneg_left h2 hq
  have a2 : q * V * P ≤ U * P := Int.mul_le_mul_of_nonneg_right h5 (by omega)
  have a3 : q * (V * P) = q * V * P := (Int.mul_assoc ..).symm
  have b1 : U' * P < (q + 1) * V' * P := Int.mul_lt_mul_of_pos_right h6 hP
  have b2 : (q + 1) * (V' * P) ≤ (q + 1) * Y := Int.mul_le_mul_of_nonneg_left h4 (by omega)
  have b3 : (q + 1) * (V' * P) = (q + 1) * V' * P := (Int.mul_assoc ..).symm
  have b4 : (q + 1) * Y = q * Y + Y := by rw [Int.add_mul, Int.one_mul]
  omega

/-- Two Int squares below a square. -/
theorem lt_of_sq {d : Int} (h0 : 0 ≤ d) (h : d * d < 1000000000000000000) : d < 1000000000 := by
  rcases Int.lt_or_le d 1000000000 with h1 | h1
  · exact h1
  · have h2 : 1000000000 * 1000000000 ≤ d * d := Int.mul_le_mul h1 h1 (by decide) h0
    omega

/-- What holds of the true numbers behind the steps. -/
def TrueStep (x0 y0 a b c d : Int) (first : Bool) : Prop :=
  ∀ P X0 Y0 : Int, 0 < P → 0 ≤ X0 → X0 < P → 0 ≤ Y0 → Y0 < P → y0 * P + Y0 ≤ x0 * P + X0 →
    (0 ≤ c * (x0 * P + X0) + d * (y0 * P + Y0)) ∧ (c * (x0 * P + X0) + d * (y0 * P + Y0) ≤ a * (x0 * P + X0) + b * (y0 * P + Y0)) ∧
    (first = false → c * (x0 * P + X0) + d * (y0 * P + Y0) < a * (x0 * P + X0) + b * (y0 * P + Y0) ∧ a * (x0 * P + X0) + b * (y0 * P + Y0) ≤ y0 * P + Y0) ∧
    (∀ g : Int, (g ∣ a * (x0 * P + X0) + b * (y0 * P + Y0) ∧ g ∣ c * (x0 * P + X0) + d * (y0 * P + Y0)) ↔ (g ∣ x0 * P + X0 ∧ g ∣ y0 * P + Y0))

structure StepInv (x0 y0 a b c d x y : Int) (first : Bool) : Prop where
  ex : x = a * x0 + b * y0
  ey : y = c * x0 + d * y0
  sg : (0 ≤ a ∧ b ≤ 0 ∧ c ≤ 0 ∧ 0 ≤ d ∧ a * d - b * c = 1) ∨ (a ≤ 0 ∧ 0 ≤ b ∧ 0 ≤ c ∧ d ≤ 0 ∧ a * d - b * c = -1)
  yc : 0 ≤ y + c
  yd : 0 ≤ y + d
  xa : 0 ≤ x + a
  xb : 0 ≤ x + b
  ord : y ≤ x
  low : first = false → y + c < x + a ∧ y + d < x + b
  one : first = true → a = 1 ∧ b = 0 ∧ c = 0 ∧ d = 1
  ba : -1000000000 < a ∧ a < 1000000000
  bb : -1000000000 < b ∧ b < 1000000000
  bc : -1000000000 < c ∧ c < 1000000000
  bd : -1000000000 < d ∧ d < 1000000000
  xlt : x < 1000000000000000000
  tru : TrueStep x0 y0 a b c d first

theorem StepInv.start {x0 y0 : Int} (h0 : 0 ≤ y0) (h1 : y0 ≤ x0) (h2 : x0 < 1000000000000000000) : StepInv x0 y0 1 0 0 1 x0 y0 true := by
  refine ⟨by omega, by omega, .inl ⟨by decide, by decide, by decide, by decide, by decide⟩, by omega, by omega, by omega, by omega, h1, (fun h => by cases h), fun _ => ⟨rfl, rfl, rfl, rfl⟩, by decide, by decide, by decide, by decide, h2, ?_⟩
  intro P X0 Y0 hP hx1 hx2 hy1 hy2 hle
  have hy : 0 ≤ y0 * P := Int.mul_nonneg h0 (by omega)
  generalize y0 * P = u at *
  generalize x0 * P = v at *
  refine ⟨by omega, by omega, (fun h => by cases h), fun g => ?_⟩
  rw [show (1 : Int) * (v + X0) + 0 * (u + Y0) = v + X0 by omega, show (0 : Int) * (v + X0) + 1 * (u + Y0) = u + Y0 by omega]

theorem StepInv.y0 {x0 y0 a b c d x y : Int} {f : Bool} (h : StepInv x0 y0 a b c d x y f) : 0 ≤ y := by
  have h1 := h.yc; have h2 := h.yd
  rcases h.sg with ⟨_, _, hc, _, _⟩ | ⟨_, _, _, hd, _⟩ <;> omega

/-- The bounds of a later step's last multipliers. -/
theorem late_bounds {x0 y0 a b c d x y : Int} (hx : x = a * x0 + b * y0) (hy : y = c * x0 + d * y0) (hX : x0 < 1000000000000000000) (hY : y0 < 1000000000000000000)
    (sg : (0 ≤ a ∧ b ≤ 0 ∧ c ≤ 0 ∧ 0 ≤ d ∧ a * d - b * c = 1) ∨ (a ≤ 0 ∧ 0 ≤ b ∧ 0 ≤ c ∧ d ≤ 0 ∧ a * d - b * c = -1))
    (yc : 0 ≤ y + c) (yd : 0 ≤ y + d) (l1 : y + c < x + a) (l2 : y + d < x + b) :
    (-1000000000 < c ∧ c < 1000000000) ∧ (-1000000000 < d ∧ d < 1000000000) ∧ y < x := by
  rcases sg with ⟨s1, s2, s3, s4, s5⟩ | ⟨s1, s2, s3, s4, s5⟩
  · have e1 : d * x - b * y = x0 := by
      have : d * x - b * y = (a * d - b * c) * x0 := by rw [hx, hy]; grind
      rw [this, s5, Int.one_mul]
    have e2 : a * y - c * x = y0 := by
      have : a * y - c * x = (a * d - b * c) * y0 := by rw [hx, hy]; grind
      rw [this, s5, Int.one_mul]
    have y0' : 0 ≤ y := by omega
    have k1 : b * y ≤ 0 := (mul_dn s2 y0' (Int.le_refl y)).2
    have k2 : 0 ≤ a * y := Int.mul_nonneg s1 y0'
    have m1 : d * d ≤ d * x := Int.mul_le_mul_of_nonneg_left (by omega) s4
    have m2 : (-c) * (-c) ≤ (-c) * x := Int.mul_le_mul_of_nonneg_left (by omega) (by omega)
    have n1 : (-c) * x = -(c * x) := Int.neg_mul ..
    have d1 := lt_of_sq s4 (by omega)
    have c1 := lt_of_sq (d := -c) (by omega) (by omega)
    omega
  · have e1 : d * x - b * y = -x0 := by
      have : d * x - b * y = (a * d - b * c) * x0 := by rw [hx, hy]; grind
      rw [this, s5]; omega
    have e2 : a * y - c * x = -y0 := by
      have : a * y - c * x = (a * d - b * c) * y0 := by rw [hx, hy]; grind
      rw [this, s5]; omega
    have y0' : 0 ≤ y := by omega
    have k1 : 0 ≤ b * y := Int.mul_nonneg s2 y0'
    have k2 : a * y ≤ 0 := (mul_dn s1 y0' (Int.le_refl y)).2
    have m1 : (-d) * (-d) ≤ (-d) * x := Int.mul_le_mul_of_nonneg_left (by omega) (by omega)
    have m2 : c * c ≤ c * x := Int.mul_le_mul_of_nonneg_left (by omega) s3
    have n1 : (-d) * x = -(d * x) := Int.neg_mul ..
    have d1 := lt_of_sq (d := -d) (by omega) (by omega)
    have c1 := lt_of_sq s3 (by omega)
    omega

/-- One step. -/
theorem StepInv.step {x0 y0 a b c d x y q : Int} {f : Bool} (h : StepInv x0 y0 a b c d x y f) (hX : x0 < 1000000000000000000) (hY : y0 < 1000000000000000000)
    (hc : y + c ≠ 0) (hd : y + d ≠ 0) (hq1 : q = (x + a) / (y + c)) (hq2 : q = (x + b) / (y + d)) :
    StepInv x0 y0 c d (a - q * c) (b - q * d) y (x - q * y) false ∧ x - q * y < y ∧ 0 ≤ q * y ∧ q * y ≤ x ∧ (-2000000000 ≤ q * c ∧ q * c ≤ 2000000000) ∧ (-2000000000 ≤ q * d ∧ q * d ≤ 2000000000) := by
  have hv : 0 < y + c := by have := h.yc; omega
  have hv' : 0 < y + d := by have := h.yd; omega
  have hy0 := h.y0
  have q0 : 0 ≤ q := by rw [hq1]; exact Int.ediv_nonneg h.xa h.yc
  have r1 := Int.mul_ediv_add_emod (x + a) (y + c)
  have r2 := Int.emod_nonneg (x + a) (by omega : y + c ≠ 0)
  have r3 := Int.emod_lt_of_pos (x + a) hv
  have s1 := Int.mul_ediv_add_emod (x + b) (y + d)
  have s2 := Int.emod_nonneg (x + b) (by omega : y + d ≠ 0)
  have s3 := Int.emod_lt_of_pos (x + b) hv'
  rw [← hq1] at r1
  rw [← hq2] at s1
  generalize (x + a) % (y + c) = r at *
  generalize (x + b) % (y + d) = r' at *
  have e1 : (y + c) * q = q * y + q * c := by grind
  have e2 : (y + d) * q = q * y + q * d := by grind
  have t1 : x - q * y + (a - q * c) = r := by omega
  have t2 : x - q * y + (b - q * d) = r' := by omega
  have hsg : (0 ≤ c ∧ d ≤ 0 ∧ a - q * c ≤ 0 ∧ 0 ≤ b - q * d ∧ c * (b - q * d) - d * (a - q * c) = 1) ∨ (c ≤ 0 ∧ 0 ≤ d ∧ 0 ≤ a - q * c ∧ b - q * d ≤ 0 ∧ c * (b - q * d) - d * (a - q * c) = -1) := by
    have dt : c * (b - q * d) - d * (a - q * c) = -(a * d - b * c) := by grind
    rcases h.sg with ⟨g1, g2, g3, g4, g5⟩ | ⟨g1, g2, g3, g4, g5⟩
    · have k1 : 0 ≤ q * d := Int.mul_nonneg q0 g4
      have k2 : q * c ≤ 0 := by have := Int.mul_nonneg q0 (show 0 ≤ -c by omega); rw [Int.mul_neg] at this; omega
      exact .inr ⟨g3, g4, by omega, by omega, by rw [dt, g5]⟩
    · have k1 : 0 ≤ q * c := Int.mul_nonneg q0 g3
      have k2 : q * d ≤ 0 := by have := Int.mul_nonneg q0 (show 0 ≤ -d by omega); rw [Int.mul_neg] at this; omega
      exact .inl ⟨g3, g4, by omega, by omega, by rw [dt, g5]; rfl⟩
  have ex' : x - q * y = (a - q * c) * x0 + (b - q * d) * y0 := by rw [h.ex, h.ey]; grind
  have lb := late_bounds h.ey ex' hX hY hsg (by omega) (by omega) (by omega) (by omega)
  have hqy : 0 ≤ q * y := Int.mul_nonneg q0 hy0
  have hnew0 : 0 ≤ x - q * y := by rcases hsg with ⟨_, _, g3, g4, _⟩ | ⟨_, _, g3, g4, _⟩ <;> omega
  have ba := h.ba; have bb := h.bb
  refine ⟨⟨h.ey, ex', hsg, by omega, by omega, h.yc, h.yd, by omega, fun _ => ⟨by omega, by omega⟩, (fun hf => by cases hf), h.bc, h.bd, lb.1, lb.2.1, by have := h.ord; have := h.xlt; omega, ?_⟩, lb.2.2, hqy, by omega, ?_, ?_⟩
  · intro P X0 Y0 hP hx1 hx2 hy1 hy2 hle
    obtain ⟨T1, T2, T3, T4⟩ := h.tru P X0 Y0 hP hx1 hx2 hy1 hy2 hle
    have EX : a * (x0 * P + X0) + b * (y0 * P + Y0) = x * P + a * X0 + b * Y0 := by rw [h.ex]; grind
    have EY : c * (x0 * P + X0) + d * (y0 * P + Y0) = y * P + c * X0 + d * Y0 := by rw [h.ey]; grind
    have EN : (a - q * c) * (x0 * P + X0) + (b - q * d) * (y0 * P + Y0) = (a * (x0 * P + X0) + b * (y0 * P + Y0)) - q * (c * (x0 * P + X0) + d * (y0 * P + Y0)) := by grind
    have ua : (x + a) * P = x * P + a * P := Int.add_mul ..
    have ub : (x + b) * P = x * P + b * P := Int.add_mul ..
    have uc : (y + c) * P = y * P + c * P := Int.add_mul ..
    have ud : (y + d) * P = y * P + d * P := Int.add_mul ..
    have lc1 : q * (y + c) ≤ x + a := by rw [Int.mul_comm]; omega
    have lc2 : q * (y + d) ≤ x + b := by rw [Int.mul_comm]; omega
    have lc3 : x + a < (q + 1) * (y + c) := by rw [Int.add_mul, Int.one_mul, Int.mul_comm q]; omega
    have lc4 : x + b < (q + 1) * (y + d) := by rw [Int.add_mul, Int.one_mul, Int.mul_comm q]; omega
    have key : 0 ≤ (x * P + a * X0 + b * Y0) - q * (y * P + c * X0 + d * Y0) ∧ (x * P + a * X0 + b * Y0) - q * (y * P + c * X0 + d * Y0) < y * P + c * X0 + d * Y0 := by
      rcases h.sg with ⟨g1, g2, g3, g4, _⟩ | ⟨g1, g2, g3, g4, _⟩
      · have A := mul_up g1 hx1 (Int.le_of_lt hx2); have B := mul_dn g2 hy1 (Int.le_of_lt hy2)
        have C := mul_dn g3 hx1 (Int.le_of_lt hx2); have D := mul_up g4 hy1 (Int.le_of_lt hy2)
        exact true_quo (U := x + b) (V := y + d) (U' := x + a) (V' := y + c) hP q0 (by omega) (by omega) (by omega) (by omega) lc2 lc3
      · have A := mul_dn g1 hx1 (Int.le_of_lt hx2); have B := mul_up g2 hy1 (Int.le_of_lt hy2)
        have C := mul_up g3 hx1 (Int.le_of_lt hx2); have D := mul_dn g4 hy1 (Int.le_of_lt hy2)
        exact true_quo (U := x + a) (V := y + c) (U' := x + b) (V' := y + d) hP q0 (by omega) (by omega) (by omega) (by omega) lc1 lc4
    rw [← EX, ← EY, ← EN] at key
    have hlast : c * (x0 * P + X0) + d * (y0 * P + Y0) ≤ y0 * P + Y0 := by
      cases f
      · have := (T3 rfl); omega
      · obtain ⟨-, -, rfl, rfl⟩ := h.one rfl
        rw [Int.zero_mul, Int.zero_add, Int.one_mul]; exact Int.le_refl _
    refine ⟨key.1, Int.le_of_lt key.2, fun _ => ⟨key.2, hlast⟩, fun g => ?_⟩
    rw [← T4 g, EN]
    generalize a * (x0 * P + X0) + b * (y0 * P + Y0) = A at *
    generalize c * (x0 * P + X0) + d * (y0 * P + Y0) = C at *
    constructor
    · rintro ⟨h1, h2⟩
      refine ⟨?_, h1⟩
      have := Int.dvd_add h2 (Int.dvd_mul_of_dvd_right (c := C) (b := q) (a := g) h1)
      rwa [Int.sub_add_cancel] at this
    · rintro ⟨h1, h2⟩
      exact ⟨h2, Int.dvd_sub h1 (Int.dvd_mul_of_dvd_right (a := g) h2)⟩
  · omega
  · omega
end Go.Proofs.YtbadibbdoljjhaaGreatDoor

/-
  natural: word, leading.
-/
namespace Go.Proofs.YtbadibbdoljjhaaGreatDoor
open Go Go.Proofs Go.RowKit

theorem limbs_drop (x k : Nat) : (limbs x).drop k = limbs (x / 1000000000 ^ k) := by
  induction k generalizing x with
  | zero => simp
  | succ k ih =>
    by_cases h : x = 0
    · subst h; rw [Nat.zero_div, limbs_zero]; rfl
    · rw [limbs_pos h, List.drop_succ_cons, ih, Nat.pow_succ, Nat.mul_comm, Nat.div_div_eq_div_mul]
theorem val_drop_step (l : List Nat) (k : Nat) (h : k < l.length) : val (l.drop k) = l.getD k 0 + 1000000000 * val (l.drop (k + 1)) := by
  rw [List.drop_eq_getElem_cons h, getD_lt _ _ h]; rfl

set_option maxHeartbeats 2000000 in
theorem word_any (x : Nat) (vx : Value) (w : World) (hx : NumAt w vx x) (hx18 : x < 1000000000000000000) :
    Calls Tryz.prog 195 #[vx] w fun e w' => e = .returned (.int .u64 x) ∧ Below w.heap.size w w' := by
  obtain ⟨ao, c, rfl, hr⟩ := hx
  have hval := val_limbs x
  have hs := limbs_small x
  have hstep := fun k h => val_drop_step (limbs x) k h
  have hle : ∀ k, val ((limbs x).drop k) < 1000000000000000000 := fun k => by
    rw [limbs_drop, val_limbs]
    exact Nat.lt_of_le_of_lt (Nat.div_le_self _ _) hx18
  have hend : val ((limbs x).drop (limbs x).length) = 0 := by rw [List.drop_of_length_le (Nat.le_refl _)]; rfl
  have h1 := hr.1; have h2 := hr.2.1
  have hget : ∀ k, k < (limbs x).length → ∃ b off, ao = some ⟨b, off, none⟩ ∧ b < w.heap.size ∧ w.cell? ⟨b, off + k, none⟩ = some (.int .u32 ((limbs x).getD k 0 : Nat)) := fun k hk => by
    have hne : limbs x ≠ [] := fun e => by rw [e] at hk; simp at hk
    obtain ⟨b, off, rfl⟩ := hr.addr hne
    exact ⟨b, off, rfl, hr.block hne, hr.get k hk⟩
  have hd9 : ∀ k, (limbs x).getD k 0 < 1000000000 := fun k => hs.getD k
  generalize limbs x = X at *
  generalize X.length = n at *
  have HST := Lib.hid hstep; have HLE := Lib.hid hle; have HEND := Lib.hid hend; have HG := Lib.hid hget; have HV := Lib.hid hval; have HD := Lib.hid hd9
  clear hstep hle hend hget hval hs hr hd9 hx18
  go_enter Tryz.func195, Tryz.ntmps195
  have A : Below w.heap.size w (w.alloc (Obj.cells #[Value.slice ao n c] 93)) := (Below.refl _ _).alloc (Nat.le_refl _) _
  have cA : (w.alloc (Obj.cells #[Value.slice ao n c] 93)).cell? ⟨w.heap.size, 0, none⟩ = some (Value.slice ao n c) := by go_cell
  go_wp2_with fail
  have HA := Lib.hid A; clear A
  generalize (w.alloc (Obj.cells #[Value.slice ao n c] 93)) = W0 at *
  go_loop [3, 4] (fun wv iv => ∃ k : Nat, k ≤ n ∧ iv = .int .i64 ((k : Int) - 1) ∧ wv = .int .u64 (val (X.drop k) : Nat)) (fun _ iv => (intOf iv + 1).toNat)
  case atStart => exact ⟨n, Nat.le_refl _, rfl, by rw [HEND.out]; rfl⟩
  case round =>
    obtain ⟨k, hk, rfl, rfl⟩ := hrel
    rcases Nat.eq_zero_or_pos k with rfl | hk0
    · have hv : val (X.drop 0) = x := by rw [List.drop_zero, HV.out]
      rw [hv]
      clear hv
      go_wp2
      go_ret
      exact ⟨rfl, HA.out⟩
    · obtain ⟨i, rfl⟩ : ∃ i, k = i + 1 := ⟨k - 1, by omega⟩
      obtain ⟨b, off, rfl, hb, hc⟩ := HG.out i (by omega)
      have hc0 := (HA.out.cell (p := ⟨b, off + i, none⟩) hb).trans hc
      have hst := HST.out i (by omega)
      have hl := HLE.out i
      have hd := HD.out i
      generalize X.getD i 0 = d at *
      generalize val (X.drop (i + 1)) = v at *
      have e1 : (((i + 1 : Nat) : Int) - 1) = (i : Int) := by omega
      rw [e1]
      have hv : v < 1000000000 := by omega
      have HS := Lib.hid hst; clear hst hc e1 hl
      go_wp2
      go_round
      case rel => exact ⟨i, by omega, rfl, by rw [HS.out]; go_num⟩
      case measure => simp [intOf]


theorem row_drop {w : World} {b o c : Nat} {l : List Nat} (h : RowAt w (some ⟨b, o, none⟩) c l) (k : Nat) (hk : k ≤ l.length) : RowAt w (some ⟨b, o + k, none⟩) (c - k) (l.drop k) := by
  obtain ⟨h1, h2, h3⟩ := h
  refine ⟨by simp; omega, by omega, ?_⟩
  rcases h3 with ⟨h3, -⟩ | ⟨b', off, he, hlt, hc⟩
  · left; rw [h3]; simp
  · injection he with he; injection he with e1 e2 _
    subst e1; subst e2
    refine .inr ⟨b, o + k, rfl, hlt, fun j hj => ?_⟩
    rw [List.length_drop] at hj
    have := hc (k + j) (by omega)
    rw [Nat.add_assoc, this]
    rw [List.getD_eq_getElem?_getD, List.getD_eq_getElem?_getD, List.getElem?_drop]
theorem row_nil {w : World} {b o c : Nat} (hc : c ≤ 9223372036854775807) : RowAt w (some ⟨b, o, none⟩) c [] := ⟨Nat.zero_le _, hc, .inl ⟨rfl, fun h => by cases h⟩⟩

set_option maxHeartbeats 2000000 in
theorem leading_any (x m : Nat) (vx : Value) (w : World) (hx : NumAt w vx x) (hne : x ≠ 0) (hm : 2 ≤ m) (hle : (limbs x).length ≤ m) (hbig : m ≤ 1000000000000) :
    Calls Tryz.prog 225 #[vx, .int .i64 m] w fun e w' => e = .returned (.int .i64 ((x / 1000000000 ^ (m - 2) : Nat) : Int)) ∧ Below w.heap.size w w' := by
  obtain ⟨q, rfl⟩ : ∃ q, m = q + 2 := ⟨m - 2, by omega⟩
  rw [Nat.add_sub_cancel]
  obtain ⟨ao, c, rfl, hr⟩ := hx
  have hnil : limbs x ≠ [] := fun e => hne (limbs_nil_iff.1 e)
  obtain ⟨b, off, rfl⟩ := hr.addr hnil
  have h1 := hr.1; have h2 := hr.2.1
  have hlen : (limbs (x / 1000000000 ^ q)).length = (limbs x).length - q := by rw [← limbs_drop, List.length_drop]
  have hlt : x / 1000000000 ^ q < 1000000000000000000 := by
    have h3 := lt_pow_limbs (x / 1000000000 ^ q)
    rw [hlen] at h3
    exact Nat.lt_of_lt_of_le h3 (Nat.le_trans (Nat.pow_le_pow_right (by decide) (show (limbs x).length - q ≤ 2 by omega)) (by decide))
  have CW : ∀ (v : Value) (W : World), NumAt W v (x / 1000000000 ^ q) → Calls Tryz.prog 195 #[v] W fun e w' => e = .returned (.int .u64 ((x / 1000000000 ^ q : Nat) : Int)) ∧ Below W.heap.size W w' := fun v W hv => word_any _ v W hv hlt
  have hrow : q ≤ (limbs x).length → RowAt w (some ⟨b, off + q, none⟩) (c - q) (limbs (x / 1000000000 ^ q)) := fun h => by
    have := row_drop hr q h
    rwa [limbs_drop] at this
  have hzero : (limbs x).length ≤ q → limbs (x / 1000000000 ^ q) = [] := fun e => List.length_eq_zero_iff.1 (by rw [hlen]; omega)
  generalize x / 1000000000 ^ q = z at *
  generalize (limbs x).length = n at *
  have KW := Lib.hid CW; have HROW := Lib.hid hrow; have HL := Lib.hid hlen; have HNZ := Lib.hid hzero
  clear CW hrow hlen hr hnil hne hzero
  by_cases hqn : q < n
  · have hqn' : (q : Int) ≤ (n : Int) := by omega
    have hmn : min (q : Int) (n : Int) = (q : Int) := by omega
    have hqc : q < c := by omega
    have hrow := HROW.out (by omega)
    have hl := HL.out
    have HR := Lib.hid hrow; have HLL := Lib.hid hl
    clear hrow hl HROW HNZ
    go_enter Tryz.func225, Tryz.ntmps225
    go_wp2_with (go_at_call 195; refine (KW.out _ _ ⟨some ⟨b, off + q, none⟩, c - q, by rw [HLL.out], (HR.out.mono ((Below.refl _ _).alloc (Nat.le_refl _) _)).mono ((Below.refl _ _).alloc (Nat.le_refl _) _)⟩).mono ?_; rintro e w1 ⟨rfl, hb1⟩; refine Hid.out ?_)
    have HB := Lib.hid hb1; clear hb1
    refine Lib.hid ?_
    go_wp2
    go_ret
    exact ⟨rfl, (((Below.refl _ _).alloc (Nat.le_refl _) _).alloc (by simp) _).trans (HB.out.mono (by simp; omega))⟩
  · have hzn := HNZ.out (by omega)
    have hqe : q = n ∨ ¬ (q : Int) ≤ (n : Int) := by omega
    have hmn : min (q : Int) (n : Int) = (n : Int) := by omega
    have HZN := Lib.hid hzn; clear hzn HROW HL HNZ
    by_cases hcap : n = c
    · subst hcap
      rcases hqe with rfl | hqe
      · go_enter Tryz.func225, Tryz.ntmps225
        go_wp2_with (go_at_call 195; refine (KW.out _ _ ⟨some ⟨b, off, none⟩, 0, by rw [HZN.out]; rfl, by rw [HZN.out]; exact row_nil (by decide)⟩).mono ?_; rintro e w1 ⟨rfl, hb1⟩; refine Hid.out ?_)
        have HB := Lib.hid hb1; clear hb1
        refine Lib.hid ?_
        go_wp2
        go_ret
        exact ⟨rfl, (((Below.refl _ _).alloc (Nat.le_refl _) _).alloc (by simp) _).trans (HB.out.mono (by simp; omega))⟩
      · go_enter Tryz.func225, Tryz.ntmps225
        go_wp2_with (go_at_call 195; refine (KW.out _ _ ⟨some ⟨b, off, none⟩, 0, by rw [HZN.out]; rfl, by rw [HZN.out]; exact row_nil (by decide)⟩).mono ?_; rintro e w1 ⟨rfl, hb1⟩; refine Hid.out ?_)
        have HB := Lib.hid hb1; clear hb1
        refine Lib.hid ?_
        go_wp2
        go_ret
        exact ⟨rfl, (((Below.refl _ _).alloc (Nat.le_refl _) _).alloc (by simp) _).trans (HB.out.mono (by simp; omega))⟩
    · have hcap' : n < c := by omega
      clear hcap
      rcases hqe with rfl | hqe
      · go_enter Tryz.func225, Tryz.ntmps225
        go_wp2_with (go_at_call 195; refine (KW.out _ _ ⟨some ⟨b, off + q, none⟩, c - q, by rw [HZN.out]; rfl, by rw [HZN.out]; exact row_nil (by omega)⟩).mono ?_; rintro e w1 ⟨rfl, hb1⟩; refine Hid.out ?_)
        have HB := Lib.hid hb1; clear hb1
        refine Lib.hid ?_
        go_wp2
        go_ret
        exact ⟨rfl, (((Below.refl _ _).alloc (Nat.le_refl _) _).alloc (by simp) _).trans (HB.out.mono (by simp; omega))⟩
      · go_enter Tryz.func225, Tryz.ntmps225
        go_wp2_with (go_at_call 195; refine (KW.out _ _ ⟨some ⟨b, off + n, none⟩, c - n, by rw [HZN.out]; rfl, by rw [HZN.out]; exact row_nil (by omega)⟩).mono ?_; rintro e w1 ⟨rfl, hb1⟩; refine Hid.out ?_)
        have HB := Lib.hid hb1; clear hb1
        refine Lib.hid ?_
        go_wp2
        go_ret
        exact ⟨rfl, (((Below.refl _ _).alloc (Nat.le_refl _) _).alloc (by simp) _).trans (HB.out.mono (by simp; omega))⟩
end Go.Proofs.YtbadibbdoljjhaaGreatDoor

/-
  natural: stepsOf.
-/
namespace Go.Proofs.YtbadibbdoljjhaaGreatDoor
open Go Go.Proofs Go.RowKit

/-- What stepsOf returns. -/
def StepsRet (x0 y0 : Int) (w : World) (e : Ending) (w' : World) : Prop :=
  ∃ a b c d x y : Int, ∃ f : Bool, e = .returned (.agg #[.int .i64 a, .int .i64 b, .int .i64 c, .int .i64 d]) ∧ StepInv x0 y0 a b c d x y f ∧ Below w.heap.size w w'

/-- Two boxes of four cells. -/
structure StBox (w W : World) (a b c d : Int) : Prop where
  lt : w.heap.size + 1 < W.heap.size
  s0 : W.cell? ⟨w.heap.size + 1, 0, none⟩ = some (.int .i64 a)
  s1 : W.cell? ⟨w.heap.size + 1, 1, none⟩ = some (.int .i64 b)
  s2 : W.cell? ⟨w.heap.size + 1, 2, none⟩ = some (.int .i64 c)
  s3 : W.cell? ⟨w.heap.size + 1, 3, none⟩ = some (.int .i64 d)
  g0 : W.frozen? ⟨w.heap.size + 1, 0, none⟩ = false
  g1 : W.frozen? ⟨w.heap.size + 1, 1, none⟩ = false
  g2 : W.frozen? ⟨w.heap.size + 1, 2, none⟩ = false
  g3 : W.frozen? ⟨w.heap.size + 1, 3, none⟩ = false
  r0 : ∃ v, W.cell? ⟨w.heap.size, 0, none⟩ = some v
  r1 : ∃ v, W.cell? ⟨w.heap.size, 1, none⟩ = some v
  r2 : ∃ v, W.cell? ⟨w.heap.size, 2, none⟩ = some v
  r3 : ∃ v, W.cell? ⟨w.heap.size, 3, none⟩ = some v
  f0 : W.frozen? ⟨w.heap.size, 0, none⟩ = false
  f1 : W.frozen? ⟨w.heap.size, 1, none⟩ = false
  f2 : W.frozen? ⟨w.heap.size, 2, none⟩ = false
  f3 : W.frozen? ⟨w.heap.size, 3, none⟩ = false
  below : Below w.heap.size w W

theorem StBox.put {w W : World} {a b c d : Int} (h : StBox w W a b c d) (a' b' c' d' : Int) : StBox w ((((W.setCell ⟨w.heap.size + 1, 0, none⟩ (.int .i64 a')).setCell ⟨w.heap.size + 1, 1, none⟩ (.int .i64 b')).setCell ⟨w.heap.size + 1, 2, none⟩ (.int .i64 c')).setCell ⟨w.heap.size + 1, 3, none⟩ (.int .i64 d')) a' b' c' d' := by
  have hl := h.lt
  obtain ⟨v0, h0⟩ := h.r0; obtain ⟨v1, h1⟩ := h.r1; obtain ⟨v2, h2⟩ := h.r2; obtain ⟨v3, h3⟩ := h.r3
  refine ⟨by simpa [World.setCell] using hl, ?_, ?_, ?_, ?_, ?_, ?_, ?_, ?_, ⟨v0, ?_⟩, ⟨v1, ?_⟩, ⟨v2, ?_⟩, ⟨v3, ?_⟩, ?_, ?_, ?_, ?_, ?_⟩
  · rw [World.cell?_setCell_other (h := by simp), World.cell?_setCell_other (h := by simp), World.cell?_setCell_other (h := by simp)]; exact cellSet h.s0 _
  · rw [World.cell?_setCell_other (h := by simp), World.cell?_setCell_other (h := by simp)]; exact cellSet (u := .int .i64 b) (by rw [World.cell?_setCell_other (h := by simp)]; exact h.s1) _
  · rw [World.cell?_setCell_other (h := by simp)]; exact cellSet (u := .int .i64 c) (by rw [World.cell?_setCell_other (h := by simp), World.cell?_setCell_other (h := by simp)]; exact h.s2) _
  · exact cellSet (u := .int .i64 d) (by rw [World.cell?_setCell_other (h := by simp), World.cell?_setCell_other (h := by simp), World.cell?_setCell_other (h := by simp)]; exact h.s3) _
  · simp only [World.frozen?_setCell]; exact h.g0
  · simp only [World.frozen?_setCell]; exact h.g1
  · simp only [World.frozen?_setCell]; exact h.g2
  · simp only [World.frozen?_setCell]; exact h.g3
  · rw [World.cell?_setCell_other (h := by simp), World.cell?_setCell_other (h := by simp), World.cell?_setCell_other (h := by simp), World.cell?_setCell_other (h := by simp)]; exact h0
  · rw [World.cell?_setCell_other (h := by simp), World.cell?_setCell_other (h := by simp), World.cell?_setCell_other (h := by simp), World.cell?_setCell_other (h := by simp)]; exact h1
  · rw [World.cell?_setCell_other (h := by simp), World.cell?_setCell_other (h := by simp), World.cell?_setCell_other (h := by simp), World.cell?_setCell_other (h := by simp)]; exact h2
  · rw [World.cell?_setCell_other (h := by simp), World.cell?_setCell_other (h := by simp), World.cell?_setCell_other (h := by simp), World.cell?_setCell_other (h := by simp)]; exact h3
  · simp only [World.frozen?_setCell]; exact h.f0
  · simp only [World.frozen?_setCell]; exact h.f1
  · simp only [World.frozen?_setCell]; exact h.f2
  · simp only [World.frozen?_setCell]; exact h.f3
  · exact (((h.below.setCell (p := ⟨w.heap.size + 1, 0, none⟩) (by simp) _).setCell (p := ⟨w.heap.size + 1, 1, none⟩) (by simp) _).setCell (p := ⟨w.heap.size + 1, 2, none⟩) (by simp) _).setCell (p := ⟨w.heap.size + 1, 3, none⟩) (by simp) _

set_option maxRecDepth 20000 in
set_option maxHeartbeats 8000000 in
theorem stepsOf_any (x0 y0 : Int) (w : World) (h0 : 0 ≤ y0) (h1 : y0 ≤ x0) (hX : x0 < 1000000000000000000) :
    Calls Tryz.prog 224 #[.int .i64 x0, .int .i64 y0] w (StepsRet x0 y0 w) := by
  have hs0 := StepInv.start h0 h1 hX
  have HS0 := Lib.hid hs0; clear hs0
  go_enter Tryz.func224, Tryz.ntmps224
  go_wp2_with fail
  have A : StBox w ((w.alloc (Obj.cells #[Value.int IntKind.i64 0, Value.int IntKind.i64 0, Value.int IntKind.i64 0, Value.int IntKind.i64 0] 190)).alloc (Obj.cells #[Value.int IntKind.i64 1, Value.int IntKind.i64 0, Value.int IntKind.i64 0, Value.int IntKind.i64 1] 190)) 1 0 0 1 :=
    ⟨by simp, by go_cell, by go_cell, by go_cell, by go_cell, by go_cell, by go_cell, by go_cell, by go_cell, ⟨.int .i64 0, by go_cell⟩, ⟨.int .i64 0, by go_cell⟩, ⟨.int .i64 0, by go_cell⟩, ⟨.int .i64 0, by go_cell⟩, by go_cell, by go_cell, by go_cell, by go_cell, by go_grown⟩
  have HA := Lib.hid A; clear A
  go_loopw [0, 1] (fun xv yv wr => ∃ a b c d x y : Int, ∃ f : Bool, xv = .int .i64 x ∧ yv = .int .i64 y ∧ StepInv x0 y0 a b c d x y f ∧ StBox w wr a b c d) (fun _ yv _ => (intOf yv).toNat)
  case atStart => exact ⟨1, 0, 0, 1, x0, y0, true, rfl, rfl, HS0.out, HA.out⟩
  case round =>
    obtain ⟨a, b, c, d, x, y, f, rfl, rfl, hinv, hbox⟩ := hrel
    have hy0 := hinv.y0
    have hxy := hinv.ord
    have hx18 := hinv.xlt
    obtain ⟨a1, a2⟩ := hinv.ba
    obtain ⟨b1, b2⟩ := hinv.bb
    obtain ⟨c1, c2⟩ := hinv.bc
    obtain ⟨d1, d2⟩ := hinv.bd
    have hyc := hinv.yc; have hyd := hinv.yd; have hxa := hinv.xa; have hxb := hinv.xb
    have k0 := hbox.s0; have k1 := hbox.s1; have k2 := hbox.s2; have k3 := hbox.s3
    have hstep := fun (q : Int) (e1 : y + c ≠ 0) (e2 : y + d ≠ 0) (q1 : q = (x + a) / (y + c)) (q2 : q = (x + b) / (y + d)) => hinv.step hX (by omega) e1 e2 q1 q2
    have HI := Lib.hid hinv; have HBX := Lib.hid hbox; have HST := Lib.hid hstep
    clear hinv hstep
    have hexit : ∃ W' : World, W' = (((wr.setCell ⟨w.heap.size, 0, none⟩ (.int .i64 a)).setCell ⟨w.heap.size, 1, none⟩ (.int .i64 b)).setCell ⟨w.heap.size, 2, none⟩ (.int .i64 c)).setCell ⟨w.heap.size, 3, none⟩ (.int .i64 d) ∧ (W'.cell? ⟨w.heap.size, 0, none⟩ = some (.int .i64 a) ∧ W'.cell? ⟨w.heap.size, 1, none⟩ = some (.int .i64 b) ∧ W'.cell? ⟨w.heap.size, 2, none⟩ = some (.int .i64 c) ∧ W'.cell? ⟨w.heap.size, 3, none⟩ = some (.int .i64 d)) ∧ Below w.heap.size w W' := by
      obtain ⟨v0, h0⟩ := hbox.r0; obtain ⟨v1, h1⟩ := hbox.r1; obtain ⟨v2, h2⟩ := hbox.r2; obtain ⟨v3, h3⟩ := hbox.r3
      refine ⟨_, rfl, ⟨?_, ?_, ?_, ?_⟩, (((hbox.below.setCell (p := ⟨w.heap.size, 0, none⟩) (Nat.le_refl _) _).setCell (p := ⟨w.heap.size, 1, none⟩) (Nat.le_refl _) _).setCell (p := ⟨w.heap.size, 2, none⟩) (Nat.le_refl _) _).setCell (p := ⟨w.heap.size, 3, none⟩) (Nat.le_refl _) _⟩
      · rw [World.cell?_setCell_other (h := by simp), World.cell?_setCell_other (h := by simp), World.cell?_setCell_other (h := by simp)]; exact cellSet h0 _
      · rw [World.cell?_setCell_other (h := by simp), World.cell?_setCell_other (h := by simp)]; exact cellSet (u := v1) (by rw [World.cell?_setCell_other (h := by simp)]; exact h1) _
      · rw [World.cell?_setCell_other (h := by simp)]; exact cellSet (u := v2) (by rw [World.cell?_setCell_other (h := by simp), World.cell?_setCell_other (h := by simp)]; exact h2) _
      · exact cellSet (u := v3) (by rw [World.cell?_setCell_other (h := by simp), World.cell?_setCell_other (h := by simp), World.cell?_setCell_other (h := by simp)]; exact h3) _
    obtain ⟨W', hW', hcells, hbelow⟩ := hexit
    subst hW'
    have FC := Lib.hid hcells; have HBF := Lib.hid hbelow
    clear hcells hbelow
    have f0 := hbox.f0; have f1 := hbox.f1; have f2 := hbox.f2; have f3 := hbox.f3
    obtain ⟨u0, r0⟩ := hbox.r0; obtain ⟨u1, r1⟩ := hbox.r1; obtain ⟨u2, r2⟩ := hbox.r2; obtain ⟨u3, r3⟩ := hbox.r3
    have g0 := hbox.g0; have g1 := hbox.g1; have g2 := hbox.g2; have g3 := hbox.g3
    clear hbox
    by_cases e1 : y + c = 0
    · have t1 : (y + c != 0) = false := by simp [e1]
      clear e1
      go_wp2
      refine bodyPost_ret (v := .agg #[.int .i64 a, .int .i64 b, .int .i64 c, .int .i64 d]) (by simp [results, Tryz.results224, go_sem, FC.out.1, FC.out.2.1, FC.out.2.2.1, FC.out.2.2.2]) rfl ?_
      exact ⟨a, b, c, d, x, y, f, rfl, HI.out, HBF.out⟩
    · have t1 : (y + c != 0) = true := by simp [e1]
      have n1 : 0 < y + c := by omega
      by_cases e2 : y + d = 0
      · have t2 : (y + d != 0) = false := by simp [e2]
        clear e1 e2
        go_wp2
        refine bodyPost_ret (v := .agg #[.int .i64 a, .int .i64 b, .int .i64 c, .int .i64 d]) (by simp [results, Tryz.results224, go_sem, FC.out.1, FC.out.2.1, FC.out.2.2.1, FC.out.2.2.2]) rfl ?_
        exact ⟨a, b, c, d, x, y, f, rfl, HI.out, HBF.out⟩
      · have t2 : (y + d != 0) = true := by simp [e2]
        have n2 : 0 < y + d := by omega
        have hst := fun q => HST.out q e1 e2
        have HS := Lib.hid hst; clear hst HST
        have z1 : ¬ y + c = 0 := e1
        have z2 : ¬ y + d = 0 := e2
        obtain ⟨q1, hq1⟩ : ∃ q1, q1 = (x + a) / (y + c) := ⟨_, rfl⟩
        obtain ⟨q2, hq2⟩ : ∃ q2, q2 = (x + b) / (y + d) := ⟨_, rfl⟩
        by_cases hq : q1 = q2
        · have hs := HS.out q1 hq1 (hq.trans hq2)
          obtain ⟨hnew, hlt, hq0, hqx, hqc, hqd⟩ := hs
          have hb1 := hnew.bc; have hb2 := hnew.bd
          have HN := Lib.hid hnew; clear hnew HS
          have r1' : (x + a) / (y + c) = q1 := hq1.symm
          have r2' : (x + b) / (y + d) = q1 := (hq.trans hq2).symm
          clear hq hq1 hq2 e1 e2
          go_wp2
          go_roundw
          case rel => exact ⟨c, d, a - q1 * c, b - q1 * d, y, x - q1 * y, false, rfl, rfl, HN.out, HBX.out.put _ _ _ _⟩
          case measure => simp only [intOf]; omega
        · have t3 : (q1 != q2) = true := by simp [hq]
          have r1' : (x + a) / (y + c) = q1 := hq1.symm
          have r2' : (x + b) / (y + d) = q2 := hq2.symm
          clear hq hq1 hq2 e1 e2 HS
          go_wp2
          refine bodyPost_ret (v := .agg #[.int .i64 a, .int .i64 b, .int .i64 c, .int .i64 d]) (by simp [results, Tryz.results224, go_sem, FC.out.1, FC.out.2.1, FC.out.2.2.1, FC.out.2.2.2]) rfl ?_
          exact ⟨a, b, c, d, x, y, f, rfl, HI.out, HBF.out⟩
end Go.Proofs.YtbadibbdoljjhaaGreatDoor
