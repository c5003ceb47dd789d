import Derived.Test.YtbadibbdoljjhaaGreatDoorOwnBezC
import Derived.Test.YtbadibbdoljjhaaGreatDoorBase13
import Derived.Test.YtbadibbdoljjhaaGreatDoorRows
import Derived.LaidMore
import Derived.LaidLaws
import Derived.LaidHandle
import Derived.MakeChecks
import Derived.Stop.Joined
import Derived.Stop.LaidErr
import Derived.OpenShut
import Derived.ProofKit
import Derived.DataShut
import Derived.Test.YtbadibbdoljjhaaGreatDoorBase1
import Derived.Test.YtbadibbdoljjhaaGreatDoorBase3

set_option linter.unusedVariables false
/-
  bigint: Bezout at canonical integers.
-/
namespace Go.Proofs.YtbadibbdoljjhaaGreatDoor
open Go Go.Proofs Go.RowKit

theorem bezout_any (x y : Int) (va vb : Value) (w : World) (ha : IntAt w va x) (hb : IntAt w vb y) (hlx : (limbs x.natAbs).length ≤ 1000) (hly : (limbs y.natAbs).length ≤ 1000) :
    Calls Tryz.prog 91 #[va, vb] w (BezRet (bezOf x y).1 (bezOf x y).2.1 (bezOf x y).2.2 w) := by
  by_cases hy : y = 0
  · subst hy
    exact bezout_zero x va vb w ha hb
  · exact bezout_pos x y va vb w ha hb hlx hly hy

theorem bezOf_limbs (x y : Int) (hlx : (limbs x.natAbs).length ≤ 1000) (hly : (limbs y.natAbs).length ≤ 1000) : (limbs (bezOf x y).1.natAbs).length ≤ 1000 ∧ (limbs (bezOf x y).2.1.natAbs).length ≤ 1000 ∧ (limbs (bezOf x y).2.2.natAbs).length ≤ 2001 := by
  by_cases hy : y = 0
  · subst hy
    unfold bezOf
    rw [if_pos rfl]
    refine ⟨by simpa using hlx, ?_, by simp [limbs_zero]⟩
    show (limbs (Int.sign x).natAbs).length ≤ 1000
    refine Nat.le_trans (limbs_length_le (k := 1) ?_) (by decide)
    rw [Int.natAbs_sign]
    split <;> decide
  · have hMod : (x.fmod (y.natAbs : Int)).natAbs < y.natAbs := by have := fmod_natAbs_lt x (y.natAbs : Int) (by omega); omega
    obtain ⟨h1, h2, h3⟩ := bezRun_inv y.natAbs _ _ _ _ _ (Nat.le_refl _) (BezInv.start y (x.fmod (y.natAbs : Int)) hy (fmod_nonneg _ _ (by omega)) (by omega))
    rw [bezOf_pos x y hy]
    generalize bezRun (y.natAbs : Int) (x.fmod (y.natAbs : Int)) 0 1 = G at *
    have hdv : (y.natAbs : Int).fdiv G.1 ≠ 0 := by
      intro h0
      have h1 := fmod_natAbs_lt (y.natAbs : Int) G.1 (by omega)
      have h2 := step_fmod (y.natAbs : Int) G.1
      rw [h0] at h2
      omega
    have k1 := fdiv_le (y.natAbs : Int) G.1 (by omega)
    have k2 := fmod_natAbs_lt G.2 ((y.natAbs : Int).fdiv G.1) hdv
    simp only [Int.natAbs_natCast] at k1
    have b1 := limbs_small_int h2 hly
    have b2 : (limbs (G.2.fmod ((y.natAbs : Int).fdiv G.1)).natAbs).length ≤ 1000 := limbs_small_int (Nat.le_trans (Nat.le_of_lt k2) k1) hly
    refine ⟨b1, b2, ?_⟩
    have b3 : (limbs (x * G.2.fmod ((y.natAbs : Int).fdiv G.1)).natAbs).length ≤ 2000 := limbs_mul' (j := 1000) (k := 1000) hlx b2
    have b4 : (limbs (G.1 - x * G.2.fmod ((y.natAbs : Int).fdiv G.1)).natAbs).length ≤ 2001 := limbs_sub' (Nat.le_trans b1 (by decide)) b3
    exact Nat.le_trans (limbs_length_mono (fdiv_le _ y hy)) b4

/-- What Bezout returns. -/
def bezV (r : Int × Int × Int) : Value := .tuple #[.string (str (Lib.itoa r.1)), .string (str (Lib.itoa r.2.1)), .string (str (Lib.itoa r.2.2)), .int .i64 0]

set_option maxHeartbeats 2000000 in
theorem bezoutZ (s t : ByteArray) (x y : Int) (w : World) (hs : Str s x) (ht : Str t y) (htab : Lib.TabIs Tryz.prog w "internal/strconv.uint64pow10" .u64 Lib.pow10Tab) :
    Calls Tryz.prog 23 #[.string s, .string t] w fun e w' => e = .returned (bezV (bezOf x y)) ∧ Below w.heap.size w w' := by
  have hsz := hs.size; have htz := ht.size; have hsl := hs.limbs; have htl := ht.limbs
  have CB := fun W => checkBoth_any s t W (by omega) (by omega)
  have hb : errBoth (bytes s) (bytes t) = 0 := by unfold errBoth; rw [if_pos hs.err, ht.err]
  rw [hb] at CB
  have PS := fun W => parseZ_any s x W hs.text (by omega)
  have PT := fun W => parseZ_any t y W ht.text (by omega)
  have BZ := fun W v1 v2 h1 h2 => bezout_any x y v1 v2 W h1 h2 (by omega) (by omega)
  obtain ⟨l1, l2, l3⟩ := bezOf_limbs x y (by omega) (by omega)
  generalize bezOf x y = r at *
  obtain ⟨g, X, Y⟩ := r
  dsimp only at l1 l2 l3 BZ
  have TX : ∀ (z : Int), (limbs z.natAbs).length ≤ 2001 → ∀ (W : World) (v : Value), Below w.heap.size w W → IntAt W v z → Calls Tryz.prog 93 #[v] W fun e w' => e = .returned (.string (str (Lib.itoa z))) ∧ Below W.heap.size W w' := fun z hz W v hW hv =>
    textZ_any z v W hv (by omega) ((Lib.tabBelow_of_tabIs htab).on hW).here
  have T1 := TX g (by omega); have T2 := TX X (by omega); have T3 := TX Y (by omega)
  have HCB := Lib.hid CB; have HPS := Lib.hid PS; have HPT := Lib.hid PT; have HBZ := Lib.hid BZ; have HT1 := Lib.hid T1; have HT2 := Lib.hid T2; have HT3 := Lib.hid T3
  clear CB PS PT BZ TX T1 T2 T3 hb htab hs ht hsz htz hsl htl l1 l2 l3
  unfold bezV
  dsimp only
  generalize str (Lib.itoa g) = r1 at *
  generalize str (Lib.itoa X) = r2 at *
  generalize str (Lib.itoa Y) = r3 at *
  go_enter Tryz.func23, Tryz.ntmps23
  go_wp2_with (go_at_call 90; refine (HCB.out _).mono ?_; rintro e w1 ⟨rfl, rfl⟩; refine Hid.out ?_)
  refine Lib.hid ?_
  go_wp2_with (go_at_call_of 92 s; refine (HPS.out _).mono ?_; rintro e w4 ⟨v4, rfl, hv4, hb4⟩; refine Hid.out ?_)
  refine Lib.hid ?_
  go_wp2_with (go_at_call_of 92 t; refine (HPT.out _).mono ?_; rintro e w5 ⟨v5, rfl, hv5, hb5⟩; refine Hid.out ?_)
  refine Lib.hid ?_
  go_wp2_with (go_at_call 91; refine (HBZ.out _ _ _ (hv4.mono hb5) hv5).mono ?_; rintro e w6 ⟨v1, v2, v3, rfl, h1, h2, h3, hb6⟩; refine Hid.out ?_)
  have hB6 := Below.chain (Below.chain hb4 hb5) hb6
  obtain ⟨a1, c1, rfl, e1⟩ := h1.open
  obtain ⟨a2, c2, rfl, e2⟩ := h2.open
  obtain ⟨a3, c3, rfl, e3⟩ := h3.open
  have HB6 := Lib.hid hB6
  have F : ∀ W : World, Below w6.heap.size w6 W → IntAt W (.agg #[.bool (sgn g), .slice a1 (lenZ g) c1]) g ∧ IntAt W (.agg #[.bool (sgn X), .slice a2 (lenZ X) c2]) X ∧ IntAt W (.agg #[.bool (sgn Y), .slice a3 (lenZ Y) c3]) Y := fun W hW => ⟨h1.mono hW, h2.mono hW, h3.mono hW⟩
  have HF := Lib.hid F
  clear hb4 hb5 hb6 hv4 hv5 h1 h2 h3 e1 e2 e3 hB6 F
  refine Lib.hid ?_
  go_wp2_with fail
  have B0 : Below w6.heap.size w6 (((w6.alloc (Obj.cells #[.bool (sgn g), .slice a1 (lenZ g) c1] 95)).alloc (Obj.cells #[.bool (sgn X), .slice a2 (lenZ X) c2] 95)).alloc (Obj.cells #[.bool (sgn Y), .slice a3 (lenZ Y) c3] 95)) := by go_grown
  have C0 : (((w6.alloc (Obj.cells #[.bool (sgn g), .slice a1 (lenZ g) c1] 95)).alloc (Obj.cells #[.bool (sgn X), .slice a2 (lenZ X) c2] 95)).alloc (Obj.cells #[.bool (sgn Y), .slice a3 (lenZ Y) c3] 95)).cell? ⟨w6.heap.size, 0, none⟩ = some (.bool (sgn g)) := by go_cell
  have C1 : (((w6.alloc (Obj.cells #[.bool (sgn g), .slice a1 (lenZ g) c1] 95)).alloc (Obj.cells #[.bool (sgn X), .slice a2 (lenZ X) c2] 95)).alloc (Obj.cells #[.bool (sgn Y), .slice a3 (lenZ Y) c3] 95)).cell? ⟨w6.heap.size, 1, none⟩ = some (.slice a1 (lenZ g) c1) := by go_cell
  have C2 : (((w6.alloc (Obj.cells #[.bool (sgn g), .slice a1 (lenZ g) c1] 95)).alloc (Obj.cells #[.bool (sgn X), .slice a2 (lenZ X) c2] 95)).alloc (Obj.cells #[.bool (sgn Y), .slice a3 (lenZ Y) c3] 95)).cell? ⟨w6.heap.size + 1, 0, none⟩ = some (.bool (sgn X)) := by go_cell
  have C3 : (((w6.alloc (Obj.cells #[.bool (sgn g), .slice a1 (lenZ g) c1] 95)).alloc (Obj.cells #[.bool (sgn X), .slice a2 (lenZ X) c2] 95)).alloc (Obj.cells #[.bool (sgn Y), .slice a3 (lenZ Y) c3] 95)).cell? ⟨w6.heap.size + 1, 1, none⟩ = some (.slice a2 (lenZ X) c2) := by go_cell
  have C4 : (((w6.alloc (Obj.cells #[.bool (sgn g), .slice a1 (lenZ g) c1] 95)).alloc (Obj.cells #[.bool (sgn X), .slice a2 (lenZ X) c2] 95)).alloc (Obj.cells #[.bool (sgn Y), .slice a3 (lenZ Y) c3] 95)).cell? ⟨w6.heap.size + 1 + 1, 0, none⟩ = some (.bool (sgn Y)) := by go_cell
  have C5 : (((w6.alloc (Obj.cells #[.bool (sgn g), .slice a1 (lenZ g) c1] 95)).alloc (Obj.cells #[.bool (sgn X), .slice a2 (lenZ X) c2] 95)).alloc (Obj.cells #[.bool (sgn Y), .slice a3 (lenZ Y) c3] 95)).cell? ⟨w6.heap.size + 1 + 1, 1, none⟩ = some (.slice a3 (lenZ Y) c3) := by go_cell
  have S0 : w6.heap.size + 1 + 1 < (((w6.alloc (Obj.cells #[.bool (sgn g), .slice a1 (lenZ g) c1] 95)).alloc (Obj.cells #[.bool (sgn X), .slice a2 (lenZ X) c2] 95)).alloc (Obj.cells #[.bool (sgn Y), .slice a3 (lenZ Y) c3] 95)).heap.size := by simp
  generalize (((w6.alloc (Obj.cells #[.bool (sgn g), .slice a1 (lenZ g) c1] 95)).alloc (Obj.cells #[.bool (sgn X), .slice a2 (lenZ X) c2] 95)).alloc (Obj.cells #[.bool (sgn Y), .slice a3 (lenZ Y) c3] 95)) = W7 at *
  generalize hp : w6.heap.size = p at *
  have K : ∀ W : World, Below W7.heap.size W7 W → W.cell? ⟨p, 0, none⟩ = some (.bool (sgn g)) ∧ W.cell? ⟨p, 1, none⟩ = some (.slice a1 (lenZ g) c1) ∧ W.cell? ⟨p + 1, 0, none⟩ = some (.bool (sgn X)) ∧ W.cell? ⟨p + 1, 1, none⟩ = some (.slice a2 (lenZ X) c2) ∧ W.cell? ⟨p + 1 + 1, 0, none⟩ = some (.bool (sgn Y)) ∧ W.cell? ⟨p + 1 + 1, 1, none⟩ = some (.slice a3 (lenZ Y) c3) := fun W hW =>
    ⟨(hW.cell (p := ⟨p, 0, none⟩) (by simp; omega)).trans C0, (hW.cell (p := ⟨p, 1, none⟩) (by simp; omega)).trans C1, (hW.cell (p := ⟨p + 1, 0, none⟩) (by simp; omega)).trans C2, (hW.cell (p := ⟨p + 1, 1, none⟩) (by simp; omega)).trans C3, (hW.cell (p := ⟨p + 1 + 1, 0, none⟩) (by simp; omega)).trans C4, (hW.cell (p := ⟨p + 1 + 1, 1, none⟩) (by simp; omega)).trans C5⟩
  have HW : ∀ W : World, Below W7.heap.size W7 W → Below w6.heap.size w6 W := fun W hW => Below.chain (hp ▸ B0) hW
  have F2 := fun (W : World) (hW : Below W7.heap.size W7 W) => HF.out W (by rw [← hp]; exact HW W hW)
  have KK := Lib.hid K; have HHW := Lib.hid HW; have KF := Lib.hid F2
  have hD : Below W7.heap.size W7 W7.drew := (Below.refl _ _).drew
  clear K HW F2 HF C0 C1 C2 C3 C4 C5 S0 B0 hp
  go_region_held3 (fun w' => w'.cell? ⟨p, 0, none⟩ = some (.bool (sgn g)) ∧ w'.cell? ⟨p, 1, none⟩ = some (.slice a1 (lenZ g) c1) ∧ w'.cell? ⟨p + 1, 0, none⟩ = some (.bool (sgn X)) ∧ w'.cell? ⟨p + 1, 1, none⟩ = some (.slice a2 (lenZ X) c2) ∧ w'.cell? ⟨p + 1 + 1, 0, none⟩ = some (.bool (sgn Y)) ∧ w'.cell? ⟨p + 1 + 1, 1, none⟩ = some (.slice a3 (lenZ Y) c3)) (first | (with_reducible exact KK.out _ hD) | (with_reducible exact KK.out _ hV1) | (with_reducible exact KK.out _ hV2) | (with_reducible exact KK.out _ hV3) | fail) (first
    | (go_at_call_of 93 a1; refine (HT1.out _ _ (Below.chain HB6.out (HHW.out _ hD)) (KF.out _ hD).1).mono ?_; rintro e w8 ⟨rfl, hb8⟩; have hV1 := Below.chain hD hb8)
    | (go_at_call_of 93 a2; refine (HT2.out _ _ (Below.chain HB6.out (HHW.out _ hV1)) (KF.out _ hV1).2.1).mono ?_; rintro e w9 ⟨rfl, hb9⟩; have hV2 := Below.chain hV1 hb9)
    | (go_at_call_of 93 a3; refine (HT3.out _ _ (Below.chain HB6.out (HHW.out _ hV2)) (KF.out _ hV2).2.2).mono ?_; rintro e w10 ⟨rfl, hb10⟩; have hV3 := Below.chain hV2 hb10))
  all_goals
    have hbF := Below.chain HB6.out (HHW.out _ hV3)
    go_wp2
    refine bodyPost_ret (by simp [results, Tryz.results23, go_sem]; rfl) rfl ?_
    exact ⟨rfl, hbF⟩
end Go.Proofs.YtbadibbdoljjhaaGreatDoor

/-
  The laws' examples of the chapter.
-/
namespace Go.Proofs.YtbadibbdoljjhaaGreatDoor
open Go Go.Proofs Go.RowKit

theorem str_lit {s : ByteArray} {z : Int} (h1 : canonB (bytes s) = true) (h2 : valZ (bytes s) = z) (h3 : (digL (bytes s)).length ≤ 4096) : Str s z := by
  have e : bytes s = Lib.itoa z := by rw [← h2]; exact itoa_valZ h1
  refine ⟨e, ?_⟩
  rw [e, digL_itoa] at h3
  exact h3
theorem lit_str {s : ByteArray} {z : Int} (h : Str s z) : str (Lib.itoa z) = s := by rw [← h.text, str_bytes]
theorem resV_lit {s : ByteArray} {r : Int} (h : Str s r) : resV r = .tuple #[.string s, .int .i64 0] := by
  rw [resV_fits (by have := h.len; omega), lit_str h]

theorem resV_lit' {s : ByteArray} {r z : Int} (h : Str s z) (e : r = z) : resV r = .tuple #[.string s, .int .i64 0] := by rw [e]; exact resV_lit h

theorem sM7 : Str ⟨#[45, 55]⟩ (-7) := str_lit (by decide) (by decide) (by decide)
theorem s7 : Str ⟨#[55]⟩ 7 := str_lit (by decide) (by decide) (by decide)
theorem s2 : Str ⟨#[50]⟩ 2 := str_lit (by decide) (by decide) (by decide)
theorem sM2 : Str ⟨#[45, 50]⟩ (-2) := str_lit (by decide) (by decide) (by decide)
theorem s1 : Str ⟨#[49]⟩ 1 := str_lit (by decide) (by decide) (by decide)
theorem s6 : Str ⟨#[54]⟩ 6 := str_lit (by decide) (by decide) (by decide)
theorem s12 : Str ⟨#[49, 50]⟩ 12 := str_lit (by decide) (by decide) (by decide)
theorem sM18 : Str ⟨#[45, 49, 56]⟩ (-18) := str_lit (by decide) (by decide) (by decide)
theorem s36 : Str ⟨#[51, 54]⟩ 36 := str_lit (by decide) (by decide) (by decide)
theorem sM4 : Str ⟨#[45, 52]⟩ (-4) := str_lit (by decide) (by decide) (by decide)
theorem sM1 : Str ⟨#[45, 49]⟩ (-1) := str_lit (by decide) (by decide) (by decide)
theorem sNines : Str ⟨#[57, 57, 57, 57, 57, 57, 57, 57, 57, 57, 57, 57, 57, 57, 57, 57, 57, 57, 57, 57]⟩ 99999999999999999999 := str_lit (by decide) (by decide) (by decide)
theorem sHundred : Str ⟨#[49, 48, 48, 48, 48, 48, 48, 48, 48, 48, 48, 48, 48, 48, 48, 48, 48, 48, 48, 48, 48]⟩ 100000000000000000000 := str_lit (by decide) (by decide) (by decide)
theorem sOnes : Str ⟨#[49, 49, 49, 49, 49, 49, 49, 49, 49]⟩ 111111111 := str_lit (by decide) (by decide) (by decide)
theorem sSquare : Str ⟨#[49, 50, 51, 52, 53, 54, 55, 56, 57, 56, 55, 54, 53, 52, 51, 50, 49]⟩ 12345678987654321 := str_lit (by decide) (by decide) (by decide)
theorem sPower : Str ⟨#[49, 56, 52, 52, 54, 55, 52, 52, 48, 55, 51, 55, 48, 57, 53, 53, 49, 54, 49, 54]⟩ 18446744073709551616 := str_lit (by decide) (by decide) (by decide)

theorem bez_example : bezOf 12 (-18) = (6, 2, 1) := by
  have h : bezRun 18 12 0 1 = (6, -1) := by
    rw [bezRun_step _ _ _ _ (by decide), show (18 : Int) - Int.fdiv 18 12 * 12 = 6 by decide, show (0 : Int) - Int.fdiv 18 12 * 1 = -1 by decide,
      bezRun_step _ _ _ _ (by decide), show (12 : Int) - Int.fdiv 12 6 * 6 = 0 by decide, bezRun_zero]
  rw [bezOf_pos 12 (-18) (by decide)]
  rw [show (((-18 : Int).natAbs : Nat) : Int) = 18 by decide, show Int.fmod 12 18 = 12 by decide, h]
  decide

set_option maxHeartbeats 4000000 in
theorem awake_any (w : World) (htab : Lib.TabIs Tryz.prog w "internal/strconv.uint64pow10" .u64 Lib.pow10Tab) :
    Calls Tryz.prog 18 #[] w fun e w' => e = .returned (.bool true) ∧ Below w.heap.size w w' := by
  have hT := Lib.tabBelow_of_tabIs htab
  have C1 : ∀ W : World, Below w.heap.size w W → Calls Tryz.prog 65 #[.string ⟨#[45, 55]⟩, .string ⟨#[50]⟩] W fun e w' => e = .returned (.tuple #[.string ⟨#[45, 52]⟩, .int .i64 0]) ∧ Below W.heap.size W w' := fun W hW => by
    have := quoZ _ _ _ _ W sM7 s2 (by decide) (hT.on hW).here
    rwa [resV_lit' (s := ⟨#[45, 52]⟩) (r := (-7 : Int).fdiv 2) sM4 (by decide)] at this
  have C2 : ∀ W : World, Below w.heap.size w W → Calls Tryz.prog 66 #[.string ⟨#[45, 55]⟩, .string ⟨#[50]⟩] W fun e w' => e = .returned (.tuple #[.string ⟨#[49]⟩, .int .i64 0]) ∧ Below W.heap.size W w' := fun W hW => by
    have := remZ _ _ _ _ W sM7 s2 (by decide) (hT.on hW).here
    rwa [resV_lit' (s := ⟨#[49]⟩) (r := (-7 : Int).fmod 2) s1 (by decide)] at this
  have C3 : ∀ W : World, Below w.heap.size w W → Calls Tryz.prog 65 #[.string ⟨#[55]⟩, .string ⟨#[45, 50]⟩] W fun e w' => e = .returned (.tuple #[.string ⟨#[45, 52]⟩, .int .i64 0]) ∧ Below W.heap.size W w' := fun W hW => by
    have := quoZ _ _ _ _ W s7 sM2 (by decide) (hT.on hW).here
    rwa [resV_lit' (s := ⟨#[45, 52]⟩) (r := (7 : Int).fdiv (-2)) sM4 (by decide)] at this
  have C4 : ∀ W : World, Below w.heap.size w W → Calls Tryz.prog 66 #[.string ⟨#[55]⟩, .string ⟨#[45, 50]⟩] W fun e w' => e = .returned (.tuple #[.string ⟨#[45, 49]⟩, .int .i64 0]) ∧ Below W.heap.size W w' := fun W hW => by
    have := remZ _ _ _ _ W s7 sM2 (by decide) (hT.on hW).here
    rwa [resV_lit' (s := ⟨#[45, 49]⟩) (r := (7 : Int).fmod (-2)) sM1 (by decide)] at this
  have C5 : ∀ W : World, Below w.heap.size w W → Calls Tryz.prog 78 #[.string ⟨#[57, 57, 57, 57, 57, 57, 57, 57, 57, 57, 57, 57, 57, 57, 57, 57, 57, 57, 57, 57]⟩, .string ⟨#[49]⟩] W fun e w' => e = .returned (.tuple #[.string ⟨#[49, 48, 48, 48, 48, 48, 48, 48, 48, 48, 48, 48, 48, 48, 48, 48, 48, 48, 48, 48, 48]⟩, .int .i64 0]) ∧ Below W.heap.size W w' := fun W hW => by
    have := addZ _ _ _ _ W sNines s1 (hT.on hW).here
    rwa [resV_lit' (s := ⟨#[49, 48, 48, 48, 48, 48, 48, 48, 48, 48, 48, 48, 48, 48, 48, 48, 48, 48, 48, 48, 48]⟩) (r := 99999999999999999999 + 1) sHundred (by decide)] at this
  have C6 : ∀ W : World, Below w.heap.size w W → Calls Tryz.prog 57 #[.string ⟨#[49, 49, 49, 49, 49, 49, 49, 49, 49]⟩, .string ⟨#[49, 49, 49, 49, 49, 49, 49, 49, 49]⟩] W fun e w' => e = .returned (.tuple #[.string ⟨#[49, 50, 51, 52, 53, 54, 55, 56, 57, 56, 55, 54, 53, 52, 51, 50, 49]⟩, .int .i64 0]) ∧ Below W.heap.size W w' := fun W hW => by
    have := mulZ _ _ _ _ W sOnes sOnes (hT.on hW).here
    rwa [resV_lit' (s := ⟨#[49, 50, 51, 52, 53, 54, 55, 56, 57, 56, 55, 54, 53, 52, 51, 50, 49]⟩) (r := 111111111 * 111111111) sSquare (by decide)] at this
  have C7 : ∀ W : World, Below w.heap.size w W → Calls Tryz.prog 23 #[.string ⟨#[49, 50]⟩, .string ⟨#[45, 49, 56]⟩] W fun e w' => e = .returned (.tuple #[.string ⟨#[54]⟩, .string ⟨#[50]⟩, .string ⟨#[49]⟩, .int .i64 0]) ∧ Below W.heap.size W w' := fun W hW => by
    have := bezoutZ _ _ _ _ W s12 sM18 (hT.on hW).here
    rw [bez_example] at this
    unfold bezV at this
    dsimp only at this
    rwa [lit_str s6, lit_str s2, lit_str s1] at this
  have C8 : ∀ W : World, Below w.heap.size w W → Calls Tryz.prog 21 #[.string ⟨#[49, 50]⟩, .string ⟨#[45, 49, 56]⟩] W fun e w' => e = .returned (.tuple #[.string ⟨#[51, 54]⟩, .int .i64 0]) ∧ Below W.heap.size W w' := fun W hW => by
    have := lcm_short _ _ _ _ W s12 sM18 (by decide) (by decide) (by decide) (hT.on hW).here
    rwa [show (((12 : Int).fdiv (Int.gcd 12 (-18) : Nat) * (-18)).natAbs : Int) = 36 by decide +kernel, lit_str s36] at this
  have C9 : ∀ W : World, Below w.heap.size w W → Calls Tryz.prog 79 #[.string ⟨#[50]⟩, .int .i64 64] W fun e w' => e = .returned (.tuple #[.string ⟨#[49, 56, 52, 52, 54, 55, 52, 52, 48, 55, 51, 55, 48, 57, 53, 53, 49, 54, 49, 54]⟩, .int .i64 0]) ∧ Below W.heap.size W w' := fun W hW => by
    have := powZ _ 2 64 W s2 (by decide) (hT.on hW).here
    rwa [resV_lit' (s := ⟨#[49, 56, 52, 52, 54, 55, 52, 52, 48, 55, 51, 55, 48, 57, 53, 53, 49, 54, 49, 54]⟩) (r := (2 : Int) ^ 64) sPower (by decide)] at this
  have C10 : ∀ W : World, Calls Tryz.prog 80 #[.string ⟨#[45, 48]⟩] W fun e w' => e = .returned (.int .i64 3) ∧ w' = W := fun W => check_any ⟨#[45, 48]⟩ W (by decide)
  have C11 : ∀ W : World, Calls Tryz.prog 80 #[.string ⟨#[48, 48, 55]⟩] W fun e w' => e = .returned (.int .i64 3) ∧ w' = W := fun W => check_any ⟨#[48, 48, 55]⟩ W (by decide)
  have C12 : ∀ W : World, Calls Tryz.prog 80 #[.string ⟨#[45, 49, 50]⟩] W fun e w' => e = .returned (.int .i64 0) ∧ w' = W := fun W => check_any ⟨#[45, 49, 50]⟩ W (by decide)
  have K1 := Lib.hid C1; have K2 := Lib.hid C2; have K3 := Lib.hid C3; have K4 := Lib.hid C4; have K5 := Lib.hid C5; have K6 := Lib.hid C6; have K7 := Lib.hid C7; have K8 := Lib.hid C8; have K9 := Lib.hid C9; have K10 := Lib.hid C10; have K11 := Lib.hid C11; have K12 := Lib.hid C12
  clear C1 C2 C3 C4 C5 C6 C7 C8 C9 C10 C11 C12 htab hT
  go_enter Tryz.func18, Tryz.ntmps18
  go_wp2_with (go_at_call 65; refine (K1.out _ (Below.refl _ _)).mono ?_; rintro e w1 ⟨rfl, hb1⟩; refine Hid.out ?_)
  refine Lib.hid ?_
  go_wp2_with (go_at_call 66; refine (K2.out _ hb1).mono ?_; rintro e w2 ⟨rfl, hb2⟩; refine Hid.out ?_)
  have hb2' := Below.chain hb1 hb2; clear hb1 hb2
  refine Lib.hid ?_
  go_wp2_with (go_at_call 65; refine (K3.out _ hb2').mono ?_; rintro e w3 ⟨rfl, hb3⟩; refine Hid.out ?_)
  have hb3' := Below.chain hb2' hb3; clear hb2' hb3
  refine Lib.hid ?_
  go_wp2_with (go_at_call 66; refine (K4.out _ hb3').mono ?_; rintro e w4 ⟨rfl, hb4⟩; refine Hid.out ?_)
  have hb4' := Below.chain hb3' hb4; clear hb3' hb4
  refine Lib.hid ?_
  go_wp2_with (go_at_call 78; refine (K5.out _ hb4').mono ?_; rintro e w5 ⟨rfl, hb5⟩; refine Hid.out ?_)
  have hb5' := Below.chain hb4' hb5; clear hb4' hb5
  refine Lib.hid ?_
  go_wp2_with (go_at_call 57; refine (K6.out _ hb5').mono ?_; rintro e w6 ⟨rfl, hb6⟩; refine Hid.out ?_)
  have hb6' := Below.chain hb5' hb6; clear hb5' hb6
  refine Lib.hid ?_
  go_wp2_with (go_at_call 23; refine (K7.out _ hb6').mono ?_; rintro e w7 ⟨rfl, hb7⟩; refine Hid.out ?_)
  have hb7' := Below.chain hb6' hb7; clear hb6' hb7
  refine Lib.hid ?_
  go_wp2_with (go_at_call 21; refine (K8.out _ hb7').mono ?_; rintro e w8 ⟨rfl, hb8⟩; refine Hid.out ?_)
  have hb8' := Below.chain hb7' hb8; clear hb7' hb8
  refine Lib.hid ?_
  go_wp2_with (go_at_call 79; refine (K9.out _ hb8').mono ?_; rintro e w9 ⟨rfl, hb9⟩; refine Hid.out ?_)
  have hb9' := Below.chain hb8' hb9; clear hb8' hb9
  refine Lib.hid ?_
  go_wp2_with (go_at_call 80; refine (K10.out _).mono ?_; rintro e w10 ⟨rfl, rfl⟩; refine Hid.out ?_)
  refine Lib.hid ?_
  go_wp2_with (go_at_call 80; refine (K11.out _).mono ?_; rintro e w11 ⟨rfl, rfl⟩; refine Hid.out ?_)
  refine Lib.hid ?_
  go_wp2_with (go_at_call 80; refine (K12.out _).mono ?_; rintro e w12 ⟨rfl, rfl⟩; refine Hid.out ?_)
  refine Lib.hid ?_
  go_wp2
  refine bodyPost_ret (v := .bool true) (by simp [results, Tryz.results18, go_sem]) rfl ?_
  exact ⟨rfl, hb9'⟩
end Go.Proofs.YtbadibbdoljjhaaGreatDoor

/-
  What the rows' condition on the listed variables gives, and a world that meets it.
-/
namespace Go.Proofs.YtbadibbdoljjhaaGreatDoor
open Go Go.Proofs Go.RowKit

theorem own : ownKnob Tryz.prog.godebug = none := by kernel_rfl
theorem gPow : Tryz.prog.globalNamed "internal/strconv.uint64pow10" = some 0 := by kernel_rfl
theorem gPowType : (Tryz.prog.globals[0]?).map (·.type) = some 200 := by kernel_rfl

/-- The list of the rows. -/
def laidAll : List (String × DataW Unit) := [("math/bits.deBruijn32tab", Rows.laid_math_bits_deBruijn32tab), ("math/bits.deBruijn64tab", Rows.laid_math_bits_deBruijn64tab), ("internal/strconv.uint64pow10", Rows.laid_internal_strconv_uint64pow10), ("strconv.ErrRange", Rows.laid_strconv_ErrRange), ("strconv.ErrSyntax", Rows.laid_strconv_ErrSyntax)]

set_option maxRecDepth 100000 in
theorem door_met (os : Os) (args : Array Value) : laidMetH Tryz.prog laidAll ((World.doorLaid Tryz.prog 62 os).forCall (fun _ _ => 0) ⟨#[], args, []⟩).memory :=
  laidMetH_of_parts3 (fuel := 8) (laidMet_of_run' 8 (by kernel_rfl) (by kernel_rfl)) (by kernel_rfl) (by kernel_rfl)

set_option maxRecDepth 100000 in
theorem tab_of_laid {W : World} (h : laidMetH Tryz.prog laidAll W) : Lib.TabIs Tryz.prog W "internal/strconv.uint64pow10" .u64 Lib.pow10Tab := by
  rw [MakeChecks.laidMetH_plain _ _ _ (by kernel_rfl)] at h
  have h2 : laidMet Tryz.prog [("internal/strconv.uint64pow10", Rows.laid_internal_strconv_uint64pow10), ("strconv.ErrRange", Rows.laid_strconv_ErrRange), ("strconv.ErrSyntax", Rows.laid_strconv_ErrSyntax)] W := h.tail.tail
  exact Lib.tabIs_of_head gPow gPowType Tryz.underlying200 Tryz.underlying124 (by kernel_rfl) (by kernel_rfl) h2

theorem len_le {s : ByteArray} (h : s.size ≤ maxLen) : s.size ≤ 9223372036854775807 := by unfold maxLen at h; omega
theorem i32_bounds {a : Int} (h : (Lit.int .i32 a).wf = true) : -2147483648 ≤ a ∧ a ≤ 2147483647 := (Lit.wf_int_iff .i32 a).1 h
theorem u8_bounds {a : Int} (h : (Lit.int .u8 a).wf = true) : 0 ≤ a ∧ a ≤ 255 := (Lit.wf_int_iff .u8 a).1 h
theorem i64_bounds {a : Int} (h : (Lit.int .i64 a).wf = true) : -9223372036854775808 ≤ a ∧ a ≤ 9223372036854775807 := (Lit.wf_int_iff .i64 a).1 h
end Go.Proofs.YtbadibbdoljjhaaGreatDoor

/-
  Plain mathematics of Lehmer's steps: no program, no model.
-/
namespace Go.Proofs.YtbadibbdoljjhaaGreatDoor

theorem mul_up {a u p : Int} (ha : 0 ≤ a) (h0 : 0 ≤ u) (h1 : u ≤ p) : 0 ≤ a * u ∧ a * u ≤ a * p := ⟨Int.mul_nonneg ha h0, Int.mul_le_mul_of_nonneg_left h1 ha⟩
theorem mul_dn {a u p : Int} (ha : a ≤ 0) (h0 : 0 ≤ u) (h1 : u ≤ p) : a * p ≤ a * u ∧ a * u ≤ 0 := by
  have h := mul_up (a := -a) (by omega) h0 h1
  simp only [Int.neg_mul] at h
  omega
/-- The true quotient is the one of the bounds. -/
theorem true_quo {X Y U V U' V' q P : Int} (hP : 0 < P) (hq : 0 ≤ q) (h1 : U * P ≤ X) (h2 : Y ≤ V * P) (h3 : X ≤ U' * P) (h4 : V' * P ≤ Y) (h5 : q * V ≤ U) (h6 : U' < (q + 1) * V') :
    0 ≤ X - q * Y ∧ X - q * Y < Y := by
  have a1 : q * Y ≤ q * (V * P) := Int.mul_le_mul_of_nonneg_left h2 hq
  have a2 : q * V * P ≤ U * P := Int.mul_le_mul_of_nonneg_right h5 (by omega)
  have a3 : q * (V * P) = q * V * P := (Int.mul_assoc ..).symm
  have b1 : U' * P < (q + 1) * V' * P := Int.mul_lt_mul_of_pos_right h6 hP
  have b2 : (q + 1) * (V' * P) ≤ (q + 1) * Y := Int.mul_le_mul_of_nonneg_left h4 (by omega)
  have b3 : (q + 1) * (V' * P) = (q + 1) * V' * P := (Int.mul_assoc ..).symm
  have b4 : (q + 1) * Y = q * Y + Y := by rw [Int.add_mul, Int.one_mul]
  omega

/-- Two Int squares below a square. -/
theorem lt_of_sq {d : Int} (h0 : 0 ≤ d) (h : d * d < 1000000000000000000) : d < 1000000000 := by
  rcases Int.lt_or_le d 1000000000 with h1 | h1
  · exact h1
  · have h2 : 1000000000 * 1000000000 ≤ d * d := Int.mul_le_mul h1 h1 (by decide) h0
    omega

/-- What holds of the true numbers behind the steps. -/
def TrueStep (x0 y0 a b c d : Int) (first : Bool) : Prop :=
  ∀ P X0 Y0 : Int, 0 < P → 0 ≤ X0 → X0 < P → 0 ≤ Y0 → Y0 < P → y0 * P + Y0 ≤ x0 * P + X0 →
    (0 ≤ c * (x0 * P + X0) + d * (y0 * P + Y0)) ∧ (c * (x0 * P + X0) + d * (y0 * P + Y0) ≤ a * (x0 * P + X0) + b * (y0 * P + Y0)) ∧
    (first = false → c * (x0 * P + X0) + d * (y0 * P + Y0) < a * (x0 * P + X0) + b * (y0 * P + Y0) ∧ a * (x0 * P + X0) + b * (y0 * P + Y0) ≤ y0 * P + Y0) ∧
    (∀ g : Int, (g ∣ a * (x0 * P + X0) + b * (y0 * P + Y0) ∧ g ∣ c * (x0 * P + X0) + d * (y0 * P + Y0)) ↔ (g ∣ x0 * P + X0 ∧ g ∣ y0 * P + Y0))

structure StepInv (x0 y0 a b c d x y : Int) (first : Bool) : Prop where
  ex : x = a * x0 + b * y0
  ey : y = c * x0 + d * y0
  sg : (0 ≤ a ∧ b ≤ 0 ∧ c ≤ 0 ∧ 0 ≤ d ∧ a * d - b * c = 1) ∨ (a ≤ 0 ∧ 0 ≤ b ∧ 0 ≤ c ∧ d ≤ 0 ∧ a * d - b * c = -1)
  yc : 0 ≤ y + c
  yd : 0 ≤ y + d
  xa : 0 ≤ x + a
  xb : 0 ≤ x + b
  ord : y ≤ x
  low : first = false → y + c < x + a ∧ y + d < x + b
  one : first = true → a = 1 ∧ b = 0 ∧ c = 0 ∧ d = 1
  ba : -1000000000 < a ∧ a < 1000000000
  bb : -1000000000 < b ∧ b < 1000000000
  bc : -1000000000 < c ∧ c < 1000000000
  bd : -1000000000 < d ∧ d < 1000000000
  xlt : x < 1000000000000000000
  tru : TrueStep x0 y0 a b c d first

theorem StepInv.start {x0 y0 : Int} (h0 : 0 ≤ y0) (h1 : y0 ≤ x0) (h2 : x0 < 1000000000000000000) : StepInv x0 y0 1 0 0 1 x0 y0 true := by
  refine ⟨by omega, by omega, .inl ⟨by decide, by decide, by decide, by decide, by decide⟩, by omega, by omega, by omega, by omega, h1, (fun h => by cases h), fun _ => ⟨rfl, rfl, rfl, rfl⟩, by decide, by decide, by decide, by decide, h2, ?_⟩
  intro P X0 Y0 hP hx1 hx2 hy1 hy2 hle
  have hy : 0 ≤ y0 * P := Int.mul_nonneg h0 (by omega)
  generalize y0 * P = u at *
  generalize x0 * P = v at *
  refine ⟨by omega, by omega, (fun h => by cases h), fun g => ?_⟩
  rw [show (1 : Int) * (v + X0) + 0 * (u + Y0) = v + X0 by omega, show (0 : Int) * (v + X0) + 1 * (u + Y0) = u + Y0 by omega]

theorem StepInv.y0 {x0 y0 a b c d x y : Int} {f : Bool} (h : StepInv x0 y0 a b c d x y f) : 0 ≤ y := by
  have h1 := h.yc; have h2 := h.yd
  rcases h.sg with ⟨_, _, hc, _, _⟩ | ⟨_, _, _, hd, _⟩ <;> omega

/-- The bounds of a later step's last multipliers. -/
theorem late_bounds {x0 y0 a b c d x y : Int} (hx : x = a * x0 + b * y0) (hy : y = c * x0 + d * y0) (hX : x0 < 1000000000000000000) (hY : y0 < 1000000000000000000)
    (sg : (0 ≤ a ∧ b ≤ 0 ∧ c ≤ 0 ∧ 0 ≤ d ∧ a * d - b * c = 1) ∨ (a ≤ 0 ∧ 0 ≤ b ∧ 0 ≤ c ∧ d ≤ 0 ∧ a * d - b * c = -1))
    (yc : 0 ≤ y + c) (yd : 0 ≤ y + d) (l1 : y + c < x + a) (l2 : y + d < x + b) :
    (-1000000000 < c ∧ c < 1000000000) ∧ (-1000000000 < d ∧ d < 1000000000) ∧ y < x := by
  rcases sg with ⟨s1, s2, s3, s4, s5⟩ | ⟨s1, s2, s3, s4, s5⟩
  · have e1 : d * x - b * y = x0 := by
      have : d * x - b * y = (a * d - b * c) * x0 := by rw [hx, hy]; grind
      rw [this, s5, Int.one_mul]
    have e2 : a * y - c * x = y0 := by
      have : a * y - c * x = (a * d - b * c) * y0 := by rw [hx, hy]; grind
      rw [this, s5, Int.one_mul]
    have y0' : 0 ≤ y := by omega
    have k1 : b * y ≤ 0 := (mul_dn s2 y0' (Int.le_refl y)).2
    have k2 : 0 ≤ a * y := Int.mul_nonneg s1 y0'
    have m1 : d * d ≤ d * x := Int.mul_le_mul_of_nonneg_left (by omega) s4
    have m2 : (-c) * (-c) ≤ (-c) * x := Int.mul_le_mul_of_nonneg_left (by omega) (by omega)
    have n1 : (-c) * x = -(c * x) := Int.neg_mul ..
    have d1 := lt_of_sq s4 (by omega)
    have c1 := lt_of_sq (d := -c) (by omega) (by omega)
    omega
  · have e1 : d * x - b * y = -x0 := by
      have : d * x - b * y = (a * d - b * c) * x0 := by rw [hx, hy]; grind
      rw [this, s5]; omega
    have e2 : a * y - c * x = -y0 := by
      have : a * y - c * x = (a * d - b * c) * y0 := by rw [hx, hy]; grind
      rw [this, s5]; omega
    have y0' : 0 ≤ y := by omega
    have k1 : 0 ≤ b * y := Int.mul_nonneg s2 y0'
    have k2 : a * y ≤ 0 := (mul_dn s1 y0' (Int.le_refl y)).2
    have m1 : (-d) * (-d) ≤ (-d) * x := Int.mul_le_mul_of_nonneg_left (by omega) (by omega)
    have m2 : c * c ≤ c * x := Int.mul_le_mul_of_nonneg_left (by omega) s3
    have n1 : (-d) * x = -(d * x) := Int.neg_mul ..
    have d1 := lt_of_sq (d := -d) (by omega) (by omega)
    have c1 := lt_of_sq s3 (by omega)
    omega

/-- One step. -/
theorem StepInv.step {x0 y0 a b c d x y q : Int} {f : Bool} (h : StepInv x0 y0 a b c d x y f) (hX : x0 < 1000000000000000000) (hY : y0 < 1000000000000000000)
    (hc : y + c ≠ 0) (hd : y + d ≠ 0) (hq1 : q = (x + a) / (y + c)) (hq2 : q = (x + b) / (y + d)) :
    StepInv x0 y0 c d (a - q * c) (b - q * d) y (x - q * y) false ∧ x - q * y < y ∧ 0 ≤ q * y ∧ q * y ≤ x ∧ (-2000000000 ≤ q * c ∧ q * c ≤ 2000000000) ∧ (-2000000000 ≤ q * d ∧ q * d ≤ 2000000000) := by
  have hv : 0 < y + c := by have := h.yc; omega
  have hv' : 0 < y + d := by have := h.yd; omega
  have hy0 := h.y0
  have q0 : 0 ≤ q := by rw [hq1]; exact Int.ediv_nonneg h.xa h.yc
  have r1 := Int.mul_ediv_add_emod (x + a) (y + c)
  have r2 := Int.emod_nonneg (x + a) (by omega : y + c ≠ 0)
  have r3 := Int.emod_lt_of_pos (x + a) hv
  have s1 := Int.mul_ediv_add_emod (x + b) (y + d)
  have s2 := Int.emod_nonneg (x + b) (by omega : y + d ≠ 0)
  have s3 := Int.emod_lt_of_pos (x + b) hv'
  rw [← hq1] at r1
  rw [← hq2] at s1
  generalize (x + a) % (y + c) = r at *
  generalize (x + b) % (y + d) = r' at *
  have e1 : (y + c) * q = q * y + q * c := by grind
  have e2 : (y + d) * q = q * y + q * d := by grind
  have t1 : x - q * y + (a - q * c) = r := by omega
  have t2 : x - q * y + (b - q * d) = r' := by omega
  have hsg : (0 ≤ c ∧ d ≤ 0 ∧ a - q * c ≤ 0 ∧ 0 ≤ b - q * d ∧ c * (b - q * d) - d * (a - q * c) = 1) ∨ (c ≤ 0 ∧ 0 ≤ d ∧ 0 ≤ a - q * c ∧ b - q * d ≤ 0 ∧ c * (b - q * d) - d * (a - q * c) = -1) := by
    have dt : c * (b - q * d) - d * (a - q * c) = -(a * d - b * c) := by grind
    rcases h.sg with ⟨g1, g2, g3, g4, g5⟩ | ⟨g1, g2, g3, g4, g5⟩
    · have k1 : 0 ≤ q * d := Int.mul_nonneg q0 g4
      have k2 : q * c ≤ 0 := by have := Int.mul_nonneg q0 (show 0 ≤ -c by omega); rw [Int.mul_neg] at this; omega
      exact .inr ⟨g3, g4, by omega, by omega, by rw [dt, g5]⟩
    · have k1 : 0 ≤ q * c := Int.mul_nonneg q0 g3
      have k2 : q * d ≤ 0 := by have := Int.mul_nonneg q0 (show 0 ≤ -d by omega); rw [Int.mul_neg] at this; omega
      exact .inl ⟨g3, g4, by omega, by omega, by rw [dt, g5]; rfl⟩
  have ex' : x - q * y = (a - q * c) * x0 + (b - q * d) * y0 := by rw [h.ex, h.ey]; grind
  have lb := late_bounds h.ey ex' hX hY hsg (by omega) (by omega) (by omega) (by omega)
  have hqy : 0 ≤ q * y := Int.mul_nonneg q0 hy0
  have hnew0 : 0 ≤ x - q * y := by rcases hsg with ⟨_, _, g3, g4, _⟩ | ⟨_, _, g3, g4, _⟩ <;> omega
  have ba := h.ba; have bb := h.bb
  refine ⟨⟨h.ey, ex', hsg, by omega, by omega, h.yc, h.yd, by omega, fun _ => ⟨by omega, by omega⟩, (fun hf => by cases hf), h.bc, h.bd, lb.1, lb.2.1, by have := h.ord; have := h.xlt; omega, ?_⟩, lb.2.2, hqy, by omega, ?_, ?_⟩
  · intro P X0 Y0 hP hx1 hx2 hy1 hy2 hle
    obtain ⟨T1, T2, T3, T4⟩ := h.tru P X0 Y0 hP hx1 hx2 hy1 hy2 hle
    have EX : a * (x0 * P + X0) + b * (y0 * P + Y0) = x * P + a * X0 + b * Y0 := by rw [h.ex]; grind
    have EY : c * (x0 * P + X0) + d * (y0 * P + Y0) = y * P + c * X0 + d * Y0 := by rw [h.ey]; grind
    have EN : (a - q * c) * (x0 * P + X0) + (b - q * d) * (y0 * P + Y0) = (a * (x0 * P + X0) + b * (y0 * P + Y0)) - q * (c * (x0 * P + X0) + d * (y0 * P + Y0)) := by grind
    have ua : (x + a) * P = x * P + a * P := Int.add_mul ..
    have ub : (x + b) * P = x * P + b * P := Int.add_mul ..
    have uc : (y + c) * P = y * P + c * P := Int.add_mul ..
    have ud : (y + d) * P = y * P + d * P := Int.add_mul ..
    have lc1 : q * (y + c) ≤ x + a := by rw [Int.mul_comm]; omega
    have lc2 : q * (y + d) ≤ x + b := by rw [Int.mul_comm]; omega
    have lc3 : x + a < (q + 1) * (y + c) := by rw [Int.add_mul, Int.one_mul, Int.mul_comm q]; omega
    have lc4 : x + b < (q + 1) * (y + d) := by rw [Int.add_mul, Int.one_mul, Int.mul_comm q]; omega
    have key : 0 ≤ (x * P + a * X0 + b * Y0) - q * (y * P + c * X0 + d * Y0) ∧ (x * P + a * X0 + b * Y0) - q * (y * P + c * X0 + d * Y0) < y * P + c * X0 + d * Y0 := by
      rcases h.sg with ⟨g1, g2, g3, g4, _⟩ | ⟨g1, g2, g3, g4, _⟩
      · have A := mul_up g1 hx1 (Int.le_of_lt hx2); have B := mul_dn g2 hy1 (Int.le_of_lt hy2)
        have C := mul_dn g3 hx1 (Int.le_of_lt hx2); have D := mul_up g4 hy1 (Int.le_of_lt hy2)
        exact true_quo (U := x + b) (V := y + d) (U' := x + a) (V' := y + c) hP q0 (by omega) (by omega) (by omega) (by omega) lc2 lc3
      · have A := mul_dn g1 hx1 (Int.le_of_lt hx2); have B := mul_up g2 hy1 (Int.le_of_lt hy2)
        have C := mul_up g3 hx1 (Int.le_of_lt hx2); have D := mul_dn g4 hy1 (Int.le_of_lt hy2)
        exact true_quo (U := x + a) (V := y + c) (U' := x + b) (V' := y + d) hP q0 (by omega) (by omega) (by omega) (by omega) lc1 lc4
    rw [← EX, ← EY, ← EN] at key
    have hlast : c * (x0 * P + X0) + d * (y0 * P + Y0) ≤ y0 * P + Y0 := by
      cases f
      · have := (T3 rfl); omega
      · obtain ⟨-, -, rfl, rfl⟩ := h.one rfl
        rw [Int.zero_mul, Int.zero_add, Int.one_mul]; exact Int.le_refl _
    refine ⟨key.1, Int.le_of_lt key.2, fun _ => ⟨key.2, hlast⟩, fun g => ?_⟩
    rw [← T4 g, EN]
    generalize a * (x0 * P + X0) + b * (y0 * P + Y0) = A at *
    generalize c * (x0 * P + X0) + d * (y0 * P + Y0) = C at *
    constructor
    · rintro ⟨h1, h2⟩
      refine ⟨?_, h1⟩
      have := Int.dvd_add h2 (Int.dvd_mul_of_dvd_right (c := C) (b := q) (a := g) h1)
      rwa [Int.sub_add_cancel] at this
    · rintro ⟨h1, h2⟩
      exact ⟨h2, Int.dvd_sub h1 (Int.dvd_mul_of_dvd_right (a := g) h2)⟩
  · omega
  · omega
end Go.Proofs.YtbadibbdoljjhaaGreatDoor

/-
  natural: word, leading.
-/
namespace Go.Proofs.YtbadibbdoljjhaaGreatDoor
open Go Go.Proofs Go.RowKit

theorem limbs_drop (x k : Nat) : (limbs x).drop k = limbs (x / 1000000000 ^ k) := by
  induction k generalizing x with
  | zero => simp
  | succ k ih =>
    by_cases h : x = 0
    · subst h; rw [Nat.zero_div, limbs_zero]; rfl
    · rw [limbs_pos h, List.drop_succ_cons, ih, Nat.pow_succ, Nat.mul_comm, Nat.div_div_eq_div_mul]
theorem val_drop_step (l : List Nat) (k : Nat) (h : k < l.length) : val (l.drop k) = l.getD k 0 + 1000000000 * val (l.drop (k + 1)) := by
  rw [List.drop_eq_getElem_cons h, getD_lt _ _ h]; rfl

set_option maxHeartbeats 2000000 in
theorem word_any (x : Nat) (vx : Value) (w : World) (hx : NumAt w vx x) (hx18 : x < 1000000000000000000) :
    Calls Tryz.prog 195 #[vx] w fun e w' => e = .returned (.int .u64 x) ∧ Below w.heap.size w w' := by
  obtain ⟨ao, c, rfl, hr⟩ := hx
  have hval := val_limbs x
  have hs := limbs_small x
  have hstep := fun k h => val_drop_step (limbs x) k h
  have hle : ∀ k, val ((limbs x).drop k) < 1000000000000000000 := fun k => by
    rw [limbs_drop, val_limbs]
    exact Nat.lt_of_le_of_lt (Nat.div_le_self _ _) hx18
  have hend : val ((limbs x).drop (limbs x).length) = 0 := by rw [List.drop_of_length_le (Nat.le_refl _)]; rfl
  have h1 := hr.1; have h2 := hr.2.1
  have hget : ∀ k, k < (limbs x).length → ∃ b off, ao = some ⟨b, off, none⟩ ∧ b < w.heap.size ∧ w.cell? ⟨b, off + k, none⟩ = some (.int .u32 ((limbs x).getD k 0 : Nat)) := fun k hk => by
    have hne : limbs x ≠ [] := fun e => by rw [e] at hk; simp at hk
    obtain ⟨b, off, rfl⟩ := hr.addr hne
    exact ⟨b, off, rfl, hr.block hne, hr.get k hk⟩
  have hd9 : ∀ k, (limbs x).getD k 0 < 1000000000 := fun k => hs.getD k
  generalize limbs x = X at *
  generalize X.length = n at *
  have HST := Lib.hid hstep; have HLE := Lib.hid hle; have HEND := Lib.hid hend; have HG := Lib.hid hget; have HV := Lib.hid hval; have HD := Lib.hid hd9
  clear hstep hle hend hget hval hs hr hd9 hx18
  go_enter Tryz.func195, Tryz.ntmps195
  have A : Below w.heap.size w (w.alloc (Obj.cells #[Value.slice ao n c] 93)) := (Below.refl _ _).alloc (Nat.le_refl _) _
  have cA : (w.alloc (Obj.cells #[Value.slice ao n c] 93)).cell? ⟨w.heap.size, 0, none⟩ = some (Value.slice ao n c) := by go_cell
  go_wp2_with fail
  have HA := Lib.hid A; clear A
  generalize (w.alloc (Obj.cells #[Value.slice ao n c] 93)) = W0 at *
  go_loop [3, 4] (fun wv iv => ∃ k : Nat, k ≤ n ∧ iv = .int .i64 ((k : Int) - 1) ∧ wv = .int .u64 (val (X.drop k) : Nat)) (fun _ iv => (intOf iv + 1).toNat)
  case atStart => exact ⟨n, Nat.le_refl _, rfl, by rw [HEND.out]; rfl⟩
  case round =>
    obtain ⟨k, hk, rfl, rfl⟩ := hrel
    rcases Nat.eq_zero_or_pos k with rfl | hk0
    · have hv : val (X.drop 0) = x := by rw [List.drop_zero, HV.out]
      rw [hv]
      clear hv
      go_wp2
      go_ret
      exact ⟨rfl, HA.out⟩
    · obtain ⟨i, rfl⟩ : ∃ i, k = i + 1 := ⟨k - 1, by omega⟩
      obtain ⟨b, off, rfl, hb, hc⟩ := HG.out i (by omega)
      have hc0 := (HA.out.cell (p := ⟨b, off + i, none⟩) hb).trans hc
      have hst := HST.out i (by omega)
      have hl := HLE.out i
      have hd := HD.out i
      generalize X.getD i 0 = d at *
      generalize val (X.drop (i + 1)) = v at *
      have e1 : (((i + 1 : Nat) : Int) - 1) = (i : Int) := by omega
      rw [e1]
      have hv : v < 1000000000 := by omega
      have HS := Lib.hid hst; clear hst hc e1 hl
      go_wp2
      go_round
      case rel => exact ⟨i, by omega, rfl, by rw [HS.out]; go_num⟩
      case measure => simp [intOf]


theorem row_drop {w : World} {b o c : Nat} {l : List Nat} (h : RowAt w (some ⟨b, o, none⟩) c l) (k : Nat) (hk : k ≤ l.length) : RowAt w (some ⟨b, o + k, none⟩) (c - k) (l.drop k) := by
  obtain ⟨h1, h2, h3⟩ := h
  refine ⟨by simp; omega, by omega, ?_⟩
  rcases h3 with ⟨h3, -⟩ | ⟨b', off, he, hlt, hc⟩
  · left; rw [h3]; simp
  · injection he with he; injection he with e1 e2 _
    subst e1; subst e2
    refine .inr ⟨b, o + k, rfl, hlt, fun j hj => ?_⟩
    rw [List.length_drop] at hj
    have := hc (k + j) (by omega)
    rw [Nat.add_assoc, this]
    rw [List.getD_eq_getElem?_getD, List.getD_eq_getElem?_getD, List.getElem?_drop]
theorem row_nil {w : World} {b o c : Nat} (hc : c ≤ 9223372036854775807) : RowAt w (some ⟨b, o, none⟩) c [] := ⟨Nat.zero_le _, hc, .inl ⟨rfl, fun h => by cases h⟩⟩

set_option maxHeartbeats 2000000 in
theorem leading_any (x m : Nat) (vx : Value) (w : World) (hx : NumAt w vx x) (hne : x ≠ 0) (hm : 2 ≤ m) (hle : (limbs x).length ≤ m) (hbig : m ≤ 1000000000000) :
    Calls Tryz.prog 225 #[vx, .int .i64 m] w fun e w' => e = .returned (.int .i64 ((x / 1000000000 ^ (m - 2) : Nat) : Int)) ∧ Below w.heap.size w w' := by
  obtain ⟨q, rfl⟩ : ∃ q, m = q + 2 := ⟨m - 2, by omega⟩
  rw [Nat.add_sub_cancel]
  obtain ⟨ao, c, rfl, hr⟩ := hx
  have hnil : limbs x ≠ [] := fun e => hne (limbs_nil_iff.1 e)
  obtain ⟨b, off, rfl⟩ := hr.addr hnil
  have h1 := hr.1; have h2 := hr.2.1
  have hlen : (limbs (x / 1000000000 ^ q)).length = (limbs x).length - q := by rw [← limbs_drop, List.length_drop]
  have hlt : x / 1000000000 ^ q < 1000000000000000000 := by
    have h3 := lt_pow_limbs (x / 1000000000 ^ q)
    rw [hlen] at h3
    exact Nat.lt_of_lt_of_le h3 (Nat.le_trans (Nat.pow_le_pow_right (by decide) (show (limbs x).length - q ≤ 2 by omega)) (by decide))
  have CW : ∀ (v : Value) (W : World), NumAt W v (x / 1000000000 ^ q) → Calls Tryz.prog 195 #[v] W fun e w' => e = .returned (.int .u64 ((x / 1000000000 ^ q : Nat) : Int)) ∧ Below W.heap.size W w' := fun v W hv => word_any _ v W hv hlt
  have hrow : q ≤ (limbs x).length → RowAt w (some ⟨b, off + q, none⟩) (c - q) (limbs (x / 1000000000 ^ q)) := fun h => by
    have := row_drop hr q h
    rwa [limbs_drop] at this
  have hzero : (limbs x).length ≤ q → limbs (x / 1000000000 ^ q) = [] := fun e => List.length_eq_zero_iff.1 (by rw [hlen]; omega)
  generalize x / 1000000000 ^ q = z at *
  generalize (limbs x).length = n at *
  have KW := Lib.hid CW; have HROW := Lib.hid hrow; have HL := Lib.hid hlen; have HNZ := Lib.hid hzero
  clear CW hrow hlen hr hnil hne hzero
  by_cases hqn : q < n
  · have hqn' : (q : Int) ≤ (n : Int) := by omega
    have hmn : min (q : Int) (n : Int) = (q : Int) := by omega
    have hqc : q < c := by omega
    have hrow := HROW.out (by omega)
    have hl := HL.out
    have HR := Lib.hid hrow; have HLL := Lib.hid hl
    clear hrow hl HROW HNZ
    go_enter Tryz.func225, Tryz.ntmps225
    go_wp2_with (go_at_call 195; refine (KW.out _ _ ⟨some ⟨b, off + q, none⟩, c - q, by rw [HLL.out], (HR.out.mono ((Below.refl _ _).alloc (Nat.le_refl _) _)).mono ((Below.refl _ _).alloc (Nat.le_refl _) _)⟩).mono ?_; rintro e w1 ⟨rfl, hb1⟩; refine Hid.out ?_)
    have HB := Lib.hid hb1; clear hb1
    refine Lib.hid ?_
    go_wp2
    go_ret
    exact ⟨rfl, (((Below.refl _ _).alloc (Nat.le_refl _) _).alloc (by simp) _).trans (HB.out.mono (by simp; omega))⟩
  · have hzn := HNZ.out (by omega)
    have hqe : q = n ∨ ¬ (q : Int) ≤ (n : Int) := by omega
    have hmn : min (q : Int) (n : Int) = (n : Int) := by omega
    have HZN := Lib.hid hzn; clear hzn HROW HL HNZ
    by_cases hcap : n = c
    · subst hcap
      rcases hqe with rfl | hqe
      · go_enter Tryz.func225, Tryz.ntmps225
        go_wp2_with (go_at_call 195; refine (KW.out _ _ ⟨some ⟨b, off, none⟩, 0, by rw [HZN.out]; rfl, by rw [HZN.out]; exact row_nil (by decide)⟩).mono ?_; rintro e w1 ⟨rfl, hb1⟩; refine Hid.out ?_)
        have HB := Lib.hid hb1; clear hb1
        refine Lib.hid ?_
        go_wp2
        go_ret
        exact ⟨rfl, (((Below.refl _ _).alloc (Nat.le_refl _) _).alloc (by simp) _).trans (HB.out.mono (by simp; omega))⟩
      · go_enter Tryz.func225, Tryz.ntmps225
        go_wp2_with (go_at_call 195; refine (KW.out _ _ ⟨some ⟨b, off, none⟩, 0, by rw [HZN.out]; rfl, by rw [HZN.out]; exact row_nil (by decide)⟩).mono ?_; rintro e w1 ⟨rfl, hb1⟩; refine Hid.out ?_)
        have HB := Lib.hid hb1; clear hb1
        refine Lib.hid ?_
        go_wp2
        go_ret
        exact ⟨rfl, (((Below.refl _ _).alloc (Nat.le_refl _) _).alloc (by simp) _).trans (HB.out.mono (by simp; omega))⟩
    · have hcap' : n < c := by omega
      clear hcap
      rcases hqe with rfl | hqe
      · go_enter Tryz.func225, Tryz.ntmps225
        go_wp2_with (go_at_call 195; refine (KW.out _ _ ⟨some ⟨b, off + q, none⟩, c - q, by rw [HZN.out]; rfl, by rw [HZN.out]; exact row_nil (by omega)⟩).mono ?_; rintro e w1 ⟨rfl, hb1⟩; refine Hid.out ?_)
        have HB := Lib.hid hb1; clear hb1
        refine Lib.hid ?_
        go_wp2
        go_ret
        exact ⟨rfl, (((Below.refl _ _).alloc (Nat.le_refl _) _).alloc (by simp) _).trans (HB.out.mono (by simp; omega))⟩
      · go_enter Tryz.func225, Tryz.ntmps225
        go_wp2_with (go_at_call 195; refine (KW.out _ _ ⟨some ⟨b, off + n, none⟩, c - n, by rw [HZN.out]; rfl, by rw [HZN.out]; exact row_nil (by omega)⟩).mono ?_; rintro e w1 ⟨rfl, hb1⟩; refine Hid.out ?_)
        have HB := Lib.hid hb1; clear hb1
        refine Lib.hid ?_
        go_wp2
        go_ret
        exact ⟨rfl, (((Below.refl _ _).alloc (Nat.le_refl _) _).alloc (by simp) _).trans (HB.out.mono (by simp; omega))⟩
end Go.Proofs.YtbadibbdoljjhaaGreatDoor
