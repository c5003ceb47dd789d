import Derived.Test.YtipnnmbjkpidoaaGreatDoorOwnBezC
import Derived.Test.YtipnnmbjkpidoaaGreatDoorBase19
import Derived.Test.YtipnnmbjkpidoaaGreatDoorRows
import Derived.LaidMore
import Derived.LaidLaws
import Derived.LaidHandle
import Derived.MakeChecks
import Derived.Stop.Joined
import Derived.Stop.LaidErr
import Derived.OpenShut
import Derived.ProofKit
import Derived.DataShut
import Derived.Lib.Atoi

set_option linter.unusedVariables false
/-
  bigint: Bezout at canonical integers.
-/
namespace Go.Proofs.YtipnnmbjkpidoaaGreatDoor
open Go Go.Proofs Go.RowKit

theorem bezout_any (x y : Int) (va vb : Value) (w : World) (ha : IntAt w va x) (hb : IntAt w vb y) (hlx : (limbs x.natAbs).length ≤ 1000) (hly : (limbs y.natAbs).length ≤ 1000) :
    Calls Tryz.prog 98 #[va, vb] w (BezRet (bezOf x y).1 (bezOf x y).2.1 (bezOf x y).2.2 w) := by
  by_cases hy : y = 0
  · subst hy
    exact bezout_zero x va vb w ha hb
  · exact bezout_pos x y va vb w ha hb hlx hly hy

theorem bezOf_limbs (x y : Int) (hlx : (limbs x.natAbs).length ≤ 1000) (hly : (limbs y.natAbs).length ≤ 1000) : (limbs (bezOf x y).1.natAbs).length ≤ 1000 ∧ (limbs (bezOf x y).2.1.natAbs).length ≤ 1000 ∧ (limbs (bezOf x y).2.2.natAbs).length ≤ 2001 := by
  by_cases hy : y = 0
  · subst hy
    unfold bezOf
    rw [if_pos rfl]
    refine ⟨by simpa using hlx, ?_, by simp [limbs_zero]⟩
    show (limbs (Int.sign x).natAbs).length ≤ 1000
    refine Nat.le_trans (limbs_length_le (k := 1) ?_) (by decide)
    rw [Int.natAbs_sign]
    split <;> decide
  · have hMod : (x.fmod (y.natAbs : Int)).natAbs < y.natAbs := by have := fmod_natAbs_lt x (y.natAbs : Int) (by omega); omega
    obtain ⟨h1, h2, h3⟩ := bezRun_inv y.natAbs _ _ _ _ _ (Nat.le_refl _) (BezInv.start y (x.fmod (y.natAbs : Int)) hy (fmod_nonneg _ _ (by omega)) (by omega))
    rw [bezOf_pos x y hy]
    generalize bezRun (y.natAbs : Int) (x.fmod (y.natAbs : Int)) 0 1 = G at *
    have hdv : (y.natAbs : Int).fdiv G.1 ≠ 0 := by
      intro h0
      have h1 := fmod_natAbs_lt (y.natAbs : Int) G.1 (by omega)
      have h2 := step_fmod (y.natAbs : Int) G.1
      rw [h0] at h2
      omega
    have k1 := fdiv_le (y.natAbs : Int) G.1 (by omega)
    have k2 := fmod_natAbs_lt G.2 ((y.natAbs : Int).fdiv G.1) hdv
    simp only [Int.natAbs_natCast] at k1
    have b1 := limbs_small_int h2 hly
    have b2 : (limbs (G.2.fmod ((y.natAbs : Int).fdiv G.1)).natAbs).length ≤ 1000 := limbs_small_int (Nat.le_trans (Nat.le_of_lt k2) k1) hly
    refine ⟨b1, b2, ?_⟩
    have b3 : (limbs (x * G.2.fmod ((y.natAbs : Int).fdiv G.1)).natAbs).length ≤ 2000 := limbs_mul' (j := 1000) (k := 1000) hlx b2
    have b4 : (limbs (G.1 - x * G.2.fmod ((y.natAbs : Int).fdiv G.1)).natAbs).length ≤ 2001 := limbs_sub' (Nat.le_trans b1 (by decide)) b3
    exact Nat.le_trans (limbs_length_mono (fdiv_le _ y hy)) b4

/-- What Bezout returns. -/
def bezV (r : Int × Int × Int) : Value := .tuple #[.string (str (Lib.itoa r.1)), .string (str (Lib.itoa r.2.1)), .string (str (Lib.itoa r.2.2)), .int .i64 0]

set_option maxHeartbeats 2000000 in
theorem bezoutZ (s t : ByteArray) (x y : Int) (w : World) (hs : Str s x) (ht : Str t y) (htab : Lib.TabIs Tryz.prog w "internal/strconv.uint64pow10" .u64 Lib.pow10Tab) :
    Calls Tryz.prog 48 #[.string s, .string t] w fun e w' => e = .returned (bezV (bezOf x y)) ∧ Below w.heap.size w w' := by
  have hsz := hs.size; have htz := ht.size; have hsl := hs.limbs; have htl := ht.limbs
  have CB := fun W => checkBoth_any s t W (by omega) (by omega)
  have hb : errBoth (bytes s) (bytes t) = 0 := by unfold errBoth; rw [if_pos hs.err, ht.err]
  rw [hb] at CB
  have PS := fun W => parseZ_any s x W hs.text (by omega)
  have PT := fun W => parseZ_any t y W ht.text (by omega)
  have BZ := fun W v1 v2 h1 h2 => bezout_any x y v1 v2 W h1 h2 (by omega) (by omega)
  obtain ⟨l1, l2, l3⟩ := bezOf_limbs x y (by omega) (by omega)
  generalize bezOf x y = r at *
  obtain ⟨g, X, Y⟩ := r
  dsimp only at l1 l2 l3 BZ
  have TX : ∀ (z : Int), (limbs z.natAbs).length ≤ 2001 → ∀ (W : World) (v : Value), Below w.heap.size w W → IntAt W v z → Calls Tryz.prog 100 #[v] W fun e w' => e = .returned (.string (str (Lib.itoa z))) ∧ Below W.heap.size W w' := fun z hz W v hW hv =>
    textZ_any z v W hv (by omega) ((Lib.tabBelow_of_tabIs htab).on hW).here
  have T1 := TX g (by omega); have T2 := TX X (by omega); have T3 := TX Y (by omega)
  have HCB := Lib.hid CB; have HPS := Lib.hid PS; have HPT := Lib.hid PT; have HBZ := Lib.hid BZ; have HT1 := Lib.hid T1; have HT2 := Lib.hid T2; have HT3 := Lib.hid T3
  clear CB PS PT BZ TX T1 T2 T3 hb htab hs ht hsz htz hsl htl l1 l2 l3
  unfold bezV
  dsimp only
  generalize str (Lib.itoa g) = r1 at *
  generalize str (Lib.itoa X) = r2 at *
  generalize str (Lib.itoa Y) = r3 at *
  go_enter Tryz.func48, Tryz.ntmps48
  go_wp2_with (go_at_call 73; refine (HCB.out _).mono ?_; rintro e w1 ⟨rfl, rfl⟩; refine Hid.out ?_)
  refine Lib.hid ?_
  go_wp2_with (go_at_call_of 99 s; refine (HPS.out _).mono ?_; rintro e w4 ⟨v4, rfl, hv4, hb4⟩; refine Hid.out ?_)
  refine Lib.hid ?_
  go_wp2_with (go_at_call_of 99 t; refine (HPT.out _).mono ?_; rintro e w5 ⟨v5, rfl, hv5, hb5⟩; refine Hid.out ?_)
  refine Lib.hid ?_
  go_wp2_with (go_at_call 98; refine (HBZ.out _ _ _ (hv4.mono hb5) hv5).mono ?_; rintro e w6 ⟨v1, v2, v3, rfl, h1, h2, h3, hb6⟩; refine Hid.out ?_)
  have hB6 := Below.chain (Below.chain hb4 hb5) hb6
  obtain ⟨a1, c1, rfl, e1⟩ := h1.open
  obtain ⟨a2, c2, rfl, e2⟩ := h2.open
  obtain ⟨a3, c3, rfl, e3⟩ := h3.open
  have HB6 := Lib.hid hB6
  have F : ∀ W : World, Below w6.heap.size w6 W → IntAt W (.agg #[.bool (sgn g), .slice a1 (lenZ g) c1]) g ∧ IntAt W (.agg #[.bool (sgn X), .slice a2 (lenZ X) c2]) X ∧ IntAt W (.agg #[.bool (sgn Y), .slice a3 (lenZ Y) c3]) Y := fun W hW => ⟨h1.mono hW, h2.mono hW, h3.mono hW⟩
  have HF := Lib.hid F
  clear hb4 hb5 hb6 hv4 hv5 h1 h2 h3 e1 e2 e3 hB6 F
  refine Lib.hid ?_
  go_wp2_with fail
  have B0 : Below w6.heap.size w6 (((w6.alloc (Obj.cells #[.bool (sgn g), .slice a1 (lenZ g) c1] 81)).alloc (Obj.cells #[.bool (sgn X), .slice a2 (lenZ X) c2] 81)).alloc (Obj.cells #[.bool (sgn Y), .slice a3 (lenZ Y) c3] 81)) := by go_grown
  have C0 : (((w6.alloc (Obj.cells #[.bool (sgn g), .slice a1 (lenZ g) c1] 81)).alloc (Obj.cells #[.bool (sgn X), .slice a2 (lenZ X) c2] 81)).alloc (Obj.cells #[.bool (sgn Y), .slice a3 (lenZ Y) c3] 81)).cell? ⟨w6.heap.size, 0, none⟩ = some (.bool (sgn g)) := by go_cell
  have C1 : (((w6.alloc (Obj.cells #[.bool (sgn g), .slice a1 (lenZ g) c1] 81)).alloc (Obj.cells #[.bool (sgn X), .slice a2 (lenZ X) c2] 81)).alloc (Obj.cells #[.bool (sgn Y), .slice a3 (lenZ Y) c3] 81)).cell? ⟨w6.heap.size, 1, none⟩ = some (.slice a1 (lenZ g) c1) := by go_cell
  have C2 : (((w6.alloc (Obj.cells #[.bool (sgn g), .slice a1 (lenZ g) c1] 81)).alloc (Obj.cells #[.bool (sgn X), .slice a2 (lenZ X) c2] 81)).alloc (Obj.cells #[.bool (sgn Y), .slice a3 (lenZ Y) c3] 81)).cell? ⟨w6.heap.size + 1, 0, none⟩ = some (.bool (sgn X)) := by go_cell
  have C3 : (((w6.alloc (Obj.cells #[.bool (sgn g), .slice a1 (lenZ g) c1] 81)).alloc (Obj.cells #[.bool (sgn X), .slice a2 (lenZ X) c2] 81)).alloc (Obj.cells #[.bool (sgn Y), .slice a3 (lenZ Y) c3] 81)).cell? ⟨w6.heap.size + 1, 1, none⟩ = some (.slice a2 (lenZ X) c2) := by go_cell
  have C4 : (((w6.alloc (Obj.cells #[.bool (sgn g), .slice a1 (lenZ g) c1] 81)).alloc (Obj.cells #[.bool (sgn X), .slice a2 (lenZ X) c2] 81)).alloc (Obj.cells #[.bool (sgn Y), .slice a3 (lenZ Y) c3] 81)).cell? ⟨w6.heap.size + 1 + 1, 0, none⟩ = some (.bool (sgn Y)) := by go_cell
  have C5 : (((w6.alloc (Obj.cells #[.bool (sgn g), .slice a1 (lenZ g) c1] 81)).alloc (Obj.cells #[.bool (sgn X), .slice a2 (lenZ X) c2] 81)).alloc (Obj.cells #[.bool (sgn Y), .slice a3 (lenZ Y) c3] 81)).cell? ⟨w6.heap.size + 1 + 1, 1, none⟩ = some (.slice a3 (lenZ Y) c3) := by go_cell
  have S0 : w6.heap.size + 1 + 1 < (((w6.alloc (Obj.cells #[.bool (sgn g), .slice a1 (lenZ g) c1] 81)).alloc (Obj.cells #[.bool (sgn X), .slice a2 (lenZ X) c2] 81)).alloc (Obj.cells #[.bool (sgn Y), .slice a3 (lenZ Y) c3] 81)).heap.size := by simp
  generalize (((w6.alloc (Obj.cells #[.bool (sgn g), .slice a1 (lenZ g) c1] 81)).alloc (Obj.cells #[.bool (sgn X), .slice a2 (lenZ X) c2] 81)).alloc (Obj.cells #[.bool (sgn Y), .slice a3 (lenZ Y) c3] 81)) = W7 at *
  generalize hp : w6.heap.size = p at *
  have K : ∀ W : World, Below W7.heap.size W7 W → W.cell? ⟨p, 0, none⟩ = some (.bool (sgn g)) ∧ W.cell? ⟨p, 1, none⟩ = some (.slice a1 (lenZ g) c1) ∧ W.cell? ⟨p + 1, 0, none⟩ = some (.bool (sgn X)) ∧ W.cell? ⟨p + 1, 1, none⟩ = some (.slice a2 (lenZ X) c2) ∧ W.cell? ⟨p + 1 + 1, 0, none⟩ = some (.bool (sgn Y)) ∧ W.cell? ⟨p + 1 + 1, 1, none⟩ = some (.slice a3 (lenZ Y) c3) := fun W hW =>
    ⟨(hW.cell (p := ⟨p, 0, none⟩) (by simp; omega)).trans C0, (hW.cell (p := ⟨p, 1, none⟩) (by simp; omega)).trans C1, (hW.cell (p := ⟨p + 1, 0, none⟩) (by simp; omega)).trans C2, (hW.cell (p := ⟨p + 1, 1, none⟩) (by simp; omega)).trans C3, (hW.cell (p := ⟨p + 1 + 1, 0, none⟩) (by simp; omega)).trans C4, (hW.cell (p := ⟨p + 1 + 1, 1, none⟩) (by simp; omega)).trans C5⟩
  have HW : ∀ W : World, Below W7.heap.size W7 W → Below w6.heap.size w6 W := fun W hW => Below.chain (hp ▸ B0) hW
  have F2 := fun (W : World) (hW : Below W7.heap.size W7 W) => HF.out W (by rw [← hp]; exact HW W hW)
  have KK := Lib.hid K; have HHW := Lib.hid HW; have KF := Lib.hid F2
  have hD : Below W7.heap.size W7 W7.drew := (Below.refl _ _).drew
  clear K HW F2 HF C0 C1 C2 C3 C4 C5 S0 B0 hp
  go_region_held3 (fun w' => w'.cell? ⟨p, 0, none⟩ = some (.bool (sgn g)) ∧ w'.cell? ⟨p, 1, none⟩ = some (.slice a1 (lenZ g) c1) ∧ w'.cell? ⟨p + 1, 0, none⟩ = some (.bool (sgn X)) ∧ w'.cell? ⟨p + 1, 1, none⟩ = some (.slice a2 (lenZ X) c2) ∧ w'.cell? ⟨p + 1 + 1, 0, none⟩ = some (.bool (sgn Y)) ∧ w'.cell? ⟨p + 1 + 1, 1, none⟩ = some (.slice a3 (lenZ Y) c3)) (first | (with_reducible exact KK.out _ hD) | (with_reducible exact KK.out _ hV1) | (with_reducible exact KK.out _ hV2) | (with_reducible exact KK.out _ hV3) | fail) (first
    | (go_at_call_of 100 a1; refine (HT1.out _ _ (Below.chain HB6.out (HHW.out _ hD)) (KF.out _ hD).1).mono ?_; rintro e w8 ⟨rfl, hb8⟩; have hV1 := Below.chain hD hb8)
    | (go_at_call_of 100 a2; refine (HT2.out _ _ (Below.chain HB6.out (HHW.out _ hV1)) (KF.out _ hV1).2.1).mono ?_; rintro e w9 ⟨rfl, hb9⟩; have hV2 := Below.chain hV1 hb9)
    | (go_at_call_of 100 a3; refine (HT3.out _ _ (Below.chain HB6.out (HHW.out _ hV2)) (KF.out _ hV2).2.2).mono ?_; rintro e w10 ⟨rfl, hb10⟩; have hV3 := Below.chain hV2 hb10))
  all_goals
    have hbF := Below.chain HB6.out (HHW.out _ hV3)
    go_wp2
    refine bodyPost_ret (by simp [results, Tryz.results48, go_sem]; rfl) rfl ?_
    exact ⟨rfl, hbF⟩
end Go.Proofs.YtipnnmbjkpidoaaGreatDoor

/-
  The laws' examples of the chapter.
-/
namespace Go.Proofs.YtipnnmbjkpidoaaGreatDoor
open Go Go.Proofs Go.RowKit

theorem str_lit {s : ByteArray} {z : Int} (h1 : canonB (bytes s) = true) (h2 : valZ (bytes s) = z) (h3 : (digL (bytes s)).length ≤ 4096) : Str s z := by
  have e : bytes s = Lib.itoa z := by rw [← h2]; exact itoa_valZ h1
  refine ⟨e, ?_⟩
  rw [e, digL_itoa] at h3
  exact h3
theorem lit_str {s : ByteArray} {z : Int} (h : Str s z) : str (Lib.itoa z) = s := by rw [← h.text, str_bytes]
theorem resV_lit {s : ByteArray} {r : Int} (h : Str s r) : resV r = .tuple #[.string s, .int .i64 0] := by
  rw [resV_fits (by have := h.len; omega), lit_str h]

theorem resV_lit' {s : ByteArray} {r z : Int} (h : Str s z) (e : r = z) : resV r = .tuple #[.string s, .int .i64 0] := by rw [e]; exact resV_lit h

theorem sM7 : Str ⟨#[45, 55]⟩ (-7) := str_lit (by decide) (by decide) (by decide)
theorem s7 : Str ⟨#[55]⟩ 7 := str_lit (by decide) (by decide) (by decide)
theorem s2 : Str ⟨#[50]⟩ 2 := str_lit (by decide) (by decide) (by decide)
theorem sM2 : Str ⟨#[45, 50]⟩ (-2) := str_lit (by decide) (by decide) (by decide)
theorem s1 : Str ⟨#[49]⟩ 1 := str_lit (by decide) (by decide) (by decide)
theorem s6 : Str ⟨#[54]⟩ 6 := str_lit (by decide) (by decide) (by decide)
theorem s12 : Str ⟨#[49, 50]⟩ 12 := str_lit (by decide) (by decide) (by decide)
theorem sM18 : Str ⟨#[45, 49, 56]⟩ (-18) := str_lit (by decide) (by decide) (by decide)
theorem s36 : Str ⟨#[51, 54]⟩ 36 := str_lit (by decide) (by decide) (by decide)
theorem sM4 : Str ⟨#[45, 52]⟩ (-4) := str_lit (by decide) (by decide) (by decide)
theorem sM1 : Str ⟨#[45, 49]⟩ (-1) := str_lit (by decide) (by decide) (by decide)
theorem sNines : Str ⟨#[57, 57, 57, 57, 57, 57, 57, 57, 57, 57, 57, 57, 57, 57, 57, 57, 57, 57, 57, 57]⟩ 99999999999999999999 := str_lit (by decide) (by decide) (by decide)
theorem sHundred : Str ⟨#[49, 48, 48, 48, 48, 48, 48, 48, 48, 48, 48, 48, 48, 48, 48, 48, 48, 48, 48, 48, 48]⟩ 100000000000000000000 := str_lit (by decide) (by decide) (by decide)
theorem sOnes : Str ⟨#[49, 49, 49, 49, 49, 49, 49, 49, 49]⟩ 111111111 := str_lit (by decide) (by decide) (by decide)
theorem sSquare : Str ⟨#[49, 50, 51, 52, 53, 54, 55, 56, 57, 56, 55, 54, 53, 52, 51, 50, 49]⟩ 12345678987654321 := str_lit (by decide) (by decide) (by decide)
theorem sPower : Str ⟨#[49, 56, 52, 52, 54, 55, 52, 52, 48, 55, 51, 55, 48, 57, 53, 53, 49, 54, 49, 54]⟩ 18446744073709551616 := str_lit (by decide) (by decide) (by decide)

theorem bez_example : bezOf 12 (-18) = (6, 2, 1) := by
  have h : bezRun 18 12 0 1 = (6, -1) := by
    rw [bezRun_step _ _ _ _ (by decide), show (18 : Int) - Int.fdiv 18 12 * 12 = 6 by decide, show (0 : Int) - Int.fdiv 18 12 * 1 = -1 by decide,
      bezRun_step _ _ _ _ (by decide), show (12 : Int) - Int.fdiv 12 6 * 6 = 0 by decide, bezRun_zero]
  rw [bezOf_pos 12 (-18) (by decide)]
  rw [show (((-18 : Int).natAbs : Nat) : Int) = 18 by decide, show Int.fmod 12 18 = 12 by decide, h]
  decide

set_option maxHeartbeats 4000000 in
theorem awake_any (w : World) (htab : Lib.TabIs Tryz.prog w "internal/strconv.uint64pow10" .u64 Lib.pow10Tab) :
    Calls Tryz.prog 17 #[] w fun e w' => e = .returned (.bool true) ∧ Below w.heap.size w w' := by
  have hT := Lib.tabBelow_of_tabIs htab
  have C1 : ∀ W : World, Below w.heap.size w W → Calls Tryz.prog 40 #[.string ⟨#[45, 55]⟩, .string ⟨#[50]⟩] W fun e w' => e = .returned (.tuple #[.string ⟨#[45, 52]⟩, .int .i64 0]) ∧ Below W.heap.size W w' := fun W hW => by
    have := quoZ _ _ _ _ W sM7 s2 (by decide) (hT.on hW).here
    rwa [resV_lit' (s := ⟨#[45, 52]⟩) (r := (-7 : Int).fdiv 2) sM4 (by decide)] at this
  have C2 : ∀ W : World, Below w.heap.size w W → Calls Tryz.prog 42 #[.string ⟨#[45, 55]⟩, .string ⟨#[50]⟩] W fun e w' => e = .returned (.tuple #[.string ⟨#[49]⟩, .int .i64 0]) ∧ Below W.heap.size W w' := fun W hW => by
    have := remZ _ _ _ _ W sM7 s2 (by decide) (hT.on hW).here
    rwa [resV_lit' (s := ⟨#[49]⟩) (r := (-7 : Int).fmod 2) s1 (by decide)] at this
  have C3 : ∀ W : World, Below w.heap.size w W → Calls Tryz.prog 40 #[.string ⟨#[55]⟩, .string ⟨#[45, 50]⟩] W fun e w' => e = .returned (.tuple #[.string ⟨#[45, 52]⟩, .int .i64 0]) ∧ Below W.heap.size W w' := fun W hW => by
    have := quoZ _ _ _ _ W s7 sM2 (by decide) (hT.on hW).here
    rwa [resV_lit' (s := ⟨#[45, 52]⟩) (r := (7 : Int).fdiv (-2)) sM4 (by decide)] at this
  have C4 : ∀ W : World, Below w.heap.size w W → Calls Tryz.prog 42 #[.string ⟨#[55]⟩, .string ⟨#[45, 50]⟩] W fun e w' => e = .returned (.tuple #[.string ⟨#[45, 49]⟩, .int .i64 0]) ∧ Below W.heap.size W w' := fun W hW => by
    have := remZ _ _ _ _ W s7 sM2 (by decide) (hT.on hW).here
    rwa [resV_lit' (s := ⟨#[45, 49]⟩) (r := (7 : Int).fmod (-2)) sM1 (by decide)] at this
  have C5 : ∀ W : World, Below w.heap.size w W → Calls Tryz.prog 34 #[.string ⟨#[57, 57, 57, 57, 57, 57, 57, 57, 57, 57, 57, 57, 57, 57, 57, 57, 57, 57, 57, 57]⟩, .string ⟨#[49]⟩] W fun e w' => e = .returned (.tuple #[.string ⟨#[49, 48, 48, 48, 48, 48, 48, 48, 48, 48, 48, 48, 48, 48, 48, 48, 48, 48, 48, 48, 48]⟩, .int .i64 0]) ∧ Below W.heap.size W w' := fun W hW => by
    have := addZ _ _ _ _ W sNines s1 (hT.on hW).here
    rwa [resV_lit' (s := ⟨#[49, 48, 48, 48, 48, 48, 48, 48, 48, 48, 48, 48, 48, 48, 48, 48, 48, 48, 48, 48, 48]⟩) (r := 99999999999999999999 + 1) sHundred (by decide)] at this
  have C6 : ∀ W : World, Below w.heap.size w W → Calls Tryz.prog 38 #[.string ⟨#[49, 49, 49, 49, 49, 49, 49, 49, 49]⟩, .string ⟨#[49, 49, 49, 49, 49, 49, 49, 49, 49]⟩] W fun e w' => e = .returned (.tuple #[.string ⟨#[49, 50, 51, 52, 53, 54, 55, 56, 57, 56, 55, 54, 53, 52, 51, 50, 49]⟩, .int .i64 0]) ∧ Below W.heap.size W w' := fun W hW => by
    have := mulZ _ _ _ _ W sOnes sOnes (hT.on hW).here
    rwa [resV_lit' (s := ⟨#[49, 50, 51, 52, 53, 54, 55, 56, 57, 56, 55, 54, 53, 52, 51, 50, 49]⟩) (r := 111111111 * 111111111) sSquare (by decide)] at this
  have C7 : ∀ W : World, Below w.heap.size w W → Calls Tryz.prog 48 #[.string ⟨#[49, 50]⟩, .string ⟨#[45, 49, 56]⟩] W fun e w' => e = .returned (.tuple #[.string ⟨#[54]⟩, .string ⟨#[50]⟩, .string ⟨#[49]⟩, .int .i64 0]) ∧ Below W.heap.size W w' := fun W hW => by
    have := bezoutZ _ _ _ _ W s12 sM18 (hT.on hW).here
    rw [bez_example] at this
    unfold bezV at this
    dsimp only at this
    rwa [lit_str s6, lit_str s2, lit_str s1] at this
  have C8 : ∀ W : World, Below w.heap.size w W → Calls Tryz.prog 46 #[.string ⟨#[49, 50]⟩, .string ⟨#[45, 49, 56]⟩] W fun e w' => e = .returned (.tuple #[.string ⟨#[51, 54]⟩, .int .i64 0]) ∧ Below W.heap.size W w' := fun W hW => by
    have := lcm_short _ _ _ _ W s12 sM18 (by decide) (by decide) (by decide) (hT.on hW).here
    rwa [show (((12 : Int).fdiv (Int.gcd 12 (-18) : Nat) * (-18)).natAbs : Int) = 36 by decide +kernel, lit_str s36] at this
  have C9 : ∀ W : World, Below w.heap.size w W → Calls Tryz.prog 51 #[.string ⟨#[50]⟩, .int .i64 64] W fun e w' => e = .returned (.tuple #[.string ⟨#[49, 56, 52, 52, 54, 55, 52, 52, 48, 55, 51, 55, 48, 57, 53, 53, 49, 54, 49, 54]⟩, .int .i64 0]) ∧ Below W.heap.size W w' := fun W hW => by
    have := powZ _ 2 64 W s2 (by decide) (hT.on hW).here
    rwa [resV_lit' (s := ⟨#[49, 56, 52, 52, 54, 55, 52, 52, 48, 55, 51, 55, 48, 57, 53, 53, 49, 54, 49, 54]⟩) (r := (2 : Int) ^ 64) sPower (by decide)] at this
  have C10 : ∀ W : World, Calls Tryz.prog 24 #[.string ⟨#[45, 48]⟩] W fun e w' => e = .returned (.int .i64 3) ∧ w' = W := fun W => check_any ⟨#[45, 48]⟩ W (by decide)
  have C11 : ∀ W : World, Calls Tryz.prog 24 #[.string ⟨#[48, 48, 55]⟩] W fun e w' => e = .returned (.int .i64 3) ∧ w' = W := fun W => check_any ⟨#[48, 48, 55]⟩ W (by decide)
  have C12 : ∀ W : World, Calls Tryz.prog 24 #[.string ⟨#[45, 49, 50]⟩] W fun e w' => e = .returned (.int .i64 0) ∧ w' = W := fun W => check_any ⟨#[45, 49, 50]⟩ W (by decide)
  have K1 := Lib.hid C1; have K2 := Lib.hid C2; have K3 := Lib.hid C3; have K4 := Lib.hid C4; have K5 := Lib.hid C5; have K6 := Lib.hid C6; have K7 := Lib.hid C7; have K8 := Lib.hid C8; have K9 := Lib.hid C9; have K10 := Lib.hid C10; have K11 := Lib.hid C11; have K12 := Lib.hid C12
  clear C1 C2 C3 C4 C5 C6 C7 C8 C9 C10 C11 C12 htab hT
  go_enter Tryz.func17, Tryz.ntmps17
  go_wp2_with (go_at_call 40; refine (K1.out _ (Below.refl _ _)).mono ?_; rintro e w1 ⟨rfl, hb1⟩; refine Hid.out ?_)
  refine Lib.hid ?_
  go_wp2_with (go_at_call 42; refine (K2.out _ hb1).mono ?_; rintro e w2 ⟨rfl, hb2⟩; refine Hid.out ?_)
  have hb2' := Below.chain hb1 hb2; clear hb1 hb2
  refine Lib.hid ?_
  go_wp2_with (go_at_call 40; refine (K3.out _ hb2').mono ?_; rintro e w3 ⟨rfl, hb3⟩; refine Hid.out ?_)
  have hb3' := Below.chain hb2' hb3; clear hb2' hb3
  refine Lib.hid ?_
  go_wp2_with (go_at_call 42; refine (K4.out _ hb3').mono ?_; rintro e w4 ⟨rfl, hb4⟩; refine Hid.out ?_)
  have hb4' := Below.chain hb3' hb4; clear hb3' hb4
  refine Lib.hid ?_
  go_wp2_with (go_at_call 34; refine (K5.out _ hb4').mono ?_; rintro e w5 ⟨rfl, hb5⟩; refine Hid.out ?_)
  have hb5' := Below.chain hb4' hb5; clear hb4' hb5
  refine Lib.hid ?_
  go_wp2_with (go_at_call 38; refine (K6.out _ hb5').mono ?_; rintro e w6 ⟨rfl, hb6⟩; refine Hid.out ?_)
  have hb6' := Below.chain hb5' hb6; clear hb5' hb6
  refine Lib.hid ?_
  go_wp2_with (go_at_call 48; refine (K7.out _ hb6').mono ?_; rintro e w7 ⟨rfl, hb7⟩; refine Hid.out ?_)
  have hb7' := Below.chain hb6' hb7; clear hb6' hb7
  refine Lib.hid ?_
  go_wp2_with (go_at_call 46; refine (K8.out _ hb7').mono ?_; rintro e w8 ⟨rfl, hb8⟩; refine Hid.out ?_)
  have hb8' := Below.chain hb7' hb8; clear hb7' hb8
  refine Lib.hid ?_
  go_wp2_with (go_at_call 51; refine (K9.out _ hb8').mono ?_; rintro e w9 ⟨rfl, hb9⟩; refine Hid.out ?_)
  have hb9' := Below.chain hb8' hb9; clear hb8' hb9
  refine Lib.hid ?_
  go_wp2_with (go_at_call 24; refine (K10.out _).mono ?_; rintro e w10 ⟨rfl, rfl⟩; refine Hid.out ?_)
  refine Lib.hid ?_
  go_wp2_with (go_at_call 24; refine (K11.out _).mono ?_; rintro e w11 ⟨rfl, rfl⟩; refine Hid.out ?_)
  refine Lib.hid ?_
  go_wp2_with (go_at_call 24; refine (K12.out _).mono ?_; rintro e w12 ⟨rfl, rfl⟩; refine Hid.out ?_)
  refine Lib.hid ?_
  go_wp2
  refine bodyPost_ret (v := .bool true) (by simp [results, Tryz.results17, go_sem]) rfl ?_
  exact ⟨rfl, hb9'⟩
end Go.Proofs.YtipnnmbjkpidoaaGreatDoor

/-
  What the rows' condition on the listed variables gives, and a world that meets it.
-/
namespace Go.Proofs.YtipnnmbjkpidoaaGreatDoor
open Go Go.Proofs Go.RowKit

theorem own : ownKnob Tryz.prog.godebug = none := by kernel_rfl
theorem gPow : Tryz.prog.globalNamed "internal/strconv.uint64pow10" = some 3 := by kernel_rfl
theorem gPowType : (Tryz.prog.globals[3]?).map (·.type) = some 185 := by kernel_rfl

/-- The list of the rows. -/
def laidAll : List (String × DataW Unit) := [("math/bits.deBruijn32tab", Rows.laid_math_bits_deBruijn32tab), ("math/bits.deBruijn64tab", Rows.laid_math_bits_deBruijn64tab), ("internal/strconv.uint64pow10", Rows.laid_internal_strconv_uint64pow10), ("strconv.ErrRange", Rows.laid_strconv_ErrRange), ("strconv.ErrSyntax", Rows.laid_strconv_ErrSyntax)]

set_option maxRecDepth 100000 in
theorem door_met (os : Os) (args : Array Value) : laidMetH Tryz.prog laidAll ((World.doorLaid Tryz.prog 62 os).forCall (fun _ _ => 0) ⟨#[], args, []⟩).memory :=
  laidMetH_of_parts3 (fuel := 8) (laidMet_of_run' 8 (by kernel_rfl) (by kernel_rfl)) (by kernel_rfl) (by kernel_rfl)

set_option maxRecDepth 100000 in
theorem tab_of_laid {W : World} (h : laidMetH Tryz.prog laidAll W) : Lib.TabIs Tryz.prog W "internal/strconv.uint64pow10" .u64 Lib.pow10Tab := by
  rw [MakeChecks.laidMetH_plain _ _ _ (by kernel_rfl)] at h
  have h2 : laidMet Tryz.prog [("internal/strconv.uint64pow10", Rows.laid_internal_strconv_uint64pow10), ("strconv.ErrRange", Rows.laid_strconv_ErrRange), ("strconv.ErrSyntax", Rows.laid_strconv_ErrSyntax)] W := h.tail.tail
  exact Lib.tabIs_of_head gPow gPowType Tryz.underlying185 Tryz.underlying114 (by kernel_rfl) (by kernel_rfl) h2

theorem len_le {s : ByteArray} (h : s.size ≤ maxLen) : s.size ≤ 9223372036854775807 := by unfold maxLen at h; omega
theorem i32_bounds {a : Int} (h : (Lit.int .i32 a).wf = true) : -2147483648 ≤ a ∧ a ≤ 2147483647 := (Lit.wf_int_iff .i32 a).1 h
theorem u8_bounds {a : Int} (h : (Lit.int .u8 a).wf = true) : 0 ≤ a ∧ a ≤ 255 := (Lit.wf_int_iff .u8 a).1 h
theorem i64_bounds {a : Int} (h : (Lit.int .i64 a).wf = true) : -9223372036854775808 ≤ a ∧ a ≤ 9223372036854775807 := (Lit.wf_int_iff .i64 a).1 h
end Go.Proofs.YtipnnmbjkpidoaaGreatDoor

/-
  bigint: Small.
-/
namespace Go.Proofs.YtipnnmbjkpidoaaGreatDoor
open Go Go.Proofs Go.RowKit

theorem decFrom_dec : ∀ (l : List UInt8) (acc : Nat), AllDig l → Lib.decFrom acc l = some (acc * 10 ^ l.length + dec l)
  | [], acc, _ => by simp [Lib.decFrom, dec]
  | c :: t, acc, h => by
    have hc := isDig_iff.1 (h c (List.mem_cons_self ..))
    have ht : AllDig t := fun y hy => h y (List.mem_cons_of_mem _ hy)
    have hv : Lib.digitVal c = some (c.toNat - 48) := by unfold Lib.digitVal; rw [if_pos hc]
    unfold Lib.decFrom
    rw [hv]
    simp only []
    rw [decFrom_dec t _ ht]
    congr 1
    simp only [List.length_cons, dec, Nat.pow_succ]
    grind
theorem decNat_decDigits (u : Nat) : Lib.decNat (Lib.decDigits u) = some u := by
  have h := decFrom_dec (Lib.decDigits u) 0 (allDig_decDigits u)
  rw [dec_decDigits, Nat.zero_mul, Nat.zero_add] at h
  have hne := decDigits_ne_nil u
  generalize Lib.decDigits u = l at *
  match l, h, hne with
  | c :: t, h, _ => exact h
theorem atoi_itoa (z : Int) : Lib.atoi (Lib.itoa z) = some z := by
  by_cases h : z < 0
  · rw [itoa_neg h]
    show (Lib.decNat _).map _ = _
    rw [decNat_decDigits]
    simp; omega
  · rw [itoa_nonneg h]
    have hd := allDig_decDigits z.natAbs
    have hp := decNat_decDigits z.natAbs
    have hne := decDigits_ne_nil z.natAbs
    generalize Lib.decDigits z.natAbs = l at *
    match l, hd, hp, hne with
    | c :: t, hd, hp, _ =>
      have hc := isDig_iff.1 (hd c (List.mem_cons_self ..))
      have h1 : (c == 45) = false := by
        rw [beq_eq_false_iff_ne]; intro e; subst e; exact absurd hc.1 (by decide)
      have h2 : (c == 43) = false := by
        rw [beq_eq_false_iff_ne]; intro e; subst e; exact absurd hc.1 (by decide)
      unfold Lib.atoi
      simp only [h1, h2, Bool.false_eq_true, if_false]
      rw [hp]
      simp; omega

set_option maxHeartbeats 1000000 in
theorem smallZ (s : ByteArray) (x : Int) (w : World) (hs : Str s x) (htab : Lib.TabIs Tryz.prog w "internal/strconv.uint64pow10" .u64 Lib.pow10Tab) :
    Calls Tryz.prog 22 #[.string s] w fun e w' => e = .returned (if 1048576 < x.natAbs then .tuple #[.int .i64 0, .int .i64 2] else .tuple #[.int .i64 x, .int .i64 0]) ∧ Below w.heap.size w w' := by
  have hsz := hs.size
  have CC := fun W => check_any s W (by omega)
  rw [hs.err] at CC
  have CD := fun W => digits_any s W
  rw [hs.text, digL_itoa] at CD
  have e0 : Lib.itoa 1048576 = Lib.decDigits 1048576 := by
    have h : (1048576 : Int) = ((1048576 : Nat) : Int) := rfl
    rw [h, itoa_nonneg (by omega), Int.natAbs_natCast]
  have CI : ∀ W : World, Below w.heap.size w W → Calls Tryz.prog 67 #[.int .i64 1048576] W fun e w' => e = .returned (.string (str (Lib.decDigits 1048576))) ∧ Below W.heap.size W w' := fun W hW => by
    have := (Tryz.strconv_Itoa 1048576 (by decide) (by decide) W ((Lib.tabBelow_of_tabIs htab).on hW).here).mono fun e w' ⟨h1, k, os, h2⟩ => (⟨h1, by rw [h2]; exact Lib.below_grow _ W (Nat.le_refl _) k os⟩ : e = Ending.returned (.string (str (Lib.itoa 1048576))) ∧ Below W.heap.size W w')
    rwa [e0] at this
  have CO := fun W => orderDigits_any (str (Lib.decDigits x.natAbs)) (str (Lib.decDigits 1048576)) W (by rw [str_size]; have := hs.len; omega) (by rw [str_size]; have := decDigits_length_le 1048576 18 (by decide) (by decide); omega)
  rw [bytes_str, bytes_str, ordL_dec] at CO
  have CA : ¬ 1048576 < x.natAbs → ∀ W : World, Calls Tryz.prog 68 #[.string s] W fun e w' => e = .returned (.tuple #[.int .i64 x, .nilIface]) ∧ Below W.heap.size W w' := fun h W => by
    have hl : s.size ≤ 18 := by
      have h1 : (bytes s).length = s.size := rfl
      have h2 := decDigits_length_le x.natAbs 17 (by decide) (by omega)
      rw [← h1, hs.text]
      by_cases hz : x < 0
      · rw [itoa_neg hz]; simp; omega
      · rw [itoa_nonneg hz]; omega
    exact (Tryz.strconv_Atoi s x hl (by show Lib.atoi (bytes s) = _; rw [hs.text]; exact atoi_itoa x) W).mono fun e w' ⟨h1, t, h2⟩ => ⟨h1, by rw [h2]; exact Lib.bytesWorld_below _ _ _⟩
  have K1 := Lib.hid CC; have K2 := Lib.hid CD; have K3 := Lib.hid CI; have K4 := Lib.hid CO; have K5 := Lib.hid CA
  clear CC CD CI CO CA hs htab hsz e0
  generalize str (Lib.decDigits x.natAbs) = r1 at *
  generalize str (Lib.decDigits 1048576) = r2 at *
  by_cases hlt : 1048576 < x.natAbs
  · have hc : decide ((0 : Int) < cmpN x.natAbs 1048576) = true := by unfold cmpN; rw [if_neg (by omega), if_neg (by omega)]; rfl
    rw [if_pos hlt]
    generalize cmpN x.natAbs 1048576 = cv at *
    clear K5 hlt
    go_enter Tryz.func22, Tryz.ntmps22
    go_wp2_with (go_at_call 24; refine (K1.out _).mono ?_; rintro e w1 ⟨rfl, rfl⟩; refine Hid.out ?_)
    refine Lib.hid ?_
    go_wp2_with (go_at_call 65; refine (K2.out _).mono ?_; rintro e w1 ⟨rfl, rfl⟩; refine Hid.out ?_)
    refine Lib.hid ?_
    go_wp2_with (go_at_call 67; refine (K3.out _ (Below.refl _ _)).mono ?_; rintro e w2 ⟨rfl, hb2⟩; refine Hid.out ?_)
    refine Lib.hid ?_
    go_wp2_with (go_at_call 66; refine (K4.out _).mono ?_; rintro e w3 ⟨rfl, rfl⟩; refine Hid.out ?_)
    refine Lib.hid ?_
    go_wp2
    refine bodyPost_ret (v := .tuple #[.int .i64 0, .int .i64 2]) (by simp [results, Tryz.results22, go_sem]) rfl ?_
    exact ⟨rfl, hb2⟩
  · have hc : decide ((0 : Int) < cmpN x.natAbs 1048576) = false := by
      unfold cmpN
      by_cases he : x.natAbs = 1048576
      · rw [if_neg (by omega), if_pos he]; rfl
      · rw [if_pos (by omega)]; rfl
    rw [if_neg hlt]
    have K6 := Lib.hid (K5.out hlt)
    generalize cmpN x.natAbs 1048576 = cv at *
    clear K5 hlt
    go_enter Tryz.func22, Tryz.ntmps22
    go_wp2_with (go_at_call 24; refine (K1.out _).mono ?_; rintro e w1 ⟨rfl, rfl⟩; refine Hid.out ?_)
    refine Lib.hid ?_
    go_wp2_with (go_at_call 65; refine (K2.out _).mono ?_; rintro e w1 ⟨rfl, rfl⟩; refine Hid.out ?_)
    refine Lib.hid ?_
    go_wp2_with (go_at_call 67; refine (K3.out _ (Below.refl _ _)).mono ?_; rintro e w2 ⟨rfl, hb2⟩; refine Hid.out ?_)
    refine Lib.hid ?_
    go_wp2_with (go_at_call 66; refine (K4.out _).mono ?_; rintro e w3 ⟨rfl, rfl⟩; refine Hid.out ?_)
    refine Lib.hid ?_
    go_wp2_with (go_at_call 68; refine (K6.out _).mono ?_; rintro e w4 ⟨rfl, hb4⟩; refine Hid.out ?_)
    refine Lib.hid ?_
    go_wp2
    refine bodyPost_ret (v := .tuple #[.int .i64 x, .int .i64 0]) (by simp [results, Tryz.results22, go_sem]) rfl ?_
    exact ⟨rfl, Below.chain hb2 hb4⟩
end Go.Proofs.YtipnnmbjkpidoaaGreatDoor
