import Derived.Test.YtipnnmbjkpidoaaGreatDoorBezC

set_option linter.unusedVariables false
/-
  bigint: Bezout at canonical integers.
-/
namespace Go.Proofs.YtipnnmbjkpidoaaGreatDoor
open Go Go.Proofs Go.RowKit

theorem bezout_any (x y : Int) (va vb : Value) (w : World) (ha : IntAt w va x) (hb : IntAt w vb y) (hlx : (limbs x.natAbs).length ≤ 1000) (hly : (limbs y.natAbs).length ≤ 1000) :
    Calls Tryz.prog 98 #[va, vb] w (BezRet (bezOf x y).1 (bezOf x y).2.1 (bezOf x y).2.2 w) := by
  by_cases hy : y = 0
  · subst hy
    exact bezout_zero x va vb w ha hb
  · exact bezout_pos x y va vb w ha hb hlx hly hy

theorem bezOf_limbs (x y : Int) (hlx : (limbs x.natAbs).length ≤ 1000) (hly : (limbs y.natAbs).length ≤ 1000) : (limbs (bezOf x y).1.natAbs).length ≤ 1000 ∧ (limbs (bezOf x y).2.1.natAbs).length ≤ 1000 ∧ (limbs (bezOf x y).2.2.natAbs).length ≤ 2001 := by
  by_cases hy : y = 0
  · subst hy
    unfold bezOf
    rw [if_pos rfl]
    refine ⟨by simpa using hlx, ?_, by simp [limbs_zero]⟩
    show (limbs (Int.sign x).natAbs).length ≤ 1000
    refine Nat.le_trans (limbs_length_le (k := 1) ?_) (by decide)
    rw [Int.natAbs_sign]
    split <;> decide
  · have hMod : (x.fmod (y.natAbs : Int)).natAbs < y.natAbs := by have := fmod_natAbs_lt x (y.natAbs : Int) (by omega); omega
    obtain ⟨h1, h2, h3⟩ := bezRun_inv y.natAbs _ _ _ _ _ (Nat.le_refl _) (BezInv.start y (x.fmod (y.natAbs : Int)) hy (fmod_nonneg _ _ (by omega)) (by omega))
    rw [bezOf_pos x y hy]
    generalize bezRun (y.natAbs : Int) (x.fmod (y.natAbs : Int)) 0 1 = G at *
    have hdv : (y.natAbs : Int).fdiv G.1 ≠ 0 := by
      intro h0
      have h1 := fmod_natAbs_lt (y.natAbs : Int) G.1 (by omega)
      have h2 := step_fmod (y.natAbs : Int) G.1
      rw [h0] at h2
      omega
    have k1 := fdiv_le (y.natAbs : Int) G.1 (by omega)
    have k2 := fmod_natAbs_lt G.2 ((y.natAbs : Int).fdiv G.1) hdv
    simp only [Int.natAbs_natCast] at k1
    have b1 := limbs_small_int h2 hly
    have b2 : (limbs (G.2.fmod ((y.natAbs : Int).fdiv G.1)).natAbs).length ≤ 1000 := limbs_small_int (Nat.le_trans (Nat.le_of_lt k2) k1) hly
    refine ⟨b1, b2, ?_⟩
    have b3 : (limbs (x * G.2.fmod ((y.natAbs : Int).fdiv G.1)).natAbs).length ≤ 2000 := limbs_mul' (j := 1000) (k := 1000) hlx b2
    have b4 : (limbs (G.1 - x * G.2.fmod ((y.natAbs : Int).fdiv G.1)).natAbs).length ≤ 2001 := limbs_sub' (Nat.le_trans b1 (by decide)) b3
    exact Nat.le_trans (limbs_length_mono (fdiv_le _ y hy)) b4

/-- What Bezout returns. -/
def bezV (r : Int × Int × Int) : Value := .tuple #[.string (str (Lib.itoa r.1)), .string (str (Lib.itoa r.2.1)), .string (str (Lib.itoa r.2.2)), .int .i64 0]

set_option maxHeartbeats 2000000 in
theorem bezoutZ (s t : ByteArray) (x y : Int) (w : World) (hs : Str s x) (ht : Str t y) (htab : Lib.TabIs Tryz.prog w "internal/strconv.uint64pow10" .u64 Lib.pow10Tab) :
    Calls Tryz.prog 48 #[.string s, .string t] w fun e w' => e = .returned (bezV (bezOf x y)) ∧ Below w.heap.size w w' := by
  have hsz := hs.size; have htz := ht.size; have hsl := hs.limbs; have htl := ht.limbs
  have CB := fun W => checkBoth_any s t W (by omega) (by omega)
  have hb : errBoth (bytes s) (bytes t) = 0 := by unfold errBoth; rw [if_pos hs.err, ht.err]
  rw [hb] at CB
  have PS := fun W => parseZ_any s x W hs.text (by omega)
  have PT := fun W => parseZ_any t y W ht.text (by omega)
  have BZ := fun W v1 v2 h1 h2 => bezout_any x y v1 v2 W h1 h2 (by omega) (by omega)
  obtain ⟨l1, l2, l3⟩ := bezOf_limbs x y (by omega) (by omega)
  generalize bezOf x y = r at *
  obtain ⟨g, X, Y⟩ := r
  dsimp only at l1 l2 l3 BZ
  have TX : ∀ (z : Int), (limbs z.natAbs).length ≤ 2001 → ∀ (W : World) (v : Value), Below w.heap.size w W → IntAt W v z → Calls Tryz.prog 100 #[v] W fun e w' => e = .returned (.string (str (Lib.itoa z))) ∧ Below W.heap.size W w' := fun z hz W v hW hv =>
    textZ_any z v W hv (by omega) ((Lib.tabBelow_of_tabIs htab).on hW).here
  have T1 := TX g (by omega); have T2 := TX X (by omega); have T3 := TX Y (by omega)
  have HCB := Lib.hid CB; have HPS := Lib.hid PS; have HPT := Lib.hid PT; have HBZ := Lib.hid BZ; have HT1 := Lib.hid T1; have HT2 := Lib.hid T2; have HT3 := Lib.hid T3
  clear CB PS PT BZ TX T1 T2 T3 hb htab hs ht hsz htz hsl htl l1 l2 l3
  unfold bezV
  dsimp only
  generalize str (Lib.itoa g) = r1 at *
  generalize str (Lib.itoa X) = r2 at *
  generalize str (Lib.itoa Y) = r3 at *
  go_enter Tryz.func48, Tryz.ntmps48
  go_wp2_with (go_at_call 73; refine (HCB.out _).mono ?_; rintro e w1 ⟨rfl, rfl⟩; refine Hid.out ?_)
  refine Lib.hid ?_
  go_wp2_with (go_at_call_of 99 s; refine (HPS.out _).mono ?_; rintro e w4 ⟨v4, rfl, hv4, hb4⟩; refine Hid.out ?_)
  refine Lib.hid ?_
  go_wp2_with (go_at_call_of 99 t; refine (HPT.out _).mono ?_; rintro e w5 ⟨v5, rfl, hv5, hb5⟩; refine Hid.out ?_)
  refine Lib.hid ?_
  go_wp2_with (go_at_call 98; refine (HBZ.out _ _ _ (hv4.mono hb5) hv5).mono ?_; rintro e w6 ⟨v1, v2, v3, rfl, h1, h2, h3, hb6⟩; refine Hid.out ?_)
  have hB6 := Below.chain (Below.chain hb4 hb5) hb6
  obtain ⟨a1, c1, rfl, e1⟩ := h1.open
  obtain ⟨a2, c2, rfl, e2⟩ := h2.open
  obtain ⟨a3, c3, rfl, e3⟩ := h3.open
  have HB6 := Lib.hid hB6
  have F : ∀ W : World, Below w6.heap.size w6 W → IntAt W (.agg #[.bool (sgn g), .slice a1 (lenZ g) c1]) g ∧ IntAt W (.agg #[.bool (sgn X), .slice a2 (lenZ X) c2]) X ∧ IntAt W (.agg #[.bool (sgn Y), .slice a3 (lenZ Y) c3]) Y := fun W hW => ⟨h1.mono hW, h2.mono hW, h3.mono hW⟩
  have HF := Lib.hid F
  clear hb4 hb5 hb6 hv4 hv5 h1 h2 h3 e1 e2 e3 hB6 F
  refine Lib.hid ?_
  go_wp2_with fail
  have B0 : Below w6.heap.size w6 (((w6.alloc (Obj.cells #[.bool (sgn g), .slice a1 (lenZ g) c1] 81)).alloc (Obj.cells #[.bool (sgn X), .slice a2 (lenZ X) c2] 81)).alloc (Obj.cells #[.bool (sgn Y), .slice a3 (lenZ Y) c3] 81)) := by go_grown
  have C0 : (((w6.alloc (Obj.cells #[.bool (sgn g), .slice a1 (lenZ g) c1] 81)).alloc (Obj.cells #[.bool (sgn X), .slice a2 (lenZ X) c2] 81)).alloc (Obj.cells #[.bool (sgn Y), .slice a3 (lenZ Y) c3] 81)).cell? ⟨w6.heap.size, 0, none⟩ = some (.bool (sgn g)) := by go_cell
  have C1 : (((w6.alloc (Obj.cells #[.bool (sgn g), .slice a1 (lenZ g) c1] 81)).alloc (Obj.cells #[.bool (sgn X), .slice a2 (lenZ X) c2] 81)).alloc (Obj.cells #[.bool (sgn Y), .slice a3 (lenZ Y) c3] 81)).cell? ⟨w6.heap.size, 1, none⟩ = some (.slice a1 (lenZ g) c1) := by go_cell
  have C2 : (((w6.alloc (Obj.cells #[.bool (sgn g), .slice a1 (lenZ g) c1] 81)).alloc (Obj.cells #[.bool (sgn X), .slice a2 (lenZ X) c2] 81)).alloc (Obj.cells #[.bool (sgn Y), .slice a3 (lenZ Y) c3] 81)).cell? ⟨w6.heap.size + 1, 0, none⟩ = some (.bool (sgn X)) := by go_cell
  have C3 : (((w6.alloc (Obj.cells #[.bool (sgn g), .slice a1 (lenZ g) c1] 81)).alloc (Obj.cells #[.bool (sgn X), .slice a2 (lenZ X) c2] 81)).alloc (Obj.cells #[.bool (sgn Y), .slice a3 (lenZ Y) c3] 81)).cell? ⟨w6.heap.size + 1, 1, none⟩ = some (.slice a2 (lenZ X) c2) := by go_cell
  have C4 : (((w6.alloc (Obj.cells #[.bool (sgn g), .slice a1 (lenZ g) c1] 81)).alloc (Obj.cells #[.bool (sgn X), .slice a2 (lenZ X) c2] 81)).alloc (Obj.cells #[.bool (sgn Y), .slice a3 (lenZ Y) c3] 81)).cell? ⟨w6.heap.size + 1 + 1, 0, none⟩ = some (.bool (sgn Y)) := by go_cell
  have C5 : (((w6.alloc (Obj.cells #[.bool (sgn g), .slice a1 (lenZ g) c1] 81)).alloc (Obj.cells #[.bool (sgn X), .slice a2 (lenZ X) c2] 81)).alloc (Obj.cells #[.bool (sgn Y), .slice a3 (lenZ Y) c3] 81)).cell? ⟨w6.heap.size + 1 + 1, 1, none⟩ = some (.slice a3 (lenZ Y) c3) := by go_cell
  have S0 : w6.heap.size + 1 + 1 < (((w6.alloc (Obj.cells #[.bool (sgn g), .slice a1 (lenZ g) c1] 81)).alloc (Obj.cells #[.bool (sgn X), .slice a2 (lenZ X) c2] 81)).alloc (Obj.cells #[.bool (sgn Y), .slice a3 (lenZ Y) c3] 81)).heap.size := by simp
  generalize (((w6.alloc (Obj.cells #[.bool (sgn g), .slice a1 (lenZ g) c1] 81)).alloc (Obj.cells #[.bool (sgn X), .slice a2 (lenZ X) c2] 81)).alloc (Obj.cells #[.bool (sgn Y), .slice a3 (lenZ Y) c3] 81)) = W7 at *
  generalize hp : w6.heap.size = p at *
  have K : ∀ W : World, Below W7.heap.size W7 W → W.cell? ⟨p, 0, none⟩ = some (.bool (sgn g)) ∧ W.cell? ⟨p, 1, none⟩ = some (.slice a1 (lenZ g) c1) ∧ W.cell? ⟨p + 1, 0, none⟩ = some (.bool (sgn X)) ∧ W.cell? ⟨p + 1, 1, none⟩ = some (.slice a2 (lenZ X) c2) ∧ W.cell? ⟨p + 1 + 1, 0, none⟩ = some (.bool (sgn Y)) ∧ W.cell? ⟨p + 1 + 1, 1, none⟩ = some (.slice a3 (lenZ Y) c3) := fun W hW =>
    ⟨(hW.cell (p := ⟨p, 0, none⟩) (by simp; omega)).trans C0, (hW.cell (p := ⟨p, 1, none⟩) (by simp; omega)).trans C1, (hW.cell (p := ⟨p + 1, 0, none⟩) (by simp; omega)).trans C2, (hW.cell (p := ⟨p + 1, 1, none⟩) (by simp; omega)).trans C3, (hW.cell (p := ⟨p + 1 + 1, 0, none⟩) (by simp; omega)).trans C4, (hW.cell (p := ⟨p + 1 + 1, 1, none⟩) (by simp; omega)).trans C5⟩
  have HW : ∀ W : World, Below W7.heap.size W7 W → Below w6.heap.size w6 W := fun W hW => Below.chain (hp ▸ B0) hW
  have F2 := fun (W : World) (hW : Below W7.heap.size W7 W) => HF.out W (by rw [← hp]; exact HW W hW)
  have KK := Lib.hid K; have HHW := Lib.hid HW; have KF := Lib.hid F2
  have hD : Below W7.heap.size W7 W7.drew := (Below.refl _ _).drew
  clear K HW F2 HF C0 C1 C2 C3 C4 C5 S0 B0 hp
  go_region_held3 (fun w' => w'.cell? ⟨p, 0, none⟩ = some (.bool (sgn g)) ∧ w'.cell? ⟨p, 1, none⟩ = some (.slice a1 (lenZ g) c1) ∧ w'.cell? ⟨p + 1, 0, none⟩ = some (.bool (sgn X)) ∧ w'.cell? ⟨p + 1, 1, none⟩ = some (.slice a2 (lenZ X) c2) ∧ w'.cell? ⟨p + 1 + 1, 0, none⟩ = some (.bool (sgn Y)) ∧ w'.cell? ⟨p + 1 + 1, 1, none⟩ = some (.slice a3 (lenZ Y) c3)) (first | (with_reducible exact KK.out _ hD) | (with_reducible exact KK.out _ hV1) | (with_reducible exact KK.out _ hV2) | (with_reducible exact KK.out _ hV3) | fail) (first
    | (go_at_call_of 100 a1; refine (HT1.out _ _ (Below.chain HB6.out (HHW.out _ hD)) (KF.out _ hD).1).mono ?_; rintro e w8 ⟨rfl, hb8⟩; have hV1 := Below.chain hD hb8)
    | (go_at_call_of 100 a2; refine (HT2.out _ _ (Below.chain HB6.out (HHW.out _ hV1)) (KF.out _ hV1).2.1).mono ?_; rintro e w9 ⟨rfl, hb9⟩; have hV2 := Below.chain hV1 hb9)
    | (go_at_call_of 100 a3; refine (HT3.out _ _ (Below.chain HB6.out (HHW.out _ hV2)) (KF.out _ hV2).2.2).mono ?_; rintro e w10 ⟨rfl, hb10⟩; have hV3 := Below.chain hV2 hb10))
  all_goals
    have hbF := Below.chain HB6.out (HHW.out _ hV3)
    go_wp2
    refine bodyPost_ret (by simp [results, Tryz.results48, go_sem]; rfl) rfl ?_
    exact ⟨rfl, hbF⟩
end Go.Proofs.YtipnnmbjkpidoaaGreatDoor
