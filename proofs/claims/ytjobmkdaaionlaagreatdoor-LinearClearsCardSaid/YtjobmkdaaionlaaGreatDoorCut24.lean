import Derived.Test.YtjobmkdaaionlaaGreatDoorCut23
import Derived.Test.YtjobmkdaaionlaaGreatDoorCut15

set_option linter.unusedVariables false
/-
  rational: isAboveOne, magnitude, haveNoDivisor.
-/
namespace Go.Proofs.YtjobmkdaaionlaaGreatDoor
open Go Go.Proofs Go.RowKit
set_option maxHeartbeats 1000000 in
theorem isAboveOne_any (s : ByteArray) (z : Int) (w : World) (h : bytes s = Lib.itoa z) :
    Calls Tryz.prog 139 #[.string s] w fun e w' => e = .returned (.bool (decide (1 < z))) ∧ w' = w := by
  have hp := txt_size h
  have hgk := byteAt_get s 0 hp
  have hng := txt_neg h
  by_cases h0 : z < 0
  · have e : decide (1 < z) = false := by simp; omega
    rw [e]
    have hb : byteAt s 0 = 45 := by simpa [h0] using hng
    rw [hb] at hgk
    clear hng hb h h0 e
    go_enter Tryz.func139, Tryz.ntmps139
    go_wp2
    go_ret
    exact ⟨rfl, rfl⟩
  · have hb : byteAt s 0 ≠ 45 := by simpa [h0] using hng
    by_cases h1 : z = 0
    · subst h1
      obtain rfl := txt_is_zero h
      clear hng hb h h0 hgk hp
      go_enter Tryz.func139, Tryz.ntmps139
      go_wp2
      go_ret
      exact ⟨rfl, rfl⟩
    · by_cases h2 : z = 1
      · subst h2
        obtain rfl : s = ⟨#[49]⟩ := by rw [← str_bytes s, h, itoa_1]; rfl
        clear hng hb h h0 h1 hgk hp
        go_enter Tryz.func139, Tryz.ntmps139
        go_wp2
        go_ret
        exact ⟨rfl, rfl⟩
      · have e : decide (1 < z) = true := by simp; omega
        rw [e]
        have t0 := eqLit s [48] (fun e => h1 (itoa_inj (h.symm.trans (e.trans itoa_zero.symm))))
        have t1 := eqLit s [49] (fun e => h2 (itoa_inj (h.symm.trans (e.trans itoa_1.symm))))
        clear hng h h0 h1 h2 e
        generalize byteAt s 0 = b0 at *
        go_enter Tryz.func139, Tryz.ntmps139
        go_wp2
        go_ret
        exact ⟨ret_bool (by simp; omega), rfl⟩
set_option maxHeartbeats 1000000 in
theorem magnitude_any (s : ByteArray) (z : Int) (w : World) (h : bytes s = Lib.itoa z) (hs : s.size ≤ 1000000000000) :
    Calls Tryz.prog 163 #[.string s] w (RetN z.natAbs w) := by
  have C1 : ∀ W : World, Calls Tryz.prog 88 #[.string s, .string ⟨#[45]⟩] W fun e w' => e = .returned (.string (str (digL (bytes s)))) ∧ w' = W := fun W => Tryz.strings_TrimPrefix s ⟨#[45]⟩ W
  rw [h, digL_itoa] at C1
  have C2 := fun W => parse_good (str (Lib.decDigits z.natAbs)) W (by
    rw [str_size]; have := txt_len h; split at this <;> omega) (by rw [bytes_str]; exact digB_decDigits _)
  rw [bytes_str, dec_decDigits] at C2
  generalize z.natAbs = x at *
  generalize str (Lib.decDigits x) = d at *
  have K1 := Lib.hid C1; have K2 := Lib.hid C2; clear C1 C2 h hs
  go_enter Tryz.func163, Tryz.ntmps163
  go_wp2_with (go_at_call 88; refine (K1.out _).mono ?_; rintro e w1 ⟨rfl, h⟩; subst h; refine Hid.out ?_)
  refine Lib.hid ?_
  go_wp2_with (go_at_call 198; refine (K2.out _).mono ?_; rintro e w2 ⟨v2, rfl, hv2, hb2⟩; refine Hid.out ?_)
  obtain ⟨ao, c, rfl, hr2⟩ := hv2
  have HR2 := Lib.hid hr2; clear hr2
  have c0 : (w.alloc (Obj.cells #[Value.slice none 0 0] 173)).cell? ⟨w.heap.size, 0, none⟩ = some (Value.slice none 0 0) := by go_cell
  have f0 : (w.alloc (Obj.cells #[Value.slice none 0 0] 173)).frozen? ⟨w.heap.size, 0, none⟩ = false := by go_cell
  have s0 : w.heap.size < (w.alloc (Obj.cells #[Value.slice none 0 0] 173)).heap.size := by simp
  have B0 : Below w.heap.size w (w.alloc (Obj.cells #[Value.slice none 0 0] 173)) := (Below.refl _ _).alloc (Nat.le_refl _) _
  generalize w.alloc (Obj.cells #[Value.slice none 0 0] 173) = W0 at *
  have d0 := (hb2.cell (p := ⟨w.heap.size, 0, none⟩) s0).trans c0
  have g0 := (hb2.frozen (p := ⟨w.heap.size, 0, none⟩) s0).trans f0
  have s2 := Nat.lt_of_lt_of_le s0 hb2.size
  have B2 := Below.chain B0 hb2
  clear c0 f0 s0 B0 hb2
  have HB2 := Lib.hid B2; clear B2
  refine Lib.hid ?_
  go_wp2
  have hB2 := HB2.out
  have T0 : (w2.setCell ⟨w.heap.size, 0, none⟩ (Value.slice ao (limbs x).length c)).heap.size = w2.heap.size := by simp [World.setCell]
  have B1 : Below w.heap.size w (w2.setCell ⟨w.heap.size, 0, none⟩ (Value.slice ao (limbs x).length c)) := hB2.setCell (p := ⟨w.heap.size, 0, none⟩) (Nat.le_refl _) _
  have R1 : RowAt (w2.setCell ⟨w.heap.size, 0, none⟩ (Value.slice ao (limbs x).length c)) ao c (limbs x) := RowAt.boxV HR2.out (fun k => by rw [d0]; simp) _
  have q1 : (w2.setCell ⟨w.heap.size, 0, none⟩ (Value.slice ao (limbs x).length c)).cell? ⟨w.heap.size, 0, none⟩ = some (Value.slice ao (limbs x).length c) := cellSet d0 _
  generalize w2.setCell ⟨w.heap.size, 0, none⟩ (Value.slice ao (limbs x).length c) = W1 at *
  have A1 := (Below.refl W1.heap.size W1).alloc (Nat.le_refl _) (Obj.cells #[Value.slice ao (limbs x).length c] 173)
  have q0 := (A1.cell (p := ⟨w.heap.size, 0, none⟩) (by rw [T0]; exact s2)).trans q1
  refine bodyPost_ret (v := .agg #[.slice ao (limbs x).length c]) (by simp [results, Tryz.results163, go_sem, q0]) rfl ?_
  exact ⟨_, rfl, ⟨ao, c, rfl, R1.mono A1⟩, Below.chain B1 A1⟩
set_option maxHeartbeats 2000000 in
theorem haveNoDivisor_any (s t : ByteArray) (x y : Int) (w : World) (hs : bytes s = Lib.itoa x) (ht : bytes t = Lib.itoa y) (hls : s.size ≤ 1000000000) (hlt : t.size ≤ 1000000000) (htab : Lib.TabIs Tryz.prog w "internal/strconv.uint64pow10" .u64 Lib.pow10Tab) :
    Calls Tryz.prog 140 #[.string s, .string t] w (Bret (.bool (decide (gcdI x y = 1))) w) := by
  have hT := Lib.tabBelow_of_tabIs htab
  have C1 : ∀ W : World, Below w.heap.size w W → Calls Tryz.prog 106 #[.string s, .string t] W (Bret (opR gcdI (bytes s) (bytes t)) W) := fun W hW => bigGcdR s t W (by omega) (by omega) (hT.on hW).here
  unfold opR at C1
  rw [hs, ht, valZ_itoa, valZ_itoa] at C1
  have hlit : gcdI x y ≠ 1 → ((str (Lib.itoa (gcdI x y))).toList == [49]) = false := fun h1 => eqLit _ [49] (fun e => h1 (itoa_inj ((txt_str _).symm.trans (e.trans itoa_1.symm))))
  by_cases h : errBoth (Lib.itoa x) (Lib.itoa y) = 0
  · rw [if_pos h] at C1
    obtain ⟨h1, h2⟩ := errBoth_zero h
    have q1 : Str s x := by have := str_of_err (s := s) (by rwa [hs]); rwa [hs, valZ_itoa] at this
    have q2 : Str t y := by have := str_of_err (s := t) (by rwa [ht]); rwa [ht, valZ_itoa] at this
    rw [resV_lit (gcd_fits q1 q2)] at C1
    by_cases hg : gcdI x y = 1
    · rw [hg, lit_str s1] at C1
      have K1 := Lib.hid C1; clear C1 hs ht hls hlt htab hT h h1 h2 q1 q2 hlit
      have e : decide (gcdI x y = 1) = true := by simp [hg]
      rw [e]; clear e hg
      go_enter Tryz.func140, Tryz.ntmps140
      go_wp2_with (go_at_call 106; refine (K1.out _ (Below.refl _ _)).mono ?_; rintro e w1 ⟨rfl, hb1⟩; refine Hid.out ?_)
      refine Lib.hid ?_
      go_wp2
      refine bodyPost_ret (v := .bool true) (by simp [results, Tryz.results140, go_sem]) rfl ?_
      exact ⟨rfl, hb1⟩
    · have hl := hlit hg
      have e : decide (gcdI x y = 1) = false := by simp [hg]
      rw [e]
      generalize str (Lib.itoa (gcdI x y)) = r at *
      have K1 := Lib.hid C1; clear C1 hs ht hls hlt htab hT h h1 h2 q1 q2 hlit hg e
      go_enter Tryz.func140, Tryz.ntmps140
      go_wp2_with (go_at_call 106; refine (K1.out _ (Below.refl _ _)).mono ?_; rintro e w1 ⟨rfl, hb1⟩; refine Hid.out ?_)
      refine Lib.hid ?_
      go_wp2
      refine bodyPost_ret (v := .bool false) (by simp [results, Tryz.results140, go_sem]) rfl ?_
      exact ⟨rfl, hb1⟩
  · rw [if_neg h] at C1
    have hc : errBoth (Lib.itoa x) (Lib.itoa y) = 10 := by
      rcases errBoth_cases (Lib.itoa x) (Lib.itoa y) with h1 | h1 | h1
      · exact absurd h1 h
      · exfalso
        unfold errBoth errOf at h1
        rw [canonB_itoa, canonB_itoa, if_pos rfl, if_pos rfl] at h1
        (repeat' split at h1) <;> omega
      · exact h1
    rw [hc] at C1
    unfold errV at C1
    have hx : (limbs x.natAbs).length ≤ 10000000000 := by
      have h1 := txt_len hs
      exact limbs_of_pow (k := s.size) (dec_pow (by split at h1 <;> omega)) (by omega)
    have hy : (limbs y.natAbs).length ≤ 10000000000 := by
      have h1 := txt_len ht
      exact limbs_of_pow (k := t.size) (dec_pow (by split at h1 <;> omega)) (by omega)
    have C2 := fun W => magnitude_any s x W hs (by omega)
    have C3 := fun W => magnitude_any t y W ht (by omega)
    have C4 : ∀ v1 v2 W, NumAt W v1 x.natAbs → NumAt W v2 y.natAbs → Calls Tryz.prog 162 #[v1, v2] W (RetN (Int.gcd x y) W) := fun v1 v2 W h1 h2 => gcdN_any x.natAbs y.natAbs v1 v2 W h1 h2 hx hy
    have hlg : (limbs (Int.gcd x y)).length ≤ 1000000000000 := by
      by_cases hx0 : x = 0
      · have : Int.gcd x y = y.natAbs := by rw [hx0, Int.gcd_zero_left]
        rw [this]; omega
      · have := limbs_length_mono (Int.gcd_le_natAbs_left y hx0)
        omega
    have C5 : ∀ W : World, Below w.heap.size w W → ∀ v, NumAt W v (Int.gcd x y) → Calls Tryz.prog 164 #[v] W (Bret (.string (str (Lib.itoa (gcdI x y)))) W) := fun W hW v hv => by
      have := text_any (Int.gcd x y) v W hv hlg (hT.on hW).here
      have e : (⟨(Lib.decDigits (Int.gcd x y)).toArray⟩ : ByteArray) = str (Lib.itoa (gcdI x y)) := by
        unfold str gcdI; rw [itoa_nonneg (by omega), Int.natAbs_natCast]
      rwa [e] at this
    by_cases hg : gcdI x y = 1
    · have e : decide (gcdI x y = 1) = true := by simp [hg]
      rw [e]
      rw [hg, lit_str s1] at C5
      have K1 := Lib.hid C1; have K2 := Lib.hid C2; have K3 := Lib.hid C3; have K4 := Lib.hid C4; have K5 := Lib.hid C5
      clear C1 C2 C3 C4 C5 hs ht hls hlt htab hT h hc hx hy hlg hlit e hg
      go_enter Tryz.func140, Tryz.ntmps140
      go_wp2_with (go_at_call 106; refine (K1.out _ (Below.refl _ _)).mono ?_; rintro e w1 ⟨rfl, hb1⟩; refine Hid.out ?_)
      refine Lib.hid ?_
      go_wp2_with (go_at_call_of 163 s; refine (K2.out _).mono ?_; rintro e w2 ⟨v2, rfl, hv2, hb2⟩; refine Hid.out ?_)
      refine Lib.hid ?_
      go_wp2_with (go_at_call_of 163 t; refine (K3.out _).mono ?_; rintro e w3 ⟨v3, rfl, hv3, hb3⟩; refine Hid.out ?_)
      have hv2' := hv2.mono hb3
      refine Lib.hid ?_
      go_wp2_with (go_at_call 162; refine (K4.out _ _ _ hv2' hv3).mono ?_; rintro e w4 ⟨v4, rfl, hv4, hb4⟩; refine Hid.out ?_)
      have hB4 := Below.chain (Below.chain (Below.chain hb1 hb2) hb3) hb4
      clear hb1 hb2 hb3 hb4 hv2 hv3 hv2'
      refine Lib.hid ?_
      go_wp2_with (go_at_call 164; refine (K5.out _ hB4 _ hv4).mono ?_; rintro e w5 ⟨rfl, hb5⟩; refine Hid.out ?_)
      have hB5 := Below.chain hB4 hb5; clear hB4 hb5 hv4
      refine Lib.hid ?_
      go_wp2
      refine bodyPost_ret (v := .bool true) (by simp [results, Tryz.results140, go_sem]) rfl ?_
      exact ⟨rfl, hB5⟩
    · have e : decide (gcdI x y = 1) = false := by simp [hg]
      have hl := hlit hg
      rw [e]
      generalize str (Lib.itoa (gcdI x y)) = r at *
      have K1 := Lib.hid C1; have K2 := Lib.hid C2; have K3 := Lib.hid C3; have K4 := Lib.hid C4; have K5 := Lib.hid C5
      clear C1 C2 C3 C4 C5 hs ht hls hlt htab hT h hc hx hy hlg hlit e hg
      go_enter Tryz.func140, Tryz.ntmps140
      go_wp2_with (go_at_call 106; refine (K1.out _ (Below.refl _ _)).mono ?_; rintro e w1 ⟨rfl, hb1⟩; refine Hid.out ?_)
      refine Lib.hid ?_
      go_wp2_with (go_at_call_of 163 s; refine (K2.out _).mono ?_; rintro e w2 ⟨v2, rfl, hv2, hb2⟩; refine Hid.out ?_)
      refine Lib.hid ?_
      go_wp2_with (go_at_call_of 163 t; refine (K3.out _).mono ?_; rintro e w3 ⟨v3, rfl, hv3, hb3⟩; refine Hid.out ?_)
      have hv2' := hv2.mono hb3
      refine Lib.hid ?_
      go_wp2_with (go_at_call 162; refine (K4.out _ _ _ hv2' hv3).mono ?_; rintro e w4 ⟨v4, rfl, hv4, hb4⟩; refine Hid.out ?_)
      have hB4 := Below.chain (Below.chain (Below.chain hb1 hb2) hb3) hb4
      clear hb1 hb2 hb3 hb4 hv2 hv3 hv2'
      refine Lib.hid ?_
      go_wp2_with (go_at_call 164; refine (K5.out _ hB4 _ hv4).mono ?_; rintro e w5 ⟨rfl, hb5⟩; refine Hid.out ?_)
      have hB5 := Below.chain hB4 hb5; clear hB4 hb5 hv4
      refine Lib.hid ?_
      go_wp2
      refine bodyPost_ret (v := .bool false) (by simp [results, Tryz.results140, go_sem]) rfl ?_
      exact ⟨rfl, hB5⟩
end Go.Proofs.YtjobmkdaaionlaaGreatDoor
