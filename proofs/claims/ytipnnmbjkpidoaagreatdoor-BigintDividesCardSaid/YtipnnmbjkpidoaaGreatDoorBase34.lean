import Derived.Test.YtipnnmbjkpidoaaGreatDoorBase33

set_option linter.unusedVariables false
/-
  The reference: Magnitude, Negated at a notation of any length; Diff, Product, limited.
-/
namespace Go.Proofs.YtipnnmbjkpidoaaGreatDoor
open Go Go.Proofs Go.RowKit

theorem tail_txt {s : ByteArray} {x : Int} (hs : bytes s = Lib.itoa x) (hx : x < 0) : s.extract 1 s.size = str (Lib.decDigits x.natAbs) := by
  have h := hs
  rw [itoa_neg hx] at h
  apply ByteArray.ext
  apply Array.ext'
  rw [ByteArray.data_extract, Array.toList_extract]
  have hl : s.size = (bytes s).length := rfl
  rw [hl]
  unfold bytes at *
  rw [h]
  simp [str, List.extract]

theorem refMagnitudeT (s : ByteArray) (x : Int) (w : World) (hs : bytes s = Lib.itoa x) (hsz : s.size ≤ 1000000000000) :
    Calls Tryz.prog 29 #[.string s] w fun e w' => e = .returned (.string (str (Lib.itoa (x.natAbs : Int)))) ∧ w' = w := by
  have C := fun W => negative_any s W (txt_size hs)
  rw [txt_neg hs] at C
  have hp := (txt_size hs)
  by_cases hx : x < 0
  · rw [decide_eq_true hx] at C
    have KC := Lib.hid C; have HS := Lib.hid hs; clear C hs
    go_enter Tryz.func29, Tryz.ntmps29
    go_wp2_with (go_at_call 72; refine (KC.out _).mono ?_; rintro e w1 ⟨rfl, h⟩; subst h; refine Hid.out ?_)
    refine Lib.hid ?_
    go_wp2
    go_ret
    refine ⟨?_, rfl⟩
    show Ending.returned (.string (s.extract 1 s.size)) = _
    rw [tail_txt HS.out hx, itoa_nonneg (by omega), Int.natAbs_natCast]
  · rw [decide_eq_false hx] at C
    have e : str (Lib.itoa (x.natAbs : Int)) = s := by rw [show (x.natAbs : Int) = x by omega]; rw [← hs, str_bytes]
    rw [e]
    have KC := Lib.hid C; clear C hs e hx
    go_enter Tryz.func29, Tryz.ntmps29
    go_wp2_with (go_at_call 72; refine (KC.out _).mono ?_; rintro e w1 ⟨rfl, h⟩; subst h; refine Hid.out ?_)
    refine Lib.hid ?_
    go_wp2
    go_ret
    exact ⟨rfl, rfl⟩

theorem refNegatedT (s : ByteArray) (x : Int) (w : World) (hs : bytes s = Lib.itoa x) (hsz : s.size ≤ 1000000000000) :
    Calls Tryz.prog 28 #[.string s] w fun e w' => e = .returned (.string (str (Lib.itoa (-x)))) ∧ w' = w := by
  have hp := (txt_size hs)
  by_cases h0 : x = 0
  · subst h0
    have hz : s = ⟨#[48]⟩ := txt_is_zero hs
    subst hz
    have e : str (Lib.itoa (-0)) = ⟨#[48]⟩ := lit_str str_zero
    rw [e]
    clear hs e
    go_enter Tryz.func28, Tryz.ntmps28
    go_wp2
    go_ret
    exact ⟨rfl, rfl⟩
  · have hd := eq48 s (txt_zero hs h0)
    have C := fun W => negative_any s W (txt_size hs)
    rw [txt_neg hs] at C
    by_cases hx : x < 0
    · rw [decide_eq_true hx] at C
      have KC := Lib.hid C; have HS := Lib.hid hs; clear C hs
      go_enter Tryz.func28, Tryz.ntmps28
      go_wp2_with (go_at_call 72; refine (KC.out _).mono ?_; rintro e w1 ⟨rfl, h⟩; subst h; refine Hid.out ?_)
      refine Lib.hid ?_
      go_wp2
      go_ret
      refine ⟨?_, rfl⟩
      show Ending.returned (.string (s.extract 1 s.size)) = _
      rw [tail_txt HS.out hx, itoa_nonneg (by omega), Int.natAbs_neg]
    · rw [decide_eq_false hx] at C
      have e1 : str (Lib.itoa (-x)) = ⟨#[45]⟩ ++ s := by
        have h := hs
        rw [itoa_nonneg hx] at h
        rw [itoa_neg (by omega), Int.natAbs_neg, ← h]
        apply ByteArray.ext
        apply Array.ext'
        simp [str, bytes]
      rw [e1]
      have KC := Lib.hid C; clear C hs hx e1 h0
      go_enter Tryz.func28, Tryz.ntmps28
      go_wp2_with (go_at_call 72; refine (KC.out _).mono ?_; rintro e w1 ⟨rfl, h⟩; subst h; refine Hid.out ?_)
      refine Lib.hid ?_
      go_wp2
      go_ret
      exact ⟨rfl, rfl⟩


theorem lit_txt {s : ByteArray} {z : Int} (h : bytes s = Lib.itoa z) : str (Lib.itoa z) = s := by rw [← h, str_bytes]
theorem txt_str (z : Int) : bytes (str (Lib.itoa z)) = Lib.itoa z := bytes_str _
theorem itoa_len (z : Int) : (str (Lib.itoa z)).size ≤ 1 + (Lib.decDigits z.natAbs).length := by
  have := txt_len (txt_str z)
  rw [this]; split <;> omega

set_option maxHeartbeats 1000000 in
theorem refDiffI (s t : ByteArray) (x y : Int) (w : World) (hs : bytes s = Lib.itoa x) (ht : bytes t = Lib.itoa y) (hls : s.size ≤ 100000000) (hlt : t.size ≤ 10000000) :
    Calls Tryz.prog 84 #[.string s, .string t] w (Bret (.string (str (Lib.itoa (x - y)))) w) := by
  have C1 := fun W => refNegatedT t y W ht (by omega)
  have C2 := fun W => refSumI s (str (Lib.itoa (-y))) x (-y) W hs (txt_str _) hls (by
    have h1 := itoa_len (-y)
    rw [Int.natAbs_neg] at h1
    have h2 := txt_len ht
    omega)
  rw [show x + -y = x - y by omega] at C2
  generalize str (Lib.itoa (-y)) = u at *
  generalize str (Lib.itoa (x - y)) = R at *
  have K1 := Lib.hid C1; have K2 := Lib.hid C2; clear C1 C2 hs ht hls hlt
  go_enter Tryz.func84, Tryz.ntmps84
  go_wp2_with (go_at_call 28; refine (K1.out _).mono ?_; rintro e w1 ⟨rfl, h⟩; subst h; refine Hid.out ?_)
  refine Lib.hid ?_
  go_wp2_with (go_at_call 81; refine (K2.out _).mono ?_; rintro e w2 ⟨rfl, hb2⟩; refine Hid.out ?_)
  refine Lib.hid ?_
  go_wp2
  go_ret
  exact ⟨rfl, hb2⟩

theorem limited_any (s : ByteArray) (r : Int) (w : World) (hs : bytes s = Lib.itoa r) (hls : s.size ≤ 1000000000000) :
    Calls Tryz.prog 80 #[.string s] w (Bret (resV r) w) := by
  have C := fun W => refDigits_any s W (txt_size hs) (by omega)
  rw [hs, digL_itoa] at C
  have e := lit_txt hs
  unfold resV
  rw [e]
  generalize (Lib.decDigits r.natAbs).length = d at *
  have KC := Lib.hid C; clear C e hs
  by_cases h : 4096 < d
  · rw [if_pos h]
    go_enter Tryz.func80, Tryz.ntmps80
    go_wp2_with (go_at_call 50; refine (KC.out _).mono ?_; rintro e w1 ⟨rfl, h⟩; subst h; refine Hid.out ?_)
    refine Lib.hid ?_
    go_wp2
    refine bodyPost_ret (by simp [results, Tryz.results80, go_sem]; rfl) rfl ?_
    exact ⟨rfl, Below.refl _ _⟩
  · rw [if_neg h]
    go_enter Tryz.func80, Tryz.ntmps80
    go_wp2_with (go_at_call 50; refine (KC.out _).mono ?_; rintro e w1 ⟨rfl, h⟩; subst h; refine Hid.out ?_)
    refine Lib.hid ?_
    go_wp2
    refine bodyPost_ret (by simp [results, Tryz.results80, go_sem]; rfl) rfl ?_
    exact ⟨rfl, Below.refl _ _⟩

theorem madeZ_mul (x y : Int) : madeZ (decide (x < 0) != decide (y < 0)) (x.natAbs * y.natAbs) = x * y := by
  rw [← Int.natAbs_mul]
  by_cases hx : x < 0 <;> by_cases hy : y < 0
  · have h := Int.mul_pos_of_neg_of_neg hx hy
    simp only [hx, hy, decide_true, bne_self_eq_false, madeZ]; simp; omega
  · rcases Int.lt_trichotomy y 0 with h | h | h
    · omega
    · subst h; simp [madeZ]
    · have h' := Int.mul_neg_of_neg_of_pos hx h
      simp only [hx, hy, decide_true, decide_false, madeZ]; simp; omega
  · rcases Int.lt_trichotomy x 0 with h | h | h
    · omega
    · subst h; simp [madeZ]
    · have h' := Int.mul_neg_of_pos_of_neg h hy
      simp only [hx, hy, decide_true, decide_false, madeZ]; simp; omega
  · have h := Int.mul_nonneg (show 0 ≤ x by omega) (show 0 ≤ y by omega)
    simp only [hx, hy, decide_false, bne_self_eq_false, madeZ]; simp; omega

theorem nl_len_mul (x y : Nat) : (nl (x * y)).length ≤ (nl x).length + (nl y).length := by
  refine nl_length_le ?_
  rw [Nat.pow_add]
  exact Nat.mul_lt_mul'' (dlt_pow_limbs x) (dlt_pow_limbs y)

theorem dec_pow {z : Int} {k : Nat} (h : (Lib.decDigits z.natAbs).length ≤ k) : z.natAbs < 10 ^ k := by
  have h1 := dec_lt (allDig_decDigits z.natAbs)
  rw [dec_decDigits] at h1
  exact Nat.lt_of_lt_of_le h1 (Nat.pow_le_pow_right (by decide) h)

set_option maxHeartbeats 4000000 in
theorem refProductI (s t : ByteArray) (x y : Int) (w : World) (hs : bytes s = Lib.itoa x) (ht : bytes t = Lib.itoa y) (hls : s.size ≤ 100000000) (hlt : t.size ≤ 100000000) :
    Calls Tryz.prog 87 #[.string s, .string t] w (Bret (.string (str (Lib.itoa (x * y)))) w) := by
  have E1 := fun W => refDigits_any s W (txt_size hs) (by omega)
  have E2 := fun W => refDigits_any t W (txt_size ht) (by omega)
  rw [hs, digL_itoa] at E1
  rw [ht, digL_itoa] at E2
  have p1 : 0 < (Lib.decDigits x.natAbs).length := List.length_pos_iff.2 (decDigits_ne_nil _)
  have p2 : 0 < (Lib.decDigits y.natAbs).length := List.length_pos_iff.2 (decDigits_ne_nil _)
  by_cases h : (Lib.decDigits x.natAbs).length + (Lib.decDigits y.natAbs).length ≤ 18
  · have N1 := fun W => number_any s x W hs (by omega)
    have N2 := fun W => number_any t y W ht (by omega)
    have hm : (x * y).natAbs < 1000000000000000000 := by
      rw [Int.natAbs_mul]
      have h1 := dec_pow (z := x) (Nat.le_refl _)
      have h2 := dec_pow (z := y) (Nat.le_refl _)
      refine Nat.lt_of_lt_of_le (Nat.mul_lt_mul'' h1 h2) ?_
      rw [← Nat.pow_add]
      exact Nat.le_trans (Nat.pow_le_pow_right (by decide) h) (by decide)
    have hm1 : -1000000000000000000 ≤ x * y := by omega
    have hm2 : x * y ≤ 1000000000000000000 := by omega
    have WW := fun W => whole_any (x * y) W (by omega) (by omega)
    have l1 : (Lib.decDigits x.natAbs).length ≤ 18 := by omega
    have l2 : (Lib.decDigits y.natAbs).length ≤ 18 := by omega
    generalize (Lib.decDigits x.natAbs).length = a at *
    generalize (Lib.decDigits y.natAbs).length = b at *
    have t1 : decide ((a : Int) + (b : Int) ≤ 18) = true := decide_eq_true (by omega)
    generalize str (Lib.itoa (x * y)) = R at *
    have K1 := Lib.hid E1; have K2 := Lib.hid E2; have K3 := Lib.hid N1; have K4 := Lib.hid N2; have K5 := Lib.hid WW
    clear E1 E2 N1 N2 WW hs ht hls hlt h hm p1 p2
    go_enter Tryz.func87, Tryz.ntmps87
    go_wp2_with (go_at_call 50; refine (K1.out _).mono ?_; rintro e w1 ⟨rfl, h⟩; subst h; refine Hid.out ?_)
    refine Lib.hid ?_
    go_wp2_with (go_at_call 50; refine (K2.out _).mono ?_; rintro e w2 ⟨rfl, h⟩; subst h; refine Hid.out ?_)
    refine Lib.hid ?_
    go_wp2_with (go_at_call 112; refine (K3.out _).mono ?_; rintro e w3 ⟨rfl, h⟩; subst h; refine Hid.out ?_)
    refine Lib.hid ?_
    go_wp2_with (go_at_call 112; refine (K4.out _).mono ?_; rintro e w4 ⟨rfl, h⟩; subst h; refine Hid.out ?_)
    refine Lib.hid ?_
    go_wp2_with (go_at_call 26; refine (K5.out _).mono ?_; rintro e w5 ⟨rfl, h⟩; subst h; refine Hid.out ?_)
    refine Lib.hid ?_
    go_wp2
    go_ret
    exact ⟨rfl, Below.refl _ _⟩
  · have D1 := fun W => refDigits_txt s x W hs (by omega)
    have D2 := fun W => refDigits_txt t y W ht (by omega)
    have G1 := fun W => negative_any s W (txt_size hs)
    have G2 := fun W => negative_any t W (txt_size ht)
    rw [txt_neg hs] at G1
    rw [txt_neg ht] at G2
    have l1 := dlen9 hs hls; have l2 := dlen9 ht hlt
    have P : ∀ v1 v2 W, DV W v1 (dgs x.natAbs) → DV W v2 (dgs y.natAbs) → Calls Tryz.prog 134 #[v1, v2] W (DRet (nl (x.natAbs * y.natAbs)) W) := fun v1 v2 W a b => by
      have := refTimes_any _ _ v1 v2 W a b (dgs_dg _) (dgs_dg _) l1 l2
      rwa [dv_dgs, dv_dgs] at this
    have MM : ∀ v W, DV W v (nl (x.natAbs * y.natAbs)) → Calls Tryz.prog 127 #[v, .bool (decide (x < 0) != decide (y < 0))] W (Bret (.string (str (Lib.itoa (x * y)))) W) := fun v W hv => by
      have hl : (nl (x.natAbs * y.natAbs)).length ≤ 1000000000 := by
        have h2 := nl_len_mul x.natAbs y.natAbs
        have h3 := nl_len_le x.natAbs; have h4 := nl_len_le y.natAbs
        have h5 := txt_len hs; have h6 := txt_len ht
        omega
      have := made_any (nl (x.natAbs * y.natAbs)) v (decide (x < 0) != decide (y < 0)) W hv (nl_small _) hl
      rwa [dv_limbs, madeZ_mul] at this
    have t0 := txt_len hs; have t9 := txt_len ht
    have l3 : (Lib.decDigits x.natAbs).length ≤ 100000000 := by omega
    have l4 : (Lib.decDigits y.natAbs).length ≤ 100000000 := by omega
    generalize (Lib.decDigits x.natAbs).length = a at *
    generalize (Lib.decDigits y.natAbs).length = b at *
    have t1 : decide ((a : Int) + (b : Int) ≤ 18) = false := decide_eq_false (by omega)
    generalize str (Lib.itoa (x * y)) = R at *
    generalize decide (x < 0) = p at *
    generalize decide (y < 0) = q at *
    have K1 := Lib.hid E1; have K2 := Lib.hid E2; have K3 := Lib.hid D1; have K4 := Lib.hid D2; have K5 := Lib.hid P; have K6 := Lib.hid G1; have K7 := Lib.hid G2; have K8 := Lib.hid MM
    clear E1 E2 D1 D2 P G1 G2 MM hs ht hls hlt h p1 p2 l1 l2 t0 t9
    go_enter Tryz.func87, Tryz.ntmps87
    go_wp2_with (go_at_call 50; refine (K1.out _).mono ?_; rintro e w1 ⟨rfl, h⟩; subst h; refine Hid.out ?_)
    refine Lib.hid ?_
    go_wp2_with (go_at_call 50; refine (K2.out _).mono ?_; rintro e w2 ⟨rfl, h⟩; subst h; refine Hid.out ?_)
    refine Lib.hid ?_
    go_wp2_with (go_at_call 115; refine (K3.out _).mono ?_; rintro e w3 ⟨v3, rfl, hv3, hb3⟩; refine Hid.out ?_)
    refine Lib.hid ?_
    go_wp2_with (go_at_call 115; refine (K4.out _).mono ?_; rintro e w4 ⟨v4, rfl, hv4, hb4⟩; refine Hid.out ?_)
    have hv3' := hv3.mono hb4
    refine Lib.hid ?_
    go_wp2_with (go_at_call 134; refine (K5.out _ _ _ hv3' hv4).mono ?_; rintro e w5 ⟨v5, rfl, hv5, hb5⟩; refine Hid.out ?_)
    refine Lib.hid ?_
    go_wp2_with (go_at_call 72; refine (K6.out _).mono ?_; rintro e w6 ⟨rfl, h⟩; subst h; refine Hid.out ?_)
    refine Lib.hid ?_
    go_wp2_with (go_at_call 72; refine (K7.out _).mono ?_; rintro e w7 ⟨rfl, h⟩; subst h; refine Hid.out ?_)
    refine Lib.hid ?_
    go_wp2_with (go_at_call 127; refine (K8.out _ _ hv5).mono ?_; rintro e w8 ⟨rfl, hb8⟩; refine Hid.out ?_)
    refine Lib.hid ?_
    go_wp2
    go_ret
    exact ⟨rfl, Below.chain hb3 (Below.chain hb4 (Below.chain hb5 hb8))⟩
end Go.Proofs.YtipnnmbjkpidoaaGreatDoor
