import Derived.Test.YtbadibbdoljjhaaGreatDoorCut19
import Derived.Test.YtbadibbdoljjhaaGreatDoorCut18
import Derived.Test.YtbadibbdoljjhaaGreatDoorCut17

set_option linter.unusedVariables false
/-
  The reference: Magnitude, Negated at a notation of any length; Diff, Product, limited.
-/
namespace Go.Proofs.YtbadibbdoljjhaaGreatDoor
open Go Go.Proofs Go.RowKit

theorem tail_txt {s : ByteArray} {x : Int} (hs : bytes s = Lib.itoa x) (hx : x < 0) : s.extract 1 s.size = str (Lib.decDigits x.natAbs) := by
  have h := hs
  rw [itoa_neg hx] at h
  apply ByteArray.ext
  apply Array.ext'
  rw [ByteArray.data_extract, Array.toList_extract]
  have hl : s.size = (bytes s).length := rfl
  rw [hl]
  unfold bytes at *
  rw [h]
  simp [str, List.extract]

theorem refMagnitudeT (s : ByteArray) (x : Int) (w : World) (hs : bytes s = Lib.itoa x) (hsz : s.size ≤ 1000000000000) :
    Calls Tryz.prog 87 #[.string s] w fun e w' => e = .returned (.string (str (Lib.itoa (x.natAbs : Int)))) ∧ w' = w := by
  have C := fun W => negative_any s W (txt_size hs)
  rw [txt_neg hs] at C
  have hp := (txt_size hs)
  by_cases hx : x < 0
  · rw [decide_eq_true hx] at C
    have KC := Lib.hid C; have HS := Lib.hid hs; clear C hs
    go_enter Tryz.func87, Tryz.ntmps87
    go_wp2_with (go_at_call 140; refine (KC.out _).mono ?_; rintro e w1 ⟨rfl, h⟩; subst h; refine Hid.out ?_)
    refine Lib.hid ?_
    go_wp2
    go_ret
    refine ⟨?_, rfl⟩
    show Ending.returned (.string (s.extract 1 s.size)) = _
    rw [tail_txt HS.out hx, itoa_nonneg (by omega), Int.natAbs_natCast]
  · rw [decide_eq_false hx] at C
    have e : str (Lib.itoa (x.natAbs : Int)) = s := by rw [show (x.natAbs : Int) = x by omega]; rw [← hs, str_bytes]
    rw [e]
    have KC := Lib.hid C; clear C hs e hx
    go_enter Tryz.func87, Tryz.ntmps87
    go_wp2_with (go_at_call 140; refine (KC.out _).mono ?_; rintro e w1 ⟨rfl, h⟩; subst h; refine Hid.out ?_)
    refine Lib.hid ?_
    go_wp2
    go_ret
    exact ⟨rfl, rfl⟩

theorem refNegatedT (s : ByteArray) (x : Int) (w : World) (hs : bytes s = Lib.itoa x) (hsz : s.size ≤ 1000000000000) :
    Calls Tryz.prog 161 #[.string s] w fun e w' => e = .returned (.string (str (Lib.itoa (-x)))) ∧ w' = w := by
  have hp := (txt_size hs)
  by_cases h0 : x = 0
  · subst h0
    have hz : s = ⟨#[48]⟩ := txt_is_zero hs
    subst hz
    have e : str (Lib.itoa (-0)) = ⟨#[48]⟩ := lit_str str_zero
    rw [e]
    clear hs e
    go_enter Tryz.func161, Tryz.ntmps161
    go_wp2
    go_ret
    exact ⟨rfl, rfl⟩
  · have hd := eq48 s (txt_zero hs h0)
    have C := fun W => negative_any s W (txt_size hs)
    rw [txt_neg hs] at C
    by_cases hx : x < 0
    · rw [decide_eq_true hx] at C
      have KC := Lib.hid C; have HS := Lib.hid hs; clear C hs
      go_enter Tryz.func161, Tryz.ntmps161
      go_wp2_with (go_at_call 140; refine (KC.out _).mono ?_; rintro e w1 ⟨rfl, h⟩; subst h; refine Hid.out ?_)
      refine Lib.hid ?_
      go_wp2
      go_ret
      refine ⟨?_, rfl⟩
      show Ending.returned (.string (s.extract 1 s.size)) = _
      rw [tail_txt HS.out hx, itoa_nonneg (by omega), Int.natAbs_neg]
    · rw [decide_eq_false hx] at C
      have e1 : str (Lib.itoa (-x)) = ⟨#[45]⟩ ++ s := by
        have h := hs
        rw [itoa_nonneg hx] at h
        rw [itoa_neg (by omega), Int.natAbs_neg, ← h]
        apply ByteArray.ext
        apply Array.ext'
        simp [str, bytes]
      rw [e1]
      have KC := Lib.hid C; clear C hs hx e1 h0
      go_enter Tryz.func161, Tryz.ntmps161
      go_wp2_with (go_at_call 140; refine (KC.out _).mono ?_; rintro e w1 ⟨rfl, h⟩; subst h; refine Hid.out ?_)
      refine Lib.hid ?_
      go_wp2
      go_ret
      exact ⟨rfl, rfl⟩


theorem lit_txt {s : ByteArray} {z : Int} (h : bytes s = Lib.itoa z) : str (Lib.itoa z) = s := by rw [← h, str_bytes]
theorem txt_str (z : Int) : bytes (str (Lib.itoa z)) = Lib.itoa z := bytes_str _
theorem itoa_len (z : Int) : (str (Lib.itoa z)).size ≤ 1 + (Lib.decDigits z.natAbs).length := by
  have := txt_len (txt_str z)
  rw [this]; split <;> omega

set_option maxHeartbeats 1000000 in
theorem refDiffI (s t : ByteArray) (x y : Int) (w : World) (hs : bytes s = Lib.itoa x) (ht : bytes t = Lib.itoa y) (hls : s.size ≤ 100000000) (hlt : t.size ≤ 10000000) :
    Calls Tryz.prog 150 #[.string s, .string t] w (Bret (.string (str (Lib.itoa (x - y)))) w) := by
  have C1 := fun W => refNegatedT t y W ht (by omega)
  have C2 := fun W => refSumI s (str (Lib.itoa (-y))) x (-y) W hs (txt_str _) hls (by
    have h1 := itoa_len (-y)
    rw [Int.natAbs_neg] at h1
    have h2 := txt_len ht
    omega)
  rw [show x + -y = x - y by omega] at C2
  generalize str (Lib.itoa (-y)) = u at *
  generalize str (Lib.itoa (x - y)) = R at *
  have K1 := Lib.hid C1; have K2 := Lib.hid C2; clear C1 C2 hs ht hls hlt
  go_enter Tryz.func150, Tryz.ntmps150
  go_wp2_with (go_at_call 161; refine (K1.out _).mono ?_; rintro e w1 ⟨rfl, h⟩; subst h; refine Hid.out ?_)
  refine Lib.hid ?_
  go_wp2_with (go_at_call 164; refine (K2.out _).mono ?_; rintro e w2 ⟨rfl, hb2⟩; refine Hid.out ?_)
  refine Lib.hid ?_
  go_wp2
  go_ret
  exact ⟨rfl, hb2⟩

theorem madeZ_mul (x y : Int) : madeZ (decide (x < 0) != decide (y < 0)) (x.natAbs * y.natAbs) = x * y := by
  rw [← Int.natAbs_mul]
  by_cases hx : x < 0 <;> by_cases hy : y < 0
  · have h := Int.mul_pos_of_neg_of_neg hx hy
    simp only [hx, hy, decide_true, bne_self_eq_false, madeZ]; simp; omega
  · rcases Int.lt_trichotomy y 0 with h | h | h
    · omega
    · subst h; simp [madeZ]
    · have h' := Int.mul_neg_of_neg_of_pos hx h
      simp only [hx, hy, decide_true, decide_false, madeZ]; simp; omega
  · rcases Int.lt_trichotomy x 0 with h | h | h
    · omega
    · subst h; simp [madeZ]
    · have h' := Int.mul_neg_of_pos_of_neg h hy
      simp only [hx, hy, decide_true, decide_false, madeZ]; simp; omega
  · have h := Int.mul_nonneg (show 0 ≤ x by omega) (show 0 ≤ y by omega)
    simp only [hx, hy, decide_false, bne_self_eq_false, madeZ]; simp; omega

theorem nl_len_mul (x y : Nat) : (nl (x * y)).length ≤ (nl x).length + (nl y).length := by
  refine nl_length_le ?_
  rw [Nat.pow_add]
  exact Nat.mul_lt_mul'' (dlt_pow_limbs x) (dlt_pow_limbs y)

theorem dec_pow {z : Int} {k : Nat} (h : (Lib.decDigits z.natAbs).length ≤ k) : z.natAbs < 10 ^ k := by
  have h1 := dec_lt (allDig_decDigits z.natAbs)
  rw [dec_decDigits] at h1
  exact Nat.lt_of_lt_of_le h1 (Nat.pow_le_pow_right (by decide) h)

set_option maxHeartbeats 4000000 in
theorem refProductI (s t : ByteArray) (x y : Int) (w : World) (hs : bytes s = Lib.itoa x) (ht : bytes t = Lib.itoa y) (hls : s.size ≤ 100000000) (hlt : t.size ≤ 100000000) :
    Calls Tryz.prog 88 #[.string s, .string t] w (Bret (.string (str (Lib.itoa (x * y)))) w) := by
  have E1 := fun W => refDigits_any s W (txt_size hs) (by omega)
  have E2 := fun W => refDigits_any t W (txt_size ht) (by omega)
  rw [hs, digL_itoa] at E1
  rw [ht, digL_itoa] at E2
  have p1 : 0 < (Lib.decDigits x.natAbs).length := List.length_pos_iff.2 (decDigits_ne_nil _)
  have p2 : 0 < (Lib.decDigits y.natAbs).length := List.length_pos_iff.2 (decDigits_ne_nil _)
  by_cases h : (Lib.decDigits x.natAbs).length + (Lib.decDigits y.natAbs).length ≤ 18
  · have N1 := fun W => number_any s x W hs (by omega)
    have N2 := fun W => number_any t y W ht (by omega)
    have hm : (x * y).natAbs < 1000000000000000000 := by
      rw [Int.natAbs_mul]
      have h1 := dec_pow (z := x) (Nat.le_refl _)
      have h2 := dec_pow (z := y) (Nat.le_refl _)
      refine Nat.lt_of_lt_of_le (Nat.mul_lt_mul'' h1 h2) ?_
      rw [← Nat.pow_add]
      exact Nat.le_trans (Nat.pow_le_pow_right (by decide) h) (by decide)
    have hm1 : -1000000000000000000 ≤ x * y := by omega
    have hm2 : x * y ≤ 1000000000000000000 := by omega
    have WW := fun W => whole_any (x * y) W (by omega) (by omega)
    have l1 : (Lib.decDigits x.natAbs).length ≤ 18 := by omega
    have l2 : (Lib.decDigits y.natAbs).length ≤ 18 := by omega
    generalize (Lib.decDigits x.natAbs).length = a at *
    generalize (Lib.decDigits y.natAbs).length = b at *
    have t1 : decide ((a : Int) + (b : Int) ≤ 18) = true := decide_eq_true (by omega)
    generalize str (Lib.itoa (x * y)) = R at *
    have K1 := Lib.hid E1; have K2 := Lib.hid E2; have K3 := Lib.hid N1; have K4 := Lib.hid N2; have K5 := Lib.hid WW
    clear E1 E2 N1 N2 WW hs ht hls hlt h hm p1 p2
    go_enter Tryz.func88, Tryz.ntmps88
    go_wp2_with (go_at_call 118; refine (K1.out _).mono ?_; rintro e w1 ⟨rfl, h⟩; subst h; refine Hid.out ?_)
    refine Lib.hid ?_
    go_wp2_with (go_at_call 118; refine (K2.out _).mono ?_; rintro e w2 ⟨rfl, h⟩; subst h; refine Hid.out ?_)
    refine Lib.hid ?_
    go_wp2_with (go_at_call 142; refine (K3.out _).mono ?_; rintro e w3 ⟨rfl, h⟩; subst h; refine Hid.out ?_)
    refine Lib.hid ?_
    go_wp2_with (go_at_call 142; refine (K4.out _).mono ?_; rintro e w4 ⟨rfl, h⟩; subst h; refine Hid.out ?_)
    refine Lib.hid ?_
    go_wp2_with (go_at_call 141; refine (K5.out _).mono ?_; rintro e w5 ⟨rfl, h⟩; subst h; refine Hid.out ?_)
    refine Lib.hid ?_
    go_wp2
    go_ret
    exact ⟨rfl, Below.refl _ _⟩
  · have D1 := fun W => refDigits_txt s x W hs (by omega)
    have D2 := fun W => refDigits_txt t y W ht (by omega)
    have G1 := fun W => negative_any s W (txt_size hs)
    have G2 := fun W => negative_any t W (txt_size ht)
    rw [txt_neg hs] at G1
    rw [txt_neg ht] at G2
    have l1 := dlen9 hs hls; have l2 := dlen9 ht hlt
    have P : ∀ v1 v2 W, DV W v1 (dgs x.natAbs) → DV W v2 (dgs y.natAbs) → Calls Tryz.prog 144 #[v1, v2] W (DRet (nl (x.natAbs * y.natAbs)) W) := fun v1 v2 W a b => by
      have := refTimes_any _ _ v1 v2 W a b (dgs_dg _) (dgs_dg _) l1 l2
      rwa [dv_dgs, dv_dgs] at this
    have MM : ∀ v W, DV W v (nl (x.natAbs * y.natAbs)) → Calls Tryz.prog 143 #[v, .bool (decide (x < 0) != decide (y < 0))] W (Bret (.string (str (Lib.itoa (x * y)))) W) := fun v W hv => by
      have hl : (nl (x.natAbs * y.natAbs)).length ≤ 1000000000 := by
        have h2 := nl_len_mul x.natAbs y.natAbs
        have h3 := nl_len_le x.natAbs; have h4 := nl_len_le y.natAbs
        have h5 := txt_len hs; have h6 := txt_len ht
        omega
      have := made_any (nl (x.natAbs * y.natAbs)) v (decide (x < 0) != decide (y < 0)) W hv (nl_small _) hl
      rwa [dv_limbs, madeZ_mul] at this
    have t0 := txt_len hs; have t9 := txt_len ht
    have l3 : (Lib.decDigits x.natAbs).length ≤ 100000000 := by omega
    have l4 : (Lib.decDigits y.natAbs).length ≤ 100000000 := by omega
    generalize (Lib.decDigits x.natAbs).length = a at *
    generalize (Lib.decDigits y.natAbs).length = b at *
    have t1 : decide ((a : Int) + (b : Int) ≤ 18) = false := decide_eq_false (by omega)
    generalize str (Lib.itoa (x * y)) = R at *
    generalize decide (x < 0) = p at *
    generalize decide (y < 0) = q at *
    have K1 := Lib.hid E1; have K2 := Lib.hid E2; have K3 := Lib.hid D1; have K4 := Lib.hid D2; have K5 := Lib.hid P; have K6 := Lib.hid G1; have K7 := Lib.hid G2; have K8 := Lib.hid MM
    clear E1 E2 D1 D2 P G1 G2 MM hs ht hls hlt h p1 p2 l1 l2 t0 t9
    go_enter Tryz.func88, Tryz.ntmps88
    go_wp2_with (go_at_call 118; refine (K1.out _).mono ?_; rintro e w1 ⟨rfl, h⟩; subst h; refine Hid.out ?_)
    refine Lib.hid ?_
    go_wp2_with (go_at_call 118; refine (K2.out _).mono ?_; rintro e w2 ⟨rfl, h⟩; subst h; refine Hid.out ?_)
    refine Lib.hid ?_
    go_wp2_with (go_at_call 145; refine (K3.out _).mono ?_; rintro e w3 ⟨v3, rfl, hv3, hb3⟩; refine Hid.out ?_)
    refine Lib.hid ?_
    go_wp2_with (go_at_call 145; refine (K4.out _).mono ?_; rintro e w4 ⟨v4, rfl, hv4, hb4⟩; refine Hid.out ?_)
    have hv3' := hv3.mono hb4
    refine Lib.hid ?_
    go_wp2_with (go_at_call 144; refine (K5.out _ _ _ hv3' hv4).mono ?_; rintro e w5 ⟨v5, rfl, hv5, hb5⟩; refine Hid.out ?_)
    refine Lib.hid ?_
    go_wp2_with (go_at_call 140; refine (K6.out _).mono ?_; rintro e w6 ⟨rfl, h⟩; subst h; refine Hid.out ?_)
    refine Lib.hid ?_
    go_wp2_with (go_at_call 140; refine (K7.out _).mono ?_; rintro e w7 ⟨rfl, h⟩; subst h; refine Hid.out ?_)
    refine Lib.hid ?_
    go_wp2_with (go_at_call 143; refine (K8.out _ _ hv5).mono ?_; rintro e w8 ⟨rfl, hb8⟩; refine Hid.out ?_)
    refine Lib.hid ?_
    go_wp2
    go_ret
    exact ⟨rfl, Below.chain hb3 (Below.chain hb4 (Below.chain hb5 hb8))⟩
end Go.Proofs.YtbadibbdoljjhaaGreatDoor

/-
  BigintChecks: the walk.
-/
namespace Go.Proofs.YtbadibbdoljjhaaGreatDoor
open Go Go.Proofs Go.RowKit

theorem itoa_zero : (Lib.itoa 0) = [48] := by rw [itoa_nonneg (by omega)]; exact dec0'
end Go.Proofs.YtbadibbdoljjhaaGreatDoor

/-
  Add, Sub, Mul of bigint and of the reference for all strings; BigintAdds: the walk.
-/
namespace Go.Proofs.YtbadibbdoljjhaaGreatDoor
open Go Go.Proofs Go.RowKit

/-- What an operation returns: the result, or the first error of both. -/
def opR (f : Int → Int → Int) (a b : List UInt8) : Value := if errBoth a b = 0 then resV (f (valZ a) (valZ b)) else errV (errBoth a b)
end Go.Proofs.YtbadibbdoljjhaaGreatDoor

/-
  Long division of decimal digits.
-/
namespace Go.Proofs.YtbadibbdoljjhaaGreatDoor
open Go Go.Proofs

theorem nl_drop (x k : Nat) : (nl x).drop k = nl (x / 10 ^ k) := by
  induction k generalizing x with
  | zero => simp
  | succ k ih =>
    by_cases h : x = 0
    · subst h; rw [Nat.zero_div, nl_zero]; rfl
    · rw [nl_pos h, List.drop_succ_cons, ih, Nat.pow_succ, Nat.mul_comm, Nat.div_div_eq_div_mul]
theorem nl_getD (x k : Nat) : (nl x).getD k 0 = x / 10 ^ k % 10 := by
  induction k generalizing x with
  | zero =>
    by_cases h : x = 0
    · subst h; rw [nl_zero]; rfl
    · rw [nl_pos h]; simp
  | succ k ih =>
    by_cases h : x = 0
    · subst h; rw [nl_zero]; simp
    · rw [nl_pos h, List.getD_cons_succ, ih, Nat.pow_succ, Nat.mul_comm, Nat.div_div_eq_div_mul]
theorem nl_cons_digit (d r : Nat) : dv (d :: nl r) = 10 * r + d := by
  simp only [dv]; rw [dv_limbs]; omega
theorem dg_cons_digit (d r : Nat) (h : d < 10) : Dg (d :: nl r) := Dg.cons h (nl_small r)
theorem nl_ge {x y n : Nat} (hy : y ≠ 0) (hn : n = (nl x).length + 1 - (nl y).length) : x / 10 ^ n < y := by
  have hne : nl y ≠ [] := fun e => hy (nl_nil_iff.1 e)
  have hp : 0 < (nl y).length := List.length_pos_iff.2 hne
  by_cases hl : (nl x).length < (nl y).length
  · have h := dlt_of_limbs_length hl
    exact Nat.lt_of_le_of_lt (Nat.div_le_self _ _) h
  · have h1 := dlt_pow_limbs x
    have h2 : 10 ^ ((nl y).length - 1) ≤ y := dpow_le_of_limbs (by omega)
    refine Nat.lt_of_lt_of_le ?_ h2
    refine Nat.div_lt_of_lt_mul ?_
    rw [← Nat.pow_add]
    have e : n + ((nl y).length - 1) = (nl x).length := by omega
    rw [e]; exact h1

/-- One place of a long division: the quotient and the remainder so far, and the next digit. -/
theorem place (x k : Nat) : x / 10 ^ k = 10 * (x / 10 ^ (k + 1)) + x / 10 ^ k % 10 := by
  have h := Nat.div_add_mod (x / 10 ^ k) 10
  have e : x / 10 ^ (k + 1) = x / 10 ^ k / 10 := by rw [Nat.pow_succ, Nat.div_div_eq_div_mul]
  rw [e]
  exact h.symm
theorem place_done (x y k r c : Nat) (hy : y ≠ 0) (h : r + c * y = 10 * (x / 10 ^ (k + 1) % y) + x / 10 ^ k % 10) (hr : r < y) :
    x / 10 ^ k % y = r ∧ x / 10 ^ k / y = c + 10 * (x / 10 ^ (k + 1) / y) := by
  have h1 := place x k
  have h2 := Nat.div_add_mod (x / 10 ^ (k + 1)) y
  generalize x / 10 ^ k = a at *
  generalize x / 10 ^ (k + 1) = b at *
  generalize b / y = q at *
  generalize b % y = m at *
  generalize a % 10 = d at *
  have e : a = y * (c + 10 * q) + r := by
    have e1 : y * (c + 10 * q) = c * y + 10 * (y * q) := by grind
    rw [h1, ← h2, e1]
    omega
  constructor
  · rw [e, Nat.mul_add_mod]; exact Nat.mod_eq_of_lt hr
  · rw [e, Nat.mul_add_div (by omega), Nat.div_eq_of_lt hr, Nat.add_zero]
theorem place_lt (x y k r c : Nat) (hy : y ≠ 0) (h : r + c * y = 10 * (x / 10 ^ (k + 1) % y) + x / 10 ^ k % 10) : c < 10 := by
  have h1 : x / 10 ^ (k + 1) % y < y := Nat.mod_lt _ (by omega)
  have h2 : x / 10 ^ k % 10 < 10 := Nat.mod_lt _ (by decide)
  generalize x / 10 ^ (k + 1) % y = m at *
  generalize x / 10 ^ k % 10 = d at *
  rcases Nat.lt_or_ge c 10 with h3 | h3
  · exact h3
  · exfalso
    have : 10 * y ≤ c * y := Nat.mul_le_mul_right _ h3
    omega

/-- The digits of the quotient, from place k on. -/
structure QuoInv (x y n k : Nat) (S : List Nat) : Prop where
  len : S.length = n
  dg : Dg S
  low : S.take k = List.replicate k 0
  val : dv (S.drop k) = x / 10 ^ k / y
theorem QuoInv.start (x y n : Nat) (hy : y ≠ 0) (hn : n = (nl x).length + 1 - (nl y).length) : QuoInv x y n n (List.replicate n 0) :=
  ⟨by simp, Dg.replicate _, by simp, by simp [dv, Nat.div_eq_of_lt (nl_ge hy hn)]⟩
theorem drop_cons_getD (S : List Nat) (k : Nat) (h : k < S.length) : S.drop k = S.getD k 0 :: S.drop (k + 1) := by
  rw [List.drop_eq_getElem_cons h, getD_lt _ _ h]
/-- Place k is filled. -/
theorem QuoInv.step {x y n k c r : Nat} {S S' : List Nat} (h : QuoInv x y n (k + 1) S) (hk : k < n) (hS : S' = S.set k c) (hy : y ≠ 0)
    (he : r + c * y = 10 * (x / 10 ^ (k + 1) % y) + x / 10 ^ k % 10) (hr : r < y) : QuoInv x y n k S' := by
  have hc := place_lt x y k r c hy he
  have hd := place_done x y k r c hy he hr
  subst hS
  have hkl : k < S.length := by rw [h.len]; exact hk
  refine ⟨by simp [h.len], h.dg.set _ _ hc, ?_, ?_⟩
  · have h1 := congrArg (List.take k) h.low
    rw [List.take_take, Nat.min_eq_left (Nat.le_succ k)] at h1
    rw [List.take_set_of_le (Nat.le_refl _), h1, List.take_replicate, Nat.min_eq_left (Nat.le_succ k)]
  · rw [drop_cons_getD _ _ (by simpa using hkl), getD_lt _ _ (by simpa using hkl), List.getElem_set_self, List.drop_set_of_lt (Nat.lt_succ_self k)]
    simp only [dv]
    rw [h.val, hd.2]
theorem QuoInv.zero {x y n k : Nat} {S : List Nat} (h : QuoInv x y n (k + 1) S) : S.getD k 0 = 0 := by
  by_cases hk : k < S.length
  · have h1 : (S.take (k + 1)).getD k 0 = 0 := by rw [h.low]; simp
    rwa [List.getD_eq_getElem?_getD, List.getElem?_take_of_lt (Nat.lt_succ_self k), ← List.getD_eq_getElem?_getD] at h1
  · exact getD_ge _ _ (by omega)
theorem QuoInv.done {x y n : Nat} {S : List Nat} (h : QuoInv x y n 0 S) : dv S = x / y := by
  have := h.val
  rwa [List.drop_zero, Nat.pow_zero, Nat.div_one] at this
end Go.Proofs.YtbadibbdoljjhaaGreatDoor

/-
  The reference: cut and minus, with what is known of the result's memory.
-/
namespace Go.Proofs.YtbadibbdoljjhaaGreatDoor
open Go Go.Proofs Go.RowKit

/-- A list whose block is not older than base. -/
def DVF (base : Nat) (w : World) (v : Value) (l : List Nat) : Prop := ∃ b o c, v = .slice (some ⟨b, o, none⟩) l.length c ∧ DAt w (some ⟨b, o, none⟩) c l ∧ base ≤ b
def DRetF (l : List Nat) (w : World) (e : Ending) (w' : World) : Prop := ∃ v, e = .returned v ∧ DVF w.heap.size w' v l ∧ Below w.heap.size w w'
theorem DVF.dv {B : Nat} {w : World} {v : Value} {l : List Nat} (h : DVF B w v l) : DV w v l := by
  obtain ⟨b, o, c, he, hr, -⟩ := h
  exact ⟨_, c, he, hr⟩
theorem DVF.mono {B : Nat} {w w' : World} {v : Value} {l : List Nat} (h : DVF B w v l) (hb : Below w.heap.size w w') : DVF B w' v l := by
  obtain ⟨b, o, c, he, hr, hf⟩ := h
  exact ⟨b, o, c, he, hr.mono hb, hf⟩
theorem DVF.le {B B' : Nat} {w : World} {v : Value} {l : List Nat} (h : DVF B w v l) (hb : B' ≤ B) : DVF B' w v l := by
  obtain ⟨b, o, c, he, hr, hf⟩ := h
  exact ⟨b, o, c, he, hr, Nat.le_trans hb hf⟩
/-- A store into an older block. -/
theorem DVF.set {B : Nat} {w : World} {v : Value} {l : List Nat} (h : DVF B w v l) {g : Nat} (hg : g < B) (k : Nat) (u : Value) : DVF B (w.setCell ⟨g, k, none⟩ u) v l := by
  obtain ⟨b, o, c, he, ⟨h1, h2, h3⟩, hf⟩ := h
  refine ⟨b, o, c, he, ⟨h1, h2, ?_⟩, hf⟩
  rcases h3 with h3 | ⟨b', off, hb, hlt, hc⟩
  · exact .inl h3
  · injection hb with hb
    injection hb with e1 e2 _
    subst e1; subst e2
    refine .inr ⟨b, o, rfl, by simpa [World.setCell] using hlt, fun j hj => ?_⟩
    rw [World.cell?_setCell_other (h := by simp <;> omega)]
    exact hc j hj
theorem dvf_of_owns {w : World} {base : Nat} {v : Value} {n : Nat} {l : List Nat} (h : w.ownsRow base 3 1 v n (dcellsOf l)) (hne : v ≠ .slice none 0 0) : DVF base w v l := by
  have h' := h
  obtain ⟨ao, c, he, hr⟩ := drow_of_owns h
  rcases h'.2 with ⟨h2, -⟩ | ⟨g, cap, cur, hv, hb, -⟩
  · exact absurd h2 hne
  · rw [he] at hv
    injection hv with e1 e2 e3
    subst e1; subst e3
    exact ⟨g, 0, _, he, hr, hb⟩
theorem owns_ne {w : World} {base : Nat} {v : Value} {n : Nat} {xs : List Value} (h : w.ownsRow base 3 1 v n xs) (hn : 0 < n) : v ≠ .slice none 0 0 := by
  intro e
  rcases h.2 with ⟨-, h0⟩ | ⟨g, cap, cur, hv, -⟩
  · omega
  · rw [e] at hv; injection hv with e1 _ _; cases e1

set_option maxHeartbeats 1000000 in
theorem cut_at (l : List Nat) (ao : Option Addr) (c : Nat) (w : World) (hr : DAt w ao c l) (hs : Dg l) (hb : l.length ≤ 1000000000000) :
    Calls Tryz.prog 149 #[.slice ao l.length c] w fun e w' => e = .returned (.slice ao (keep l) c) ∧ w' = w := by
  have hkl := keep_le l
  have hres : ∀ r, r = keep l → keep l = r := fun r hr' => hr'.symm
  have h1 := hr.1; have h2 := hr.2.1
  have hzero : keep (l.take 0) = keep l → keep l = 0 := fun h => by rw [← h]; rfl
  have hk0 : keep (l.take l.length) = keep l := by rw [List.take_length]
  by_cases hne : l = []
  · subst hne
    clear hres hkl h1 hzero hk0 hr hs hb
    rw [show keep [] = 0 from rfl]
    have hnil : ([] : List Nat).length = 0 := rfl
    rw [hnil]
    go_enter Tryz.func149, Tryz.ntmps149
    go_wp2_with fail
    go_rounds 1
    go_ret
    exact ⟨rfl, rfl⟩
  · obtain ⟨d, hd, hdb, hxc⟩ := hr.open hs
    obtain ⟨b, off, rfl, hb', hxc⟩ := hxc.resolve_left hne
    have hstep : ∀ k, k < l.length → keep (l.take (k + 1)) = keep l → d k = 0 → keep (l.take k) = keep l := fun k hk h h0 => keep_take hk (by have := hd k hk; omega) h
    have hlast : ∀ k, k < l.length → keep (l.take (k + 1)) = keep l → d k ≠ 0 → keep l = k + 1 := fun k hk h h0 => keep_last hk (by have := hd k hk; omega) h
    generalize hK : (fun k => keep (l.take k) = keep l) = K
    have hK' : ∀ k, (keep (l.take k) = keep l) = K k := fun k => congrFun hK k
    simp only [hK'] at hk0 hstep hlast hzero
    clear hK hK' hd hr hs hne
    generalize keep l = r at *
    generalize l.length = n at *
    have HS := Lib.hid hstep; have HL := Lib.hid hlast; have HZ := Lib.hid hzero; have HK := Lib.hid hk0; have HX := Lib.hid hxc; have HRES := Lib.hid hres
    clear hstep hlast hzero hk0 hxc hdb hres
    go_enter Tryz.func149, Tryz.ntmps149
    go_wp2_with fail
    go_loop [3] (fun v => ∃ k : Nat, k ≤ n ∧ v = .int .i64 k ∧ K k) (fun v => (intOf v).toNat)
    case atStart => exact ⟨n, Nat.le_refl _, rfl, HK.out⟩
    case round =>
      obtain ⟨k, hk, rfl, hKk⟩ := hrel
      have HKk := Lib.hid hKk; clear hKk
      rcases Nat.eq_zero_or_pos k with rfl | hk1
      · have hr0 : r = 0 := HZ.out HKk.out
        subst hr0
        clear HRES
        go_wp2
        go_ret
        exact ⟨rfl, rfl⟩
      · obtain ⟨j, rfl⟩ : ∃ j, k = j + 1 := ⟨k - 1, by omega⟩
        have c1 : w.cell? ⟨b, off + j, none⟩ = some (.int .i64 (d j)) := HX.out j (by omega)
        by_cases h0 : d j = 0
        · have hz : (d j == 0) = true := by simp [h0]
          have H0 := Lib.hid h0; clear h0
          go_wp2
          go_round
          case rel => exact ⟨j, by omega, by go_num, HS.out j (by omega) HKk.out H0.out⟩
          case measure => simp [intOf]
        · have hz : (d j == 0) = false := by simp [h0]
          have hr1 : r = j + 1 := HL.out j (by omega) HKk.out h0
          subst hr1
          clear HRES h0
          go_wp2
          go_ret
          exact ⟨rfl, rfl⟩


theorem keep_nl {l : List Nat} (hs : Dg l) : keep l = (nl (dv l)).length := by
  have := keep_le l
  rw [← dtake_keep hs]; simp; omega
theorem cut_fresh (l : List Nat) (v : Value) (w : World) (B : Nat) (hv : DVF B w v l) (hs : Dg l) (hb : l.length ≤ 1000000000000) :
    Calls Tryz.prog 149 #[v] w fun e w' => ∃ v', e = .returned v' ∧ DVF B w v' (nl (dv l)) ∧ w' = w := by
  obtain ⟨b, o, c, rfl, hr, hf⟩ := hv
  refine (cut_at l _ c w hr hs hb).mono fun e w' h => ⟨_, h.1, ⟨b, o, c, by rw [keep_nl hs], ?_, hf⟩, h.2⟩
  rw [← dtake_keep hs]; exact hr.take _ (keep_le l)

set_option maxHeartbeats 4000000 in
theorem refMinus_fresh (X Y : List Nat) (vx vy : Value) (w : World) (hx : DV w vx X) (hy : DV w vy Y) (hX : Dg X) (hY : Dg Y) (hlx : X.length ≤ 1000000000) (hle : dv Y ≤ dv X) (hX0 : X ≠ []) :
    Calls Tryz.prog 196 #[vx, vy] w (DRetF (nl (dv X - dv Y)) w) := by
  obtain ⟨i0, hi, hz0, hz1, hz2⟩ := info_parts dinfoU32
  have A2 : ∀ i : Nat, i ≤ 9223372036854775807 → ∀ W, Below w.heap.size w W → Calls Tryz.prog 227 #[vy, .int .i64 i] W fun e w' => e = .returned (.int .i64 (Y.getD i 0 : Nat)) ∧ w' = W := fun i hi W hW => at_any Y vy i W (hy.mono hW) hi
  have hdX := fun i => hX.getD i
  have hdY := fun i => hY.getD i
  have hst : ∀ (s : List Nat) (i c : Nat), MinusInv X Y s i c → (X.getD i 0 < Y.getD i 0 + c → MinusInv X Y (s ++ [X.getD i 0 + 10 - (Y.getD i 0 + c)]) (i + 1) 1) ∧ (¬ X.getD i 0 < Y.getD i 0 + c → MinusInv X Y (s ++ [X.getD i 0 - (Y.getD i 0 + c)]) (i + 1) 0) := fun s i c h => h.step hX hY
  have hdn : ∀ (s : List Nat) (c : Nat), MinusInv X Y s X.length c → dv s = dv X - dv Y := fun s c h => h.done hX hle
  have hs0 := MinusInv.start X Y
  obtain ⟨ao, cx, rfl, hx⟩ := hx
  obtain ⟨ap, cy, rfl, -⟩ := hy
  have HXR : ∀ i, i < X.length → ∃ bx ox, ao = some ⟨bx, ox, none⟩ ∧ bx < w.heap.size ∧ w.cell? ⟨bx, ox + i, none⟩ = some (.int .i64 (X.getD i 0 : Nat)) := fun i hi => by
    have hne : X ≠ [] := fun e => by rw [e] at hi; simp at hi
    obtain ⟨bx, ox, rfl⟩ := hx.addr hne
    exact ⟨bx, ox, rfl, hx.block hne, hx.get i hi⟩
  have hcx := hx.1; have hcx2 := hx.2.1
  have CC : ∀ (S : List Nat) (v : Value) (W : World) (B : Nat), DVF B W v S → Dg S → S.length ≤ 1000000000000 → Calls Tryz.prog 149 #[v] W fun e w' => ∃ v', e = .returned v' ∧ DVF B W v' (nl (dv S)) ∧ w' = W := fun S v W B h1 h2 h3 => cut_fresh S v W B h1 h2 h3
  have hpos : 0 < X.length := List.length_pos_iff.2 hX0
  generalize X.length = n at *
  generalize Y.length = m at *
  have KA2 := Lib.hid A2; have KX := Lib.hid hdX; have KY := Lib.hid hdY; have KST := Lib.hid hst; have KDN := Lib.hid hdn; have KS0 := Lib.hid hs0; have KC := Lib.hid CC; have KR := Lib.hid HXR
  clear A2 hdX hdY hst hdn hs0 CC hX hY hx HXR hle hX0
  go_enter Tryz.func196, Tryz.ntmps196
  go_wp2_with fail
  go_loopw [5, 6, 7] (fun v cv iv wr => ∃ (i c : Nat) (S : List Nat), i ≤ n ∧ iv = .int .i64 i ∧ cv = .int .i64 c ∧ MinusInv X Y S i c ∧ wr.ownsRow w.heap.size 3 1 v S.length (dcellsOf S) ∧ Below w.heap.size w wr) (fun _ _ iv _ => n - (intOf iv).toNat)
  case atStart => exact ⟨0, 0, [], by omega, rfl, rfl, KS0.out, World.ownsRow_nil _ _ _ _, Below.refl _ _⟩
  case round =>
    obtain ⟨i, c, S, hi1, rfl, rfl, hinv, hown, hbw⟩ := hrel
    have hc := hinv.carry
    have hln := hinv.len
    have HI := Lib.hid hinv; have HL := Lib.hid hln; clear hinv hln
    by_cases hlt : i < n
    · have hx9 := KX.out i; have hy9 := KY.out i
      have a2 := KA2.out i (by omega)
      have hstp := KST.out S i c HI.out
      have hSl : S.length ≤ 1000000001 := by rw [HL.out]; omega
      obtain ⟨bx, ox, rfl, hbx, hcell⟩ := KR.out i hlt
      have cx1 : wr.cell? ⟨bx, ox + i, none⟩ = some (.int .i64 (X.getD i 0 : Nat)) := (hbw.cell (p := ⟨bx, ox + i, none⟩) hbx).trans hcell
      generalize X.getD i 0 = xd at *
      generalize Y.getD i 0 = yd at *
      have A2 := Lib.hid a2; have HST := Lib.hid hstp; have HBW := Lib.hid hbw; have HOW := Lib.hid hown
      clear a2 hstp hcell hown
      by_cases hneg : xd < yd + c
      · have t1 : decide ((xd : Int) - (yd : Int) - (c : Int) < 0) = true := decide_eq_true (by omega)
        have h1 := HST.out.1 hneg
        have H1 := Lib.hid h1; clear h1 HST
        obtain ⟨d, hd⟩ : ∃ d : Nat, d = xd + 10 - (yd + c) := ⟨_, rfl⟩
        rw [← hd] at H1
        have hdi : (xd : Int) - (yd : Int) - (c : Int) + 10 = (d : Int) := by omega
        have hd9 : d < 10 := by omega
        have HDI := Lib.hid hdi
        clear hd hdi
        go_wp2
        go_quiet ((go_at_call 227; exact Calls.quiet_of_same (A2.out _ (HBW.out.trans (below_drewN (Below.refl _ _) _)))))
        have hbw1 := hbw.trans (below_drewN (Below.refl _ _) nq)
        have hown := ownsRow_drewN HOW.out nq
        generalize wr.drewN nq = W1 at *
        go_wp2_with (at_builtin; refine wpList_append_own _ rfl _ _ 130 rfl w.heap.size 3 i0 (.int .i64 0) 1 8 Tryz.underlying130 hi hz0 hz1 hz2 rfl (by decide) _ _ _ rfl (hown.alloc _) ⟨W1.heap.size, 0, none⟩ 1 1 [.int .i64 ((xd : Int) - (yd : Int) - (c : Int) + 10)] rfl rfl ?c1 ?c2 ?c3 ?c4 ?c5 ?_)
        case c1 => intro j u hj; match j, hj with | 0, hj => (simp at hj; subst hj; simp [Addr.add])
        case c2 => intro u hu; simp at hu; subst hu; rfl
        case c3 => unfold maxLen; omega
        case c4 => omega
        case c5 => have := hbw1.size; simp; omega
        intro v' w2 hown' hgrow _
        go_wp2
        go_roundw
        case rel =>
          refine ⟨i + 1, 1, S ++ [d], by omega, by go_num, rfl, H1.out, ?_, ?_⟩
          · rw [HDI.out] at hown'
            rw [dcellsOf_append, List.length_append]; exact hown'
          · exact hbw1.trans (((Below.refl _ _).alloc (by have := hbw1.size; omega) _).grown hgrow (by have := hbw1.size; simp; omega) (fun k hk => ((hown.lt k hk)).1))
        case measure => simp [intOf]; omega
      · have t1 : decide ((xd : Int) - (yd : Int) - (c : Int) < 0) = false := decide_eq_false (by omega)
        have h1 := HST.out.2 hneg
        have H1 := Lib.hid h1; clear h1 HST
        obtain ⟨d, hd⟩ : ∃ d : Nat, d = xd - (yd + c) := ⟨_, rfl⟩
        rw [← hd] at H1
        have hdi : (xd : Int) - (yd : Int) - (c : Int) = (d : Int) := by omega
        have hd9 : d < 10 := by omega
        have HDI := Lib.hid hdi
        clear hd hdi
        go_wp2
        go_quiet ((go_at_call 227; exact Calls.quiet_of_same (A2.out _ (HBW.out.trans (below_drewN (Below.refl _ _) _)))))
        have hbw1 := hbw.trans (below_drewN (Below.refl _ _) nq)
        have hown := ownsRow_drewN HOW.out nq
        generalize wr.drewN nq = W1 at *
        go_wp2_with (at_builtin; refine wpList_append_own _ rfl _ _ 130 rfl w.heap.size 3 i0 (.int .i64 0) 1 8 Tryz.underlying130 hi hz0 hz1 hz2 rfl (by decide) _ _ _ rfl (hown.alloc _) ⟨W1.heap.size, 0, none⟩ 1 1 [.int .i64 ((xd : Int) - (yd : Int) - (c : Int))] rfl rfl ?c1 ?c2 ?c3 ?c4 ?c5 ?_)
        case c1 => intro j u hj; match j, hj with | 0, hj => (simp at hj; subst hj; simp [Addr.add])
        case c2 => intro u hu; simp at hu; subst hu; rfl
        case c3 => unfold maxLen; omega
        case c4 => omega
        case c5 => have := hbw1.size; simp; omega
        intro v' w2 hown' hgrow _
        go_wp2
        go_roundw
        case rel =>
          refine ⟨i + 1, 0, S ++ [d], by omega, by go_num, rfl, H1.out, ?_, ?_⟩
          · rw [HDI.out] at hown'
            rw [dcellsOf_append, List.length_append]; exact hown'
          · exact hbw1.trans (((Below.refl _ _).alloc (by have := hbw1.size; omega) _).grown hgrow (by have := hbw1.size; simp; omega) (fun k hk => ((hown.lt k hk)).1))
        case measure => simp [intOf]; omega
    · have hin : i = n := by omega
      subst hin
      have hd := KDN.out S c HI.out
      have hg := HI.out.dg
      have hc0 := KC.out S _ _ _ (dvf_of_owns hown (owns_ne hown (by rw [HL.out]; exact hpos))) hg (by rw [HL.out]; omega)
      obtain ⟨ar, cr, rfl, hr⟩ := drow_of_owns hown
      rw [hd] at hc0
      have K := Lib.hid hc0; have HB := Lib.hid hbw
      clear hd hg hr hc0 hown hbw
      go_wp2_with (go_at_call 149; refine K.out.mono ?_; rintro e w1 ⟨v1, rfl, hv1, h⟩; subst h; refine Hid.out ?_)
      refine Lib.hid ?_
      go_wp2
      go_ret
      exact ⟨_, rfl, hv1, HB.out⟩
end Go.Proofs.YtbadibbdoljjhaaGreatDoor
