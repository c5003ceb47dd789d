import Derived.Test.YtbadibbdoljjhaaGreatDoorBase20
import Derived.Test.YtbadibbdoljjhaaGreatDoorBase19

set_option linter.unusedVariables false
/-
  The reference: Sum, Diff, Product, limited, Add, Sub, Mul.
-/
namespace Go.Proofs.YtbadibbdoljjhaaGreatDoor
open Go Go.Proofs Go.RowKit

theorem madeZ_same {x y : Int} {p : Bool} (hx : decide (x < 0) = p) (hy : decide (y < 0) = p) : madeZ p (x.natAbs + y.natAbs) = x + y := by
  cases p
  · rw [decide_eq_false_iff_not] at hx hy; simp only [madeZ]; simp; omega
  · rw [decide_eq_true_eq] at hx hy; simp only [madeZ]; simp; omega
theorem madeZ_left {x y : Int} {p q : Bool} (hx : decide (x < 0) = p) (hy : decide (y < 0) = q) (hpq : p ≠ q) (h : y.natAbs ≤ x.natAbs) : madeZ p (x.natAbs - y.natAbs) = x + y := by
  cases p <;> cases q
  · exact absurd rfl hpq
  · rw [decide_eq_false_iff_not] at hx; rw [decide_eq_true_eq] at hy; simp only [madeZ]; simp; omega
  · rw [decide_eq_false_iff_not] at hy; rw [decide_eq_true_eq] at hx; simp only [madeZ]; simp; omega
  · exact absurd rfl hpq
theorem cmpN_ge {x y : Nat} (h : decide (0 ≤ cmpN x y) = true) : y ≤ x := by
  rw [decide_eq_true_eq] at h
  unfold cmpN at h
  by_cases h1 : x < y
  · rw [if_pos h1] at h; omega
  · omega
theorem cmpN_lt {x y : Nat} (h : decide (0 ≤ cmpN x y) = false) : x ≤ y := by
  rw [decide_eq_false_iff_not] at h
  unfold cmpN at h
  by_cases h1 : x < y
  · omega
  · exfalso; rw [if_neg h1] at h; split at h <;> omega
theorem dec17 {z : Int} (h : (Lib.decDigits z.natAbs).length ≤ 17) : z.natAbs < 100000000000000000 := by
  have h1 := dec_lt (allDig_decDigits z.natAbs)
  rw [dec_decDigits] at h1
  exact Nat.lt_of_lt_of_le h1 (Nat.le_trans (Nat.pow_le_pow_right (by decide) h) (by decide))
theorem nl_len_add (x y : Nat) : (nl (x + y)).length ≤ (nl x).length + (nl y).length + 1 := by
  refine nl_length_le ?_
  have h1 := dlt_pow_limbs x; have h2 := dlt_pow_limbs y
  have p1 : (10 : Nat) ^ (nl x).length ≤ 10 ^ ((nl x).length + (nl y).length) := Nat.pow_le_pow_right (by decide) (by omega)
  have p2 : (10 : Nat) ^ (nl y).length ≤ 10 ^ ((nl x).length + (nl y).length) := Nat.pow_le_pow_right (by decide) (by omega)
  rw [Nat.pow_succ]
  generalize (10 : Nat) ^ ((nl x).length + (nl y).length) = p at *
  omega
theorem dlen9 {s : ByteArray} {z : Int} (h : bytes s = Lib.itoa z) (hs : s.size ≤ 100000000) : (dgs z.natAbs).length ≤ 1000000000 := by
  rw [dgs_length]
  have := txt_len h
  omega

set_option maxHeartbeats 8000000 in
theorem sum_short (s t : ByteArray) (x y : Int) (w : World) (hs : bytes s = Lib.itoa x) (ht : bytes t = Lib.itoa y) (hls : s.size ≤ 100000000) (hlt : t.size ≤ 100000000)
    (h1 : (Lib.decDigits x.natAbs).length ≤ 17) (h2 : (Lib.decDigits y.natAbs).length ≤ 17) :
    Calls Tryz.prog 164 #[.string s, .string t] w (Bret (.string (str (Lib.itoa (x + y)))) w) := by
  have S1 := fun W => shortT s x 17 W hs (by omega) (by decide)
  have S2 := fun W => shortT t y 17 W ht (by omega) (by decide)
  have N1 := fun W => number_any s x W hs (by omega)
  have N2 := fun W => number_any t y W ht (by omega)
  have b1 := dec17 h1; have b2 := dec17 h2
  have WW := fun W => whole_any (x + y) W (by omega) (by omega)
  rw [decide_eq_true h1] at S1
  rw [decide_eq_true h2] at S2
  generalize str (Lib.itoa (x + y)) = R at *
  have K1 := Lib.hid S1; have K2 := Lib.hid S2; have K3 := Lib.hid N1; have K4 := Lib.hid N2; have K5 := Lib.hid WW
  have x1 : -100000000000000000 ≤ x := by omega
  have x2 : x ≤ 100000000000000000 := by omega
  have y1 : -100000000000000000 ≤ y := by omega
  have y2 : y ≤ 100000000000000000 := by omega
  clear S1 S2 N1 N2 WW h1 h2 hs ht hls hlt b1 b2
  go_enter Tryz.func164, Tryz.ntmps164
  go_wp2_with (go_at_call 146; refine (K1.out _).mono ?_; rintro e w1 ⟨rfl, h⟩; subst h; refine Hid.out ?_)
  refine Lib.hid ?_
  go_wp2_with (go_at_call 146; refine (K2.out _).mono ?_; rintro e w2 ⟨rfl, h⟩; subst h; refine Hid.out ?_)
  refine Lib.hid ?_
  go_wp2_with (go_at_call 142; refine (K3.out _).mono ?_; rintro e w3 ⟨rfl, h⟩; subst h; refine Hid.out ?_)
  refine Lib.hid ?_
  go_wp2_with (go_at_call 142; refine (K4.out _).mono ?_; rintro e w4 ⟨rfl, h⟩; subst h; refine Hid.out ?_)
  refine Lib.hid ?_
  go_wp2_with (go_at_call 141; refine (K5.out _).mono ?_; rintro e w5 ⟨rfl, h⟩; subst h; refine Hid.out ?_)
  refine Lib.hid ?_
  go_wp2
  go_ret
  exact ⟨rfl, Below.refl _ _⟩

set_option maxHeartbeats 16000000 in
theorem sum_long (s t : ByteArray) (x y : Int) (w : World) (hs : bytes s = Lib.itoa x) (ht : bytes t = Lib.itoa y) (hls : s.size ≤ 100000000) (hlt : t.size ≤ 100000000)
    (h12 : ¬ ((Lib.decDigits x.natAbs).length ≤ 17 ∧ (Lib.decDigits y.natAbs).length ≤ 17)) :
    Calls Tryz.prog 164 #[.string s, .string t] w (Bret (.string (str (Lib.itoa (x + y)))) w) := by
  have S1 := fun W => shortT s x 17 W hs (by omega) (by decide)
  have S2 := fun W => shortT t y 17 W ht (by omega) (by decide)
  have D1 := fun W => refDigits_txt s x W hs (by omega)
  have D2 := fun W => refDigits_txt t y W ht (by omega)
  have G1 := fun W => negative_any s W (txt_size hs)
  have G2 := fun W => negative_any t W (txt_size ht)
  rw [txt_neg hs] at G1
  rw [txt_neg ht] at G2
  have l1 := dlen9 hs hls; have l2 := dlen9 ht hlt
  have P : ∀ v1 v2 W, DV W v1 (dgs x.natAbs) → DV W v2 (dgs y.natAbs) → Calls Tryz.prog 209 #[v1, v2] W (DRet (nl (x.natAbs + y.natAbs)) W) := fun v1 v2 W a b => by
    have := refPlus_any _ _ v1 v2 W a b (dgs_dg _) (dgs_dg _) l1 l2
    rwa [dv_dgs, dv_dgs] at this
  have M1 : y.natAbs ≤ x.natAbs → ∀ v1 v2 W, DV W v1 (dgs x.natAbs) → DV W v2 (dgs y.natAbs) → Calls Tryz.prog 196 #[v1, v2] W (DRet (nl (x.natAbs - y.natAbs)) W) := fun h v1 v2 W a b => by
    have := refMinus_any _ _ v1 v2 W a b (dgs_dg _) (dgs_dg _) l1 (by rw [dv_dgs, dv_dgs]; exact h)
    rwa [dv_dgs, dv_dgs] at this
  have M2 : x.natAbs ≤ y.natAbs → ∀ v1 v2 W, DV W v1 (dgs y.natAbs) → DV W v2 (dgs x.natAbs) → Calls Tryz.prog 196 #[v1, v2] W (DRet (nl (y.natAbs - x.natAbs)) W) := fun h v1 v2 W a b => by
    have := refMinus_any _ _ v1 v2 W a b (dgs_dg _) (dgs_dg _) l2 (by rw [dv_dgs, dv_dgs]; exact h)
    rwa [dv_dgs, dv_dgs] at this
  have U1 : ∀ v W, DV W v (dgs x.natAbs) → Calls Tryz.prog 149 #[v] W fun e w' => ∃ v', e = .returned v' ∧ DV W v' (nl x.natAbs) ∧ w' = W := fun v W hv => by
    have := cut_any _ v W hv (dgs_dg _) (by omega)
    rwa [dv_dgs] at this
  have U2 : ∀ v W, DV W v (dgs y.natAbs) → Calls Tryz.prog 149 #[v] W fun e w' => ∃ v', e = .returned v' ∧ DV W v' (nl y.natAbs) ∧ w' = W := fun v W hv => by
    have := cut_any _ v W hv (dgs_dg _) (by omega)
    rwa [dv_dgs] at this
  have O := fun vx vy W hx hy => refOrder_any x.natAbs y.natAbs vx vy W hx hy
  have MM : ∀ (a : Nat) (b : Bool), a ≤ x.natAbs + y.natAbs → ∀ v W, DV W v (nl a) → Calls Tryz.prog 143 #[v, .bool b] W (Bret (.string (str (Lib.itoa (madeZ b a)))) W) := fun a b ha v W hv => by
    have hl : (nl a).length ≤ 1000000000 := by
      have h1 := nl_length_mono ha
      have h2 := nl_len_add x.natAbs y.natAbs
      have h3 := nl_len_le x.natAbs; have h4 := nl_len_le y.natAbs
      have h5 := txt_len hs; have h6 := txt_len ht
      omega
    have := made_any (nl a) v b W hv (nl_small a) hl
    rwa [dv_limbs] at this
  obtain ⟨p, hp⟩ : ∃ p, decide (x < 0) = p := ⟨_, rfl⟩
  obtain ⟨q, hq⟩ : ∃ q, decide (y < 0) = q := ⟨_, rfl⟩
  have z1 : p = q → str (Lib.itoa (madeZ p (x.natAbs + y.natAbs))) = str (Lib.itoa (x + y)) := fun e => by rw [madeZ_same hp (hq.trans e.symm)]
  have z2 : p ≠ q → decide (0 ≤ cmpN x.natAbs y.natAbs) = true → str (Lib.itoa (madeZ p (x.natAbs - y.natAbs))) = str (Lib.itoa (x + y)) := fun e h => by rw [madeZ_left hp hq e (cmpN_ge h)]
  have z3 : p ≠ q → decide (0 ≤ cmpN x.natAbs y.natAbs) = false → str (Lib.itoa (madeZ q (y.natAbs - x.natAbs))) = str (Lib.itoa (x + y)) := fun e h => by rw [madeZ_left hq hp e.symm (cmpN_lt h), Int.add_comm]
  have M1' := fun h => M1 (cmpN_ge h)
  have M2' := fun h => M2 (cmpN_lt h)
  have MA := MM (x.natAbs + y.natAbs) p (Nat.le_refl _)
  have MB := MM (x.natAbs - y.natAbs) p (by omega)
  have MC := MM (y.natAbs - x.natAbs) q (by omega)
  rw [hp] at G1
  rw [hq] at G2
  generalize str (Lib.itoa (madeZ p (x.natAbs + y.natAbs))) = R1 at *
  generalize str (Lib.itoa (madeZ p (x.natAbs - y.natAbs))) = R2 at *
  generalize str (Lib.itoa (madeZ q (y.natAbs - x.natAbs))) = R3 at *
  generalize str (Lib.itoa (x + y)) = R at *
  generalize cmpN x.natAbs y.natAbs = r at *
  obtain ⟨c1, hc1⟩ : ∃ c1, decide ((Lib.decDigits x.natAbs).length ≤ 17) = c1 := ⟨_, rfl⟩
  obtain ⟨c2, hc2⟩ : ∃ c2, decide ((Lib.decDigits y.natAbs).length ≤ 17) = c2 := ⟨_, rfl⟩
  rw [hc1] at S1
  rw [hc2] at S2
  have hcc : c1 = false ∨ (c1 = true ∧ c2 = false) := by
    by_cases a : (Lib.decDigits x.natAbs).length ≤ 17
    · right
      refine ⟨by rw [← hc1]; exact decide_eq_true a, ?_⟩
      rw [← hc2]; exact decide_eq_false (fun b => h12 ⟨a, b⟩)
    · left; rw [← hc1]; exact decide_eq_false a
  have K1 := Lib.hid S1; have K2 := Lib.hid S2; have K3 := Lib.hid D1; have K4 := Lib.hid D2; have K5 := Lib.hid G1; have K6 := Lib.hid G2; have K7 := Lib.hid P; have K8 := Lib.hid U1; have K9 := Lib.hid U2; have K10 := Lib.hid O; have K11 := Lib.hid MA; have K12 := Lib.hid MB; have K13 := Lib.hid MC; have HM1 := Lib.hid M1'; have HM2 := Lib.hid M2'; have Z1 := Lib.hid z1; have Z2 := Lib.hid z2; have Z3 := Lib.hid z3
  clear S1 S2 D1 D2 G1 G2 P U1 U2 O MM MA MB MC M1 M2 M1' M2' z1 z2 z3 hp hq hc1 hc2 h12 hs ht hls hlt l1 l2
  rcases hcc with rfl | ⟨rfl, rfl⟩
  · by_cases hpq : p = q
    · subst hpq
      have HR := Z1.out rfl; clear Z1 Z2 Z3; subst HR
      go_enter Tryz.func164, Tryz.ntmps164
      go_wp2_with (go_at_call 146; refine (K1.out _).mono ?_; rintro e w1 ⟨rfl, h⟩; subst h; refine Hid.out ?_)
      refine Lib.hid ?_
      go_wp2_with (go_at_call 145; refine (K3.out _).mono ?_; rintro e w3 ⟨v3, rfl, hv3, hb3⟩; refine Hid.out ?_)
      refine Lib.hid ?_
      go_wp2_with (go_at_call 145; refine (K4.out _).mono ?_; rintro e w4 ⟨v4, rfl, hv4, hb4⟩; refine Hid.out ?_)
      refine Lib.hid ?_
      have hv3' := hv3.mono hb4; have hb34 := Below.chain hb3 hb4; clear hv3 hb3 hb4
      go_wp2_with (go_at_call 140; refine (K5.out _).mono ?_; rintro e w5 ⟨rfl, h⟩; subst h; refine Hid.out ?_)
      refine Lib.hid ?_
      go_wp2_with (go_at_call 140; refine (K6.out _).mono ?_; rintro e w6 ⟨rfl, h⟩; subst h; refine Hid.out ?_)
      refine Lib.hid ?_
      go_wp2_with (go_at_call 209; refine (K7.out _ _ _ hv3' hv4).mono ?_; rintro e w7 ⟨v7, rfl, hv7, hb7⟩; refine Hid.out ?_)
      refine Lib.hid ?_
      go_wp2_with (go_at_call 140; refine (K5.out _).mono ?_; rintro e w8 ⟨rfl, h⟩; subst h; refine Hid.out ?_)
      refine Lib.hid ?_
      go_wp2_with (go_at_call 143; refine (K11.out _ _ hv7).mono ?_; rintro e w9 ⟨rfl, hb9⟩; refine Hid.out ?_)
      refine Lib.hid ?_
      go_wp2
      go_ret
      exact ⟨rfl, Below.chain hb34 (Below.chain hb7 hb9)⟩
    · have hb : (p == q) = false := by rw [beq_eq_false_iff_ne]; exact hpq
      cases hr : decide (0 ≤ r)
      · have KM := Lib.hid (HM2.out hr); have HR := Z3.out hpq hr; clear Z1 Z2 Z3 HM1 HM2 hpq; subst HR
        go_enter Tryz.func164, Tryz.ntmps164
        go_wp2_with (go_at_call 146; refine (K1.out _).mono ?_; rintro e w1 ⟨rfl, h⟩; subst h; refine Hid.out ?_)
        refine Lib.hid ?_
        go_wp2_with (go_at_call 145; refine (K3.out _).mono ?_; rintro e w3 ⟨v3, rfl, hv3, hb3⟩; refine Hid.out ?_)
        refine Lib.hid ?_
        go_wp2_with (go_at_call 145; refine (K4.out _).mono ?_; rintro e w4 ⟨v4, rfl, hv4, hb4⟩; refine Hid.out ?_)
        refine Lib.hid ?_
        have hv3' := hv3.mono hb4; have hb34 := Below.chain hb3 hb4; clear hv3 hb3 hb4
        go_wp2_with (go_at_call 140; refine (K5.out _).mono ?_; rintro e w5 ⟨rfl, h⟩; subst h; refine Hid.out ?_)
        refine Lib.hid ?_
        go_wp2_with (go_at_call 140; refine (K6.out _).mono ?_; rintro e w6 ⟨rfl, h⟩; subst h; refine Hid.out ?_)
        refine Lib.hid ?_
        go_wp2_with (go_at_call 149; refine (K8.out _ _ hv3').mono ?_; rintro e w7 ⟨v7, rfl, hv7, h⟩; subst h; refine Hid.out ?_)
        refine Lib.hid ?_
        go_wp2_with (go_at_call 149; refine (K9.out _ _ hv4).mono ?_; rintro e w8 ⟨v8, rfl, hv8, h⟩; subst h; refine Hid.out ?_)
        refine Lib.hid ?_
        go_wp2_with (go_at_call 162; refine (K10.out _ _ _ hv7 hv8).mono ?_; rintro e w9 ⟨rfl, hb9⟩; refine Hid.out ?_)
        have hv3'' := hv3'.mono hb9; have hv4'' := hv4.mono hb9
        refine Lib.hid ?_
        go_wp2_with (go_at_call 196; refine (KM.out _ _ _ hv4'' hv3'').mono ?_; rintro e w10 ⟨v10, rfl, hv10, hb10⟩; refine Hid.out ?_)
        refine Lib.hid ?_
        go_wp2_with (go_at_call 140; refine (K6.out _).mono ?_; rintro e w11 ⟨rfl, h⟩; subst h; refine Hid.out ?_)
        refine Lib.hid ?_
        go_wp2_with (go_at_call 143; refine (K13.out _ _ hv10).mono ?_; rintro e w12 ⟨rfl, hb12⟩; refine Hid.out ?_)
        refine Lib.hid ?_
        go_wp2
        go_ret
        exact ⟨rfl, Below.chain hb34 (Below.chain hb9 (Below.chain hb10 hb12))⟩
      · have KM := Lib.hid (HM1.out hr); have HR := Z2.out hpq hr; clear Z1 Z2 Z3 HM1 HM2 hpq; subst HR
        go_enter Tryz.func164, Tryz.ntmps164
        go_wp2_with (go_at_call 146; refine (K1.out _).mono ?_; rintro e w1 ⟨rfl, h⟩; subst h; refine Hid.out ?_)
        refine Lib.hid ?_
        go_wp2_with (go_at_call 145; refine (K3.out _).mono ?_; rintro e w3 ⟨v3, rfl, hv3, hb3⟩; refine Hid.out ?_)
        refine Lib.hid ?_
        go_wp2_with (go_at_call 145; refine (K4.out _).mono ?_; rintro e w4 ⟨v4, rfl, hv4, hb4⟩; refine Hid.out ?_)
        refine Lib.hid ?_
        have hv3' := hv3.mono hb4; have hb34 := Below.chain hb3 hb4; clear hv3 hb3 hb4
        go_wp2_with (go_at_call 140; refine (K5.out _).mono ?_; rintro e w5 ⟨rfl, h⟩; subst h; refine Hid.out ?_)
        refine Lib.hid ?_
        go_wp2_with (go_at_call 140; refine (K6.out _).mono ?_; rintro e w6 ⟨rfl, h⟩; subst h; refine Hid.out ?_)
        refine Lib.hid ?_
        go_wp2_with (go_at_call 149; refine (K8.out _ _ hv3').mono ?_; rintro e w7 ⟨v7, rfl, hv7, h⟩; subst h; refine Hid.out ?_)
        refine Lib.hid ?_
        go_wp2_with (go_at_call 149; refine (K9.out _ _ hv4).mono ?_; rintro e w8 ⟨v8, rfl, hv8, h⟩; subst h; refine Hid.out ?_)
        refine Lib.hid ?_
        go_wp2_with (go_at_call 162; refine (K10.out _ _ _ hv7 hv8).mono ?_; rintro e w9 ⟨rfl, hb9⟩; refine Hid.out ?_)
        have hv3'' := hv3'.mono hb9; have hv4'' := hv4.mono hb9
        refine Lib.hid ?_
        go_wp2_with (go_at_call 196; refine (KM.out _ _ _ hv3'' hv4'').mono ?_; rintro e w10 ⟨v10, rfl, hv10, hb10⟩; refine Hid.out ?_)
        refine Lib.hid ?_
        go_wp2_with (go_at_call 140; refine (K5.out _).mono ?_; rintro e w11 ⟨rfl, h⟩; subst h; refine Hid.out ?_)
        refine Lib.hid ?_
        go_wp2_with (go_at_call 143; refine (K12.out _ _ hv10).mono ?_; rintro e w12 ⟨rfl, hb12⟩; refine Hid.out ?_)
        refine Lib.hid ?_
        go_wp2
        go_ret
        exact ⟨rfl, Below.chain hb34 (Below.chain hb9 (Below.chain hb10 hb12))⟩
  · by_cases hpq : p = q
    · subst hpq
      have HR := Z1.out rfl; clear Z1 Z2 Z3; subst HR
      go_enter Tryz.func164, Tryz.ntmps164
      go_wp2_with (go_at_call 146; refine (K1.out _).mono ?_; rintro e w1 ⟨rfl, h⟩; subst h; refine Hid.out ?_)
      refine Lib.hid ?_
      go_wp2_with (go_at_call 146; refine (K2.out _).mono ?_; rintro e w2 ⟨rfl, h⟩; subst h; refine Hid.out ?_)
      refine Lib.hid ?_
      go_wp2_with (go_at_call 145; refine (K3.out _).mono ?_; rintro e w3 ⟨v3, rfl, hv3, hb3⟩; refine Hid.out ?_)
      refine Lib.hid ?_
      go_wp2_with (go_at_call 145; refine (K4.out _).mono ?_; rintro e w4 ⟨v4, rfl, hv4, hb4⟩; refine Hid.out ?_)
      refine Lib.hid ?_
      have hv3' := hv3.mono hb4; have hb34 := Below.chain hb3 hb4; clear hv3 hb3 hb4
      go_wp2_with (go_at_call 140; refine (K5.out _).mono ?_; rintro e w5 ⟨rfl, h⟩; subst h; refine Hid.out ?_)
      refine Lib.hid ?_
      go_wp2_with (go_at_call 140; refine (K6.out _).mono ?_; rintro e w6 ⟨rfl, h⟩; subst h; refine Hid.out ?_)
      refine Lib.hid ?_
      go_wp2_with (go_at_call 209; refine (K7.out _ _ _ hv3' hv4).mono ?_; rintro e w7 ⟨v7, rfl, hv7, hb7⟩; refine Hid.out ?_)
      refine Lib.hid ?_
      go_wp2_with (go_at_call 140; refine (K5.out _).mono ?_; rintro e w8 ⟨rfl, h⟩; subst h; refine Hid.out ?_)
      refine Lib.hid ?_
      go_wp2_with (go_at_call 143; refine (K11.out _ _ hv7).mono ?_; rintro e w9 ⟨rfl, hb9⟩; refine Hid.out ?_)
      refine Lib.hid ?_
      go_wp2
      go_ret
      exact ⟨rfl, Below.chain hb34 (Below.chain hb7 hb9)⟩
    · have hb : (p == q) = false := by rw [beq_eq_false_iff_ne]; exact hpq
      cases hr : decide (0 ≤ r)
      · have KM := Lib.hid (HM2.out hr); have HR := Z3.out hpq hr; clear Z1 Z2 Z3 HM1 HM2 hpq; subst HR
        go_enter Tryz.func164, Tryz.ntmps164
        go_wp2_with (go_at_call 146; refine (K1.out _).mono ?_; rintro e w1 ⟨rfl, h⟩; subst h; refine Hid.out ?_)
        refine Lib.hid ?_
        go_wp2_with (go_at_call 146; refine (K2.out _).mono ?_; rintro e w2 ⟨rfl, h⟩; subst h; refine Hid.out ?_)
        refine Lib.hid ?_
        go_wp2_with (go_at_call 145; refine (K3.out _).mono ?_; rintro e w3 ⟨v3, rfl, hv3, hb3⟩; refine Hid.out ?_)
        refine Lib.hid ?_
        go_wp2_with (go_at_call 145; refine (K4.out _).mono ?_; rintro e w4 ⟨v4, rfl, hv4, hb4⟩; refine Hid.out ?_)
        refine Lib.hid ?_
        have hv3' := hv3.mono hb4; have hb34 := Below.chain hb3 hb4; clear hv3 hb3 hb4
        go_wp2_with (go_at_call 140; refine (K5.out _).mono ?_; rintro e w5 ⟨rfl, h⟩; subst h; refine Hid.out ?_)
        refine Lib.hid ?_
        go_wp2_with (go_at_call 140; refine (K6.out _).mono ?_; rintro e w6 ⟨rfl, h⟩; subst h; refine Hid.out ?_)
        refine Lib.hid ?_
        go_wp2_with (go_at_call 149; refine (K8.out _ _ hv3').mono ?_; rintro e w7 ⟨v7, rfl, hv7, h⟩; subst h; refine Hid.out ?_)
        refine Lib.hid ?_
        go_wp2_with (go_at_call 149; refine (K9.out _ _ hv4).mono ?_; rintro e w8 ⟨v8, rfl, hv8, h⟩; subst h; refine Hid.out ?_)
        refine Lib.hid ?_
        go_wp2_with (go_at_call 162; refine (K10.out _ _ _ hv7 hv8).mono ?_; rintro e w9 ⟨rfl, hb9⟩; refine Hid.out ?_)
        have hv3'' := hv3'.mono hb9; have hv4'' := hv4.mono hb9
        refine Lib.hid ?_
        go_wp2_with (go_at_call 196; refine (KM.out _ _ _ hv4'' hv3'').mono ?_; rintro e w10 ⟨v10, rfl, hv10, hb10⟩; refine Hid.out ?_)
        refine Lib.hid ?_
        go_wp2_with (go_at_call 140; refine (K6.out _).mono ?_; rintro e w11 ⟨rfl, h⟩; subst h; refine Hid.out ?_)
        refine Lib.hid ?_
        go_wp2_with (go_at_call 143; refine (K13.out _ _ hv10).mono ?_; rintro e w12 ⟨rfl, hb12⟩; refine Hid.out ?_)
        refine Lib.hid ?_
        go_wp2
        go_ret
        exact ⟨rfl, Below.chain hb34 (Below.chain hb9 (Below.chain hb10 hb12))⟩
      · have KM := Lib.hid (HM1.out hr); have HR := Z2.out hpq hr; clear Z1 Z2 Z3 HM1 HM2 hpq; subst HR
        go_enter Tryz.func164, Tryz.ntmps164
        go_wp2_with (go_at_call 146; refine (K1.out _).mono ?_; rintro e w1 ⟨rfl, h⟩; subst h; refine Hid.out ?_)
        refine Lib.hid ?_
        go_wp2_with (go_at_call 146; refine (K2.out _).mono ?_; rintro e w2 ⟨rfl, h⟩; subst h; refine Hid.out ?_)
        refine Lib.hid ?_
        go_wp2_with (go_at_call 145; refine (K3.out _).mono ?_; rintro e w3 ⟨v3, rfl, hv3, hb3⟩; refine Hid.out ?_)
        refine Lib.hid ?_
        go_wp2_with (go_at_call 145; refine (K4.out _).mono ?_; rintro e w4 ⟨v4, rfl, hv4, hb4⟩; refine Hid.out ?_)
        refine Lib.hid ?_
        have hv3' := hv3.mono hb4; have hb34 := Below.chain hb3 hb4; clear hv3 hb3 hb4
        go_wp2_with (go_at_call 140; refine (K5.out _).mono ?_; rintro e w5 ⟨rfl, h⟩; subst h; refine Hid.out ?_)
        refine Lib.hid ?_
        go_wp2_with (go_at_call 140; refine (K6.out _).mono ?_; rintro e w6 ⟨rfl, h⟩; subst h; refine Hid.out ?_)
        refine Lib.hid ?_
        go_wp2_with (go_at_call 149; refine (K8.out _ _ hv3').mono ?_; rintro e w7 ⟨v7, rfl, hv7, h⟩; subst h; refine Hid.out ?_)
        refine Lib.hid ?_
        go_wp2_with (go_at_call 149; refine (K9.out _ _ hv4).mono ?_; rintro e w8 ⟨v8, rfl, hv8, h⟩; subst h; refine Hid.out ?_)
        refine Lib.hid ?_
        go_wp2_with (go_at_call 162; refine (K10.out _ _ _ hv7 hv8).mono ?_; rintro e w9 ⟨rfl, hb9⟩; refine Hid.out ?_)
        have hv3'' := hv3'.mono hb9; have hv4'' := hv4.mono hb9
        refine Lib.hid ?_
        go_wp2_with (go_at_call 196; refine (KM.out _ _ _ hv3'' hv4'').mono ?_; rintro e w10 ⟨v10, rfl, hv10, hb10⟩; refine Hid.out ?_)
        refine Lib.hid ?_
        go_wp2_with (go_at_call 140; refine (K5.out _).mono ?_; rintro e w11 ⟨rfl, h⟩; subst h; refine Hid.out ?_)
        refine Lib.hid ?_
        go_wp2_with (go_at_call 143; refine (K12.out _ _ hv10).mono ?_; rintro e w12 ⟨rfl, hb12⟩; refine Hid.out ?_)
        refine Lib.hid ?_
        go_wp2
        go_ret
        exact ⟨rfl, Below.chain hb34 (Below.chain hb9 (Below.chain hb10 hb12))⟩

theorem refSumI (s t : ByteArray) (x y : Int) (w : World) (hs : bytes s = Lib.itoa x) (ht : bytes t = Lib.itoa y) (hls : s.size ≤ 100000000) (hlt : t.size ≤ 100000000) :
    Calls Tryz.prog 164 #[.string s, .string t] w (Bret (.string (str (Lib.itoa (x + y)))) w) := by
  by_cases h : (Lib.decDigits x.natAbs).length ≤ 17 ∧ (Lib.decDigits y.natAbs).length ≤ 17
  · exact sum_short s t x y w hs ht hls hlt h.1 h.2
  · exact sum_long s t x y w hs ht hls hlt h
end Go.Proofs.YtbadibbdoljjhaaGreatDoor

/-
  The reference: Magnitude, Negated at a notation of any length; Diff, Product, limited.
-/
namespace Go.Proofs.YtbadibbdoljjhaaGreatDoor
open Go Go.Proofs Go.RowKit

theorem tail_txt {s : ByteArray} {x : Int} (hs : bytes s = Lib.itoa x) (hx : x < 0) : s.extract 1 s.size = str (Lib.decDigits x.natAbs) := by
  have h := hs
  rw [itoa_neg hx] at h
  apply ByteArray.ext
  apply Array.ext'
  rw [ByteArray.data_extract, Array.toList_extract]
  have hl : s.size = (bytes s).length := rfl
  rw [hl]
  unfold bytes at *
  rw [h]
  simp [str, List.extract]

theorem refMagnitudeT (s : ByteArray) (x : Int) (w : World) (hs : bytes s = Lib.itoa x) (hsz : s.size ≤ 1000000000000) :
    Calls Tryz.prog 87 #[.string s] w fun e w' => e = .returned (.string (str (Lib.itoa (x.natAbs : Int)))) ∧ w' = w := by
  have C := fun W => negative_any s W (txt_size hs)
  rw [txt_neg hs] at C
  have hp := (txt_size hs)
  by_cases hx : x < 0
  · rw [decide_eq_true hx] at C
    have KC := Lib.hid C; have HS := Lib.hid hs; clear C hs
    go_enter Tryz.func87, Tryz.ntmps87
    go_wp2_with (go_at_call 140; refine (KC.out _).mono ?_; rintro e w1 ⟨rfl, h⟩; subst h; refine Hid.out ?_)
    refine Lib.hid ?_
    go_wp2
    go_ret
    refine ⟨?_, rfl⟩
    show Ending.returned (.string (s.extract 1 s.size)) = _
    rw [tail_txt HS.out hx, itoa_nonneg (by omega), Int.natAbs_natCast]
  · rw [decide_eq_false hx] at C
    have e : str (Lib.itoa (x.natAbs : Int)) = s := by rw [show (x.natAbs : Int) = x by omega]; rw [← hs, str_bytes]
    rw [e]
    have KC := Lib.hid C; clear C hs e hx
    go_enter Tryz.func87, Tryz.ntmps87
    go_wp2_with (go_at_call 140; refine (KC.out _).mono ?_; rintro e w1 ⟨rfl, h⟩; subst h; refine Hid.out ?_)
    refine Lib.hid ?_
    go_wp2
    go_ret
    exact ⟨rfl, rfl⟩

theorem refNegatedT (s : ByteArray) (x : Int) (w : World) (hs : bytes s = Lib.itoa x) (hsz : s.size ≤ 1000000000000) :
    Calls Tryz.prog 161 #[.string s] w fun e w' => e = .returned (.string (str (Lib.itoa (-x)))) ∧ w' = w := by
  have hp := (txt_size hs)
  by_cases h0 : x = 0
  · subst h0
    have hz : s = ⟨#[48]⟩ := txt_is_zero hs
    subst hz
    have e : str (Lib.itoa (-0)) = ⟨#[48]⟩ := lit_str str_zero
    rw [e]
    clear hs e
    go_enter Tryz.func161, Tryz.ntmps161
    go_wp2
    go_ret
    exact ⟨rfl, rfl⟩
  · have hd := eq48 s (txt_zero hs h0)
    have C := fun W => negative_any s W (txt_size hs)
    rw [txt_neg hs] at C
    by_cases hx : x < 0
    · rw [decide_eq_true hx] at C
      have KC := Lib.hid C; have HS := Lib.hid hs; clear C hs
      go_enter Tryz.func161, Tryz.ntmps161
      go_wp2_with (go_at_call 140; refine (KC.out _).mono ?_; rintro e w1 ⟨rfl, h⟩; subst h; refine Hid.out ?_)
      refine Lib.hid ?_
      go_wp2
      go_ret
      refine ⟨?_, rfl⟩
      show Ending.returned (.string (s.extract 1 s.size)) = _
      rw [tail_txt HS.out hx, itoa_nonneg (by omega), Int.natAbs_neg]
    · rw [decide_eq_false hx] at C
      have e1 : str (Lib.itoa (-x)) = ⟨#[45]⟩ ++ s := by
        have h := hs
        rw [itoa_nonneg hx] at h
        rw [itoa_neg (by omega), Int.natAbs_neg, ← h]
        apply ByteArray.ext
        apply Array.ext'
        simp [str, bytes]
      rw [e1]
      have KC := Lib.hid C; clear C hs hx e1 h0
      go_enter Tryz.func161, Tryz.ntmps161
      go_wp2_with (go_at_call 140; refine (KC.out _).mono ?_; rintro e w1 ⟨rfl, h⟩; subst h; refine Hid.out ?_)
      refine Lib.hid ?_
      go_wp2
      go_ret
      exact ⟨rfl, rfl⟩


theorem lit_txt {s : ByteArray} {z : Int} (h : bytes s = Lib.itoa z) : str (Lib.itoa z) = s := by rw [← h, str_bytes]
theorem txt_str (z : Int) : bytes (str (Lib.itoa z)) = Lib.itoa z := bytes_str _
theorem itoa_len (z : Int) : (str (Lib.itoa z)).size ≤ 1 + (Lib.decDigits z.natAbs).length := by
  have := txt_len (txt_str z)
  rw [this]; split <;> omega

set_option maxHeartbeats 1000000 in
theorem refDiffI (s t : ByteArray) (x y : Int) (w : World) (hs : bytes s = Lib.itoa x) (ht : bytes t = Lib.itoa y) (hls : s.size ≤ 100000000) (hlt : t.size ≤ 10000000) :
    Calls Tryz.prog 150 #[.string s, .string t] w (Bret (.string (str (Lib.itoa (x - y)))) w) := by
  have C1 := fun W => refNegatedT t y W ht (by omega)
  have C2 := fun W => refSumI s (str (Lib.itoa (-y))) x (-y) W hs (txt_str _) hls (by
    have h1 := itoa_len (-y)
    rw [Int.natAbs_neg] at h1
    have h2 := txt_len ht
    omega)
  rw [show x + -y = x - y by omega] at C2
  generalize str (Lib.itoa (-y)) = u at *
  generalize str (Lib.itoa (x - y)) = R at *
  have K1 := Lib.hid C1; have K2 := Lib.hid C2; clear C1 C2 hs ht hls hlt
  go_enter Tryz.func150, Tryz.ntmps150
  go_wp2_with (go_at_call 161; refine (K1.out _).mono ?_; rintro e w1 ⟨rfl, h⟩; subst h; refine Hid.out ?_)
  refine Lib.hid ?_
  go_wp2_with (go_at_call 164; refine (K2.out _).mono ?_; rintro e w2 ⟨rfl, hb2⟩; refine Hid.out ?_)
  refine Lib.hid ?_
  go_wp2
  go_ret
  exact ⟨rfl, hb2⟩

theorem limited_any (s : ByteArray) (r : Int) (w : World) (hs : bytes s = Lib.itoa r) (hls : s.size ≤ 1000000000000) :
    Calls Tryz.prog 86 #[.string s] w (Bret (resV r) w) := by
  have C := fun W => refDigits_any s W (txt_size hs) (by omega)
  rw [hs, digL_itoa] at C
  have e := lit_txt hs
  unfold resV
  rw [e]
  generalize (Lib.decDigits r.natAbs).length = d at *
  have KC := Lib.hid C; clear C e hs
  by_cases h : 4096 < d
  · rw [if_pos h]
    go_enter Tryz.func86, Tryz.ntmps86
    go_wp2_with (go_at_call 118; refine (KC.out _).mono ?_; rintro e w1 ⟨rfl, h⟩; subst h; refine Hid.out ?_)
    refine Lib.hid ?_
    go_wp2
    refine bodyPost_ret (by simp [results, Tryz.results86, go_sem]; rfl) rfl ?_
    exact ⟨rfl, Below.refl _ _⟩
  · rw [if_neg h]
    go_enter Tryz.func86, Tryz.ntmps86
    go_wp2_with (go_at_call 118; refine (KC.out _).mono ?_; rintro e w1 ⟨rfl, h⟩; subst h; refine Hid.out ?_)
    refine Lib.hid ?_
    go_wp2
    refine bodyPost_ret (by simp [results, Tryz.results86, go_sem]; rfl) rfl ?_
    exact ⟨rfl, Below.refl _ _⟩

theorem madeZ_mul (x y : Int) : madeZ (decide (x < 0) != decide (y < 0)) (x.natAbs * y.natAbs) = x * y := by
  rw [← Int.natAbs_mul]
  by_cases hx : x < 0 <;> by_cases hy : y < 0
  · have h := Int.mul_pos_of_neg_of_neg hx hy
    simp only [hx, hy, decide_true, bne_self_eq_false, madeZ]; simp; omega
  · rcases Int.lt_trichotomy y 0 with h | h | h
    · omega
    · subst h; simp [madeZ]
    · have h' := Int.mul_neg_of_neg_of_pos hx h
      simp only [hx, hy, decide_true, decide_false, madeZ]; simp; omega
  · rcases Int.lt_trichotomy x 0 with h | h | h
    · omega
    · subst h; simp [madeZ]
    · have h' := Int.mul_neg_of_pos_of_neg h hy
      simp only [hx, hy, decide_true, decide_false, madeZ]; simp; omega
  · have h := Int.mul_nonneg (show 0 ≤ x by omega) (show 0 ≤ y by omega)
    simp only [hx, hy, decide_false, bne_self_eq_false, madeZ]; simp; omega

theorem nl_len_mul (x y : Nat) : (nl (x * y)).length ≤ (nl x).length + (nl y).length := by
  refine nl_length_le ?_
  rw [Nat.pow_add]
  exact Nat.mul_lt_mul'' (dlt_pow_limbs x) (dlt_pow_limbs y)

theorem dec_pow {z : Int} {k : Nat} (h : (Lib.decDigits z.natAbs).length ≤ k) : z.natAbs < 10 ^ k := by
  have h1 := dec_lt (allDig_decDigits z.natAbs)
  rw [dec_decDigits] at h1
  exact Nat.lt_of_lt_of_le h1 (Nat.pow_le_pow_right (by decide) h)

set_option maxHeartbeats 4000000 in
theorem refProductI (s t : ByteArray) (x y : Int) (w : World) (hs : bytes s = Lib.itoa x) (ht : bytes t = Lib.itoa y) (hls : s.size ≤ 100000000) (hlt : t.size ≤ 100000000) :
    Calls Tryz.prog 88 #[.string s, .string t] w (Bret (.string (str (Lib.itoa (x * y)))) w) := by
  have E1 := fun W => refDigits_any s W (txt_size hs) (by omega)
  have E2 := fun W => refDigits_any t W (txt_size ht) (by omega)
  rw [hs, digL_itoa] at E1
  rw [ht, digL_itoa] at E2
  have p1 : 0 < (Lib.decDigits x.natAbs).length := List.length_pos_iff.2 (decDigits_ne_nil _)
  have p2 : 0 < (Lib.decDigits y.natAbs).length := List.length_pos_iff.2 (decDigits_ne_nil _)
  by_cases h : (Lib.decDigits x.natAbs).length + (Lib.decDigits y.natAbs).length ≤ 18
  · have N1 := fun W => number_any s x W hs (by omega)
    have N2 := fun W => number_any t y W ht (by omega)
    have hm : (x * y).natAbs < 1000000000000000000 := by
      rw [Int.natAbs_mul]
      have h1 := dec_pow (z := x) (Nat.le_refl _)
      have h2 := dec_pow (z := y) (Nat.le_refl _)
      refine Nat.lt_of_lt_of_le (Nat.mul_lt_mul'' h1 h2) ?_
      rw [← Nat.pow_add]
      exact Nat.le_trans (Nat.pow_le_pow_right (by decide) h) (by decide)
    have hm1 : -1000000000000000000 ≤ x * y := by omega
    have hm2 : x * y ≤ 1000000000000000000 := by omega
    have WW := fun W => whole_any (x * y) W (by omega) (by omega)
    have l1 : (Lib.decDigits x.natAbs).length ≤ 18 := by omega
    have l2 : (Lib.decDigits y.natAbs).length ≤ 18 := by omega
    generalize (Lib.decDigits x.natAbs).length = a at *
    generalize (Lib.decDigits y.natAbs).length = b at *
    have t1 : decide ((a : Int) + (b : Int) ≤ 18) = true := decide_eq_true (by omega)
    generalize str (Lib.itoa (x * y)) = R at *
    have K1 := Lib.hid E1; have K2 := Lib.hid E2; have K3 := Lib.hid N1; have K4 := Lib.hid N2; have K5 := Lib.hid WW
    clear E1 E2 N1 N2 WW hs ht hls hlt h hm p1 p2
    go_enter Tryz.func88, Tryz.ntmps88
    go_wp2_with (go_at_call 118; refine (K1.out _).mono ?_; rintro e w1 ⟨rfl, h⟩; subst h; refine Hid.out ?_)
    refine Lib.hid ?_
    go_wp2_with (go_at_call 118; refine (K2.out _).mono ?_; rintro e w2 ⟨rfl, h⟩; subst h; refine Hid.out ?_)
    refine Lib.hid ?_
    go_wp2_with (go_at_call 142; refine (K3.out _).mono ?_; rintro e w3 ⟨rfl, h⟩; subst h; refine Hid.out ?_)
    refine Lib.hid ?_
    go_wp2_with (go_at_call 142; refine (K4.out _).mono ?_; rintro e w4 ⟨rfl, h⟩; subst h; refine Hid.out ?_)
    refine Lib.hid ?_
    go_wp2_with (go_at_call 141; refine (K5.out _).mono ?_; rintro e w5 ⟨rfl, h⟩; subst h; refine Hid.out ?_)
    refine Lib.hid ?_
    go_wp2
    go_ret
    exact ⟨rfl, Below.refl _ _⟩
  · have D1 := fun W => refDigits_txt s x W hs (by omega)
    have D2 := fun W => refDigits_txt t y W ht (by omega)
    have G1 := fun W => negative_any s W (txt_size hs)
    have G2 := fun W => negative_any t W (txt_size ht)
    rw [txt_neg hs] at G1
    rw [txt_neg ht] at G2
    have l1 := dlen9 hs hls; have l2 := dlen9 ht hlt
    have P : ∀ v1 v2 W, DV W v1 (dgs x.natAbs) → DV W v2 (dgs y.natAbs) → Calls Tryz.prog 144 #[v1, v2] W (DRet (nl (x.natAbs * y.natAbs)) W) := fun v1 v2 W a b => by
      have := refTimes_any _ _ v1 v2 W a b (dgs_dg _) (dgs_dg _) l1 l2
      rwa [dv_dgs, dv_dgs] at this
    have MM : ∀ v W, DV W v (nl (x.natAbs * y.natAbs)) → Calls Tryz.prog 143 #[v, .bool (decide (x < 0) != decide (y < 0))] W (Bret (.string (str (Lib.itoa (x * y)))) W) := fun v W hv => by
      have hl : (nl (x.natAbs * y.natAbs)).length ≤ 1000000000 := by
        have h2 := nl_len_mul x.natAbs y.natAbs
        have h3 := nl_len_le x.natAbs; have h4 := nl_len_le y.natAbs
        have h5 := txt_len hs; have h6 := txt_len ht
        omega
      have := made_any (nl (x.natAbs * y.natAbs)) v (decide (x < 0) != decide (y < 0)) W hv (nl_small _) hl
      rwa [dv_limbs, madeZ_mul] at this
    have t0 := txt_len hs; have t9 := txt_len ht
    have l3 : (Lib.decDigits x.natAbs).length ≤ 100000000 := by omega
    have l4 : (Lib.decDigits y.natAbs).length ≤ 100000000 := by omega
    generalize (Lib.decDigits x.natAbs).length = a at *
    generalize (Lib.decDigits y.natAbs).length = b at *
    have t1 : decide ((a : Int) + (b : Int) ≤ 18) = false := decide_eq_false (by omega)
    generalize str (Lib.itoa (x * y)) = R at *
    generalize decide (x < 0) = p at *
    generalize decide (y < 0) = q at *
    have K1 := Lib.hid E1; have K2 := Lib.hid E2; have K3 := Lib.hid D1; have K4 := Lib.hid D2; have K5 := Lib.hid P; have K6 := Lib.hid G1; have K7 := Lib.hid G2; have K8 := Lib.hid MM
    clear E1 E2 D1 D2 P G1 G2 MM hs ht hls hlt h p1 p2 l1 l2 t0 t9
    go_enter Tryz.func88, Tryz.ntmps88
    go_wp2_with (go_at_call 118; refine (K1.out _).mono ?_; rintro e w1 ⟨rfl, h⟩; subst h; refine Hid.out ?_)
    refine Lib.hid ?_
    go_wp2_with (go_at_call 118; refine (K2.out _).mono ?_; rintro e w2 ⟨rfl, h⟩; subst h; refine Hid.out ?_)
    refine Lib.hid ?_
    go_wp2_with (go_at_call 145; refine (K3.out _).mono ?_; rintro e w3 ⟨v3, rfl, hv3, hb3⟩; refine Hid.out ?_)
    refine Lib.hid ?_
    go_wp2_with (go_at_call 145; refine (K4.out _).mono ?_; rintro e w4 ⟨v4, rfl, hv4, hb4⟩; refine Hid.out ?_)
    have hv3' := hv3.mono hb4
    refine Lib.hid ?_
    go_wp2_with (go_at_call 144; refine (K5.out _ _ _ hv3' hv4).mono ?_; rintro e w5 ⟨v5, rfl, hv5, hb5⟩; refine Hid.out ?_)
    refine Lib.hid ?_
    go_wp2_with (go_at_call 140; refine (K6.out _).mono ?_; rintro e w6 ⟨rfl, h⟩; subst h; refine Hid.out ?_)
    refine Lib.hid ?_
    go_wp2_with (go_at_call 140; refine (K7.out _).mono ?_; rintro e w7 ⟨rfl, h⟩; subst h; refine Hid.out ?_)
    refine Lib.hid ?_
    go_wp2_with (go_at_call 143; refine (K8.out _ _ hv5).mono ?_; rintro e w8 ⟨rfl, hb8⟩; refine Hid.out ?_)
    refine Lib.hid ?_
    go_wp2
    go_ret
    exact ⟨rfl, Below.chain hb3 (Below.chain hb4 (Below.chain hb5 hb8))⟩
end Go.Proofs.YtbadibbdoljjhaaGreatDoor

/-
  BigintChecks: the walk.
-/
namespace Go.Proofs.YtbadibbdoljjhaaGreatDoor
open Go Go.Proofs Go.RowKit

theorem all_one (p : ByteArray → Bool) (s : ByteArray) : [s].all p = p s := by simp
theorem itoa_zero : (Lib.itoa 0) = [48] := by rw [itoa_nonneg (by omega)]; exact dec0'
theorem valZ_zero : valZ [48] = 0 := by rw [← itoa_zero, valZ_itoa]

end Go.Proofs.YtbadibbdoljjhaaGreatDoor

/-
  Add, Sub, Mul of bigint and of the reference for all strings; BigintAdds: the walk.
-/
namespace Go.Proofs.YtbadibbdoljjhaaGreatDoor
open Go Go.Proofs Go.RowKit

/-- What an operation returns: the result, or the first error of both. -/
def opR (f : Int → Int → Int) (a b : List UInt8) : Value := if errBoth a b = 0 then resV (f (valZ a) (valZ b)) else errV (errBoth a b)
theorem opR_parts (f : Int → Int → Int) (a b : List UInt8) : ∃ (u : ByteArray) (e : Nat), opR f a b = .tuple #[.string u, .int .i64 e] := by
  unfold opR
  split
  · exact resV_parts _
  · exact ⟨_, _, rfl⟩
theorem err_size {s : ByteArray} (h : errOf (bytes s) = 0) : s.size ≤ 4097 := (str_of_err h).size

set_option maxHeartbeats 1000000 in
theorem bigAdd_err (s t : ByteArray) (w : World) (hs : s.size ≤ 9223372036854775807) (ht : t.size ≤ 9223372036854775807) (h : errBoth (bytes s) (bytes t) ≠ 0) :
    Calls Tryz.prog 78 #[.string s, .string t] w (Bret (errV (errBoth (bytes s) (bytes t))) w) := by
  have C := compute_err 128 129 s t w hs ht h
  unfold errV at *
  unfold opV at C
  generalize errBoth (bytes s) (bytes t) = c at *
  have HC := Lib.hid C; clear C h
  go_enter Tryz.func78, Tryz.ntmps78
  go_wp2_with (go_at_call 81; refine HC.out.mono ?_; rintro e w2 ⟨rfl, hb2⟩; refine Hid.out ?_)
  refine Lib.hid ?_
  go_wp2
  refine bodyPost_ret (by simp [results, Tryz.results78, go_sem]; rfl) rfl ?_
  exact ⟨rfl, hb2⟩
theorem bigAddR (s t : ByteArray) (w : World) (hs : s.size ≤ 9223372036854775807) (ht : t.size ≤ 9223372036854775807) (htab : Lib.TabIs Tryz.prog w "internal/strconv.uint64pow10" .u64 Lib.pow10Tab) :
    Calls Tryz.prog 78 #[.string s, .string t] w (Bret (opR (fun x y => x + y) (bytes s) (bytes t)) w) := by
  unfold opR
  by_cases h : errBoth (bytes s) (bytes t) = 0
  · rw [if_pos h]
    obtain ⟨h1, h2⟩ := errBoth_zero h
    exact addZ s t _ _ w (str_of_err h1) (str_of_err h2) htab
  · rw [if_neg h]
    exact bigAdd_err s t w hs ht h

set_option maxHeartbeats 1000000 in
theorem bigSub_err (s t : ByteArray) (w : World) (hs : s.size ≤ 9223372036854775807) (ht : t.size ≤ 9223372036854775807) (h : errBoth (bytes s) (bytes t) ≠ 0) :
    Calls Tryz.prog 53 #[.string s, .string t] w (Bret (errV (errBoth (bytes s) (bytes t))) w) := by
  have C := compute_err 113 114 s t w hs ht h
  unfold errV at *
  unfold opV at C
  generalize errBoth (bytes s) (bytes t) = c at *
  have HC := Lib.hid C; clear C h
  go_enter Tryz.func53, Tryz.ntmps53
  go_wp2_with (go_at_call 81; refine HC.out.mono ?_; rintro e w2 ⟨rfl, hb2⟩; refine Hid.out ?_)
  refine Lib.hid ?_
  go_wp2
  refine bodyPost_ret (by simp [results, Tryz.results53, go_sem]; rfl) rfl ?_
  exact ⟨rfl, hb2⟩
theorem bigSubR (s t : ByteArray) (w : World) (hs : s.size ≤ 9223372036854775807) (ht : t.size ≤ 9223372036854775807) (htab : Lib.TabIs Tryz.prog w "internal/strconv.uint64pow10" .u64 Lib.pow10Tab) :
    Calls Tryz.prog 53 #[.string s, .string t] w (Bret (opR (fun x y => x - y) (bytes s) (bytes t)) w) := by
  unfold opR
  by_cases h : errBoth (bytes s) (bytes t) = 0
  · rw [if_pos h]
    obtain ⟨h1, h2⟩ := errBoth_zero h
    exact subZ s t _ _ w (str_of_err h1) (str_of_err h2) htab
  · rw [if_neg h]
    exact bigSub_err s t w hs ht h

set_option maxHeartbeats 1000000 in
theorem bigMul_err (s t : ByteArray) (w : World) (hs : s.size ≤ 9223372036854775807) (ht : t.size ≤ 9223372036854775807) (h : errBoth (bytes s) (bytes t) ≠ 0) :
    Calls Tryz.prog 57 #[.string s, .string t] w (Bret (errV (errBoth (bytes s) (bytes t))) w) := by
  have C := compute_err 119 120 s t w hs ht h
  unfold errV at *
  unfold opV at C
  generalize errBoth (bytes s) (bytes t) = c at *
  have HC := Lib.hid C; clear C h
  go_enter Tryz.func57, Tryz.ntmps57
  go_wp2_with (go_at_call 81; refine HC.out.mono ?_; rintro e w2 ⟨rfl, hb2⟩; refine Hid.out ?_)
  refine Lib.hid ?_
  go_wp2
  refine bodyPost_ret (by simp [results, Tryz.results57, go_sem]; rfl) rfl ?_
  exact ⟨rfl, hb2⟩
theorem bigMulR (s t : ByteArray) (w : World) (hs : s.size ≤ 9223372036854775807) (ht : t.size ≤ 9223372036854775807) (htab : Lib.TabIs Tryz.prog w "internal/strconv.uint64pow10" .u64 Lib.pow10Tab) :
    Calls Tryz.prog 57 #[.string s, .string t] w (Bret (opR (fun x y => x * y) (bytes s) (bytes t)) w) := by
  unfold opR
  by_cases h : errBoth (bytes s) (bytes t) = 0
  · rw [if_pos h]
    obtain ⟨h1, h2⟩ := errBoth_zero h
    exact mulZ s t _ _ w (str_of_err h1) (str_of_err h2) htab
  · rw [if_neg h]
    exact bigMul_err s t w hs ht h

/-- The law's first step at two strings: few. -/
theorem few_two (s t : ByteArray) (w : World) (hs : s.size ≤ 9223372036854775807) (ht : t.size ≤ 9223372036854775807) :
    Calls Tryz.prog 17 #[.slice (some ⟨w.heap.size, 0, none⟩) 2 2] (w.alloc (Obj.cells #[.string s, .string t] 22)) fun e w' => e = .returned (.bool (fewB s && fewB t)) ∧ w' = w.alloc (Obj.cells #[.string s, .string t] 22) := by
  have := few_any [s, t] w.heap.size 2 (w.alloc (Obj.cells #[.string s, .string t] 22)) (fun j h => by
    match j, h with
    | 0, _ => show _ = some (Value.string s); go_cell
    | 1, _ => show _ = some (Value.string t); go_cell) (fun u hu => by
    simp at hu
    rcases hu with rfl | rfl <;> omega) (by simp)
  rwa [all_two] at this

end Go.Proofs.YtbadibbdoljjhaaGreatDoor
