import Derived.Test.YtipnnmbjkpidoaaGreatDoorBase32
import Derived.Test.YtipnnmbjkpidoaaGreatDoorBase28

set_option linter.unusedVariables false
/-
  The reference: Sum, Diff, Product, limited, Add, Sub, Mul.
-/
namespace Go.Proofs.YtipnnmbjkpidoaaGreatDoor
open Go Go.Proofs Go.RowKit

theorem madeZ_same {x y : Int} {p : Bool} (hx : decide (x < 0) = p) (hy : decide (y < 0) = p) : madeZ p (x.natAbs + y.natAbs) = x + y := by
  cases p
  · rw [decide_eq_false_iff_not] at hx hy; simp only [madeZ]; simp; omega
  · rw [decide_eq_true_eq] at hx hy; simp only [madeZ]; simp; omega
theorem madeZ_left {x y : Int} {p q : Bool} (hx : decide (x < 0) = p) (hy : decide (y < 0) = q) (hpq : p ≠ q) (h : y.natAbs ≤ x.natAbs) : madeZ p (x.natAbs - y.natAbs) = x + y := by
  cases p <;> cases q
  · exact absurd rfl hpq
  · rw [decide_eq_false_iff_not] at hx; rw [decide_eq_true_eq] at hy; simp only [madeZ]; simp; omega
  · rw [decide_eq_false_iff_not] at hy; rw [decide_eq_true_eq] at hx; simp only [madeZ]; simp; omega
  · exact absurd rfl hpq
theorem cmpN_ge {x y : Nat} (h : decide (0 ≤ cmpN x y) = true) : y ≤ x := by
  rw [decide_eq_true_eq] at h
  unfold cmpN at h
  by_cases h1 : x < y
  · rw [if_pos h1] at h; omega
  · omega
theorem cmpN_lt {x y : Nat} (h : decide (0 ≤ cmpN x y) = false) : x ≤ y := by
  rw [decide_eq_false_iff_not] at h
  unfold cmpN at h
  by_cases h1 : x < y
  · omega
  · exfalso; rw [if_neg h1] at h; split at h <;> omega
theorem dec17 {z : Int} (h : (Lib.decDigits z.natAbs).length ≤ 17) : z.natAbs < 100000000000000000 := by
  have h1 := dec_lt (allDig_decDigits z.natAbs)
  rw [dec_decDigits] at h1
  exact Nat.lt_of_lt_of_le h1 (Nat.le_trans (Nat.pow_le_pow_right (by decide) h) (by decide))
theorem nl_len_add (x y : Nat) : (nl (x + y)).length ≤ (nl x).length + (nl y).length + 1 := by
  refine nl_length_le ?_
  have h1 := dlt_pow_limbs x; have h2 := dlt_pow_limbs y
  have p1 : (10 : Nat) ^ (nl x).length ≤ 10 ^ ((nl x).length + (nl y).length) := Nat.pow_le_pow_right (by decide) (by omega)
  have p2 : (10 : Nat) ^ (nl y).length ≤ 10 ^ ((nl x).length + (nl y).length) := Nat.pow_le_pow_right (by decide) (by omega)
  rw [Nat.pow_succ]
  generalize (10 : Nat) ^ ((nl x).length + (nl y).length) = p at *
  omega
theorem dlen9 {s : ByteArray} {z : Int} (h : bytes s = Lib.itoa z) (hs : s.size ≤ 100000000) : (dgs z.natAbs).length ≤ 1000000000 := by
  rw [dgs_length]
  have := txt_len h
  omega

set_option maxHeartbeats 8000000 in
theorem sum_short (s t : ByteArray) (x y : Int) (w : World) (hs : bytes s = Lib.itoa x) (ht : bytes t = Lib.itoa y) (hls : s.size ≤ 100000000) (hlt : t.size ≤ 100000000)
    (h1 : (Lib.decDigits x.natAbs).length ≤ 17) (h2 : (Lib.decDigits y.natAbs).length ≤ 17) :
    Calls Tryz.prog 81 #[.string s, .string t] w (Bret (.string (str (Lib.itoa (x + y)))) w) := by
  have S1 := fun W => shortT s x 17 W hs (by omega) (by decide)
  have S2 := fun W => shortT t y 17 W ht (by omega) (by decide)
  have N1 := fun W => number_any s x W hs (by omega)
  have N2 := fun W => number_any t y W ht (by omega)
  have b1 := dec17 h1; have b2 := dec17 h2
  have WW := fun W => whole_any (x + y) W (by omega) (by omega)
  rw [decide_eq_true h1] at S1
  rw [decide_eq_true h2] at S2
  generalize str (Lib.itoa (x + y)) = R at *
  have K1 := Lib.hid S1; have K2 := Lib.hid S2; have K3 := Lib.hid N1; have K4 := Lib.hid N2; have K5 := Lib.hid WW
  have x1 : -100000000000000000 ≤ x := by omega
  have x2 : x ≤ 100000000000000000 := by omega
  have y1 : -100000000000000000 ≤ y := by omega
  have y2 : y ≤ 100000000000000000 := by omega
  clear S1 S2 N1 N2 WW h1 h2 hs ht hls hlt b1 b2
  go_enter Tryz.func81, Tryz.ntmps81
  go_wp2_with (go_at_call 111; refine (K1.out _).mono ?_; rintro e w1 ⟨rfl, h⟩; subst h; refine Hid.out ?_)
  refine Lib.hid ?_
  go_wp2_with (go_at_call 111; refine (K2.out _).mono ?_; rintro e w2 ⟨rfl, h⟩; subst h; refine Hid.out ?_)
  refine Lib.hid ?_
  go_wp2_with (go_at_call 112; refine (K3.out _).mono ?_; rintro e w3 ⟨rfl, h⟩; subst h; refine Hid.out ?_)
  refine Lib.hid ?_
  go_wp2_with (go_at_call 112; refine (K4.out _).mono ?_; rintro e w4 ⟨rfl, h⟩; subst h; refine Hid.out ?_)
  refine Lib.hid ?_
  go_wp2_with (go_at_call 26; refine (K5.out _).mono ?_; rintro e w5 ⟨rfl, h⟩; subst h; refine Hid.out ?_)
  refine Lib.hid ?_
  go_wp2
  go_ret
  exact ⟨rfl, Below.refl _ _⟩

set_option maxHeartbeats 16000000 in
theorem sum_long (s t : ByteArray) (x y : Int) (w : World) (hs : bytes s = Lib.itoa x) (ht : bytes t = Lib.itoa y) (hls : s.size ≤ 100000000) (hlt : t.size ≤ 100000000)
    (h12 : ¬ ((Lib.decDigits x.natAbs).length ≤ 17 ∧ (Lib.decDigits y.natAbs).length ≤ 17)) :
    Calls Tryz.prog 81 #[.string s, .string t] w (Bret (.string (str (Lib.itoa (x + y)))) w) := by
  have S1 := fun W => shortT s x 17 W hs (by omega) (by decide)
  have S2 := fun W => shortT t y 17 W ht (by omega) (by decide)
  have D1 := fun W => refDigits_txt s x W hs (by omega)
  have D2 := fun W => refDigits_txt t y W ht (by omega)
  have G1 := fun W => negative_any s W (txt_size hs)
  have G2 := fun W => negative_any t W (txt_size ht)
  rw [txt_neg hs] at G1
  rw [txt_neg ht] at G2
  have l1 := dlen9 hs hls; have l2 := dlen9 ht hlt
  have P : ∀ v1 v2 W, DV W v1 (dgs x.natAbs) → DV W v2 (dgs y.natAbs) → Calls Tryz.prog 128 #[v1, v2] W (DRet (nl (x.natAbs + y.natAbs)) W) := fun v1 v2 W a b => by
    have := refPlus_any _ _ v1 v2 W a b (dgs_dg _) (dgs_dg _) l1 l2
    rwa [dv_dgs, dv_dgs] at this
  have M1 : y.natAbs ≤ x.natAbs → ∀ v1 v2 W, DV W v1 (dgs x.natAbs) → DV W v2 (dgs y.natAbs) → Calls Tryz.prog 129 #[v1, v2] W (DRet (nl (x.natAbs - y.natAbs)) W) := fun h v1 v2 W a b => by
    have := refMinus_any _ _ v1 v2 W a b (dgs_dg _) (dgs_dg _) l1 (by rw [dv_dgs, dv_dgs]; exact h)
    rwa [dv_dgs, dv_dgs] at this
  have M2 : x.natAbs ≤ y.natAbs → ∀ v1 v2 W, DV W v1 (dgs y.natAbs) → DV W v2 (dgs x.natAbs) → Calls Tryz.prog 129 #[v1, v2] W (DRet (nl (y.natAbs - x.natAbs)) W) := fun h v1 v2 W a b => by
    have := refMinus_any _ _ v1 v2 W a b (dgs_dg _) (dgs_dg _) l2 (by rw [dv_dgs, dv_dgs]; exact h)
    rwa [dv_dgs, dv_dgs] at this
  have U1 : ∀ v W, DV W v (dgs x.natAbs) → Calls Tryz.prog 114 #[v] W fun e w' => ∃ v', e = .returned v' ∧ DV W v' (nl x.natAbs) ∧ w' = W := fun v W hv => by
    have := cut_any _ v W hv (dgs_dg _) (by omega)
    rwa [dv_dgs] at this
  have U2 : ∀ v W, DV W v (dgs y.natAbs) → Calls Tryz.prog 114 #[v] W fun e w' => ∃ v', e = .returned v' ∧ DV W v' (nl y.natAbs) ∧ w' = W := fun v W hv => by
    have := cut_any _ v W hv (dgs_dg _) (by omega)
    rwa [dv_dgs] at this
  have O := fun vx vy W hx hy => refOrder_any x.natAbs y.natAbs vx vy W hx hy
  have MM : ∀ (a : Nat) (b : Bool), a ≤ x.natAbs + y.natAbs → ∀ v W, DV W v (nl a) → Calls Tryz.prog 127 #[v, .bool b] W (Bret (.string (str (Lib.itoa (madeZ b a)))) W) := fun a b ha v W hv => by
    have hl : (nl a).length ≤ 1000000000 := by
      have h1 := nl_length_mono ha
      have h2 := nl_len_add x.natAbs y.natAbs
      have h3 := nl_len_le x.natAbs; have h4 := nl_len_le y.natAbs
      have h5 := txt_len hs; have h6 := txt_len ht
      omega
    have := made_any (nl a) v b W hv (nl_small a) hl
    rwa [dv_limbs] at this
  obtain ⟨p, hp⟩ : ∃ p, decide (x < 0) = p := ⟨_, rfl⟩
  obtain ⟨q, hq⟩ : ∃ q, decide (y < 0) = q := ⟨_, rfl⟩
  have z1 : p = q → str (Lib.itoa (madeZ p (x.natAbs + y.natAbs))) = str (Lib.itoa (x + y)) := fun e => by rw [madeZ_same hp (hq.trans e.symm)]
  have z2 : p ≠ q → decide (0 ≤ cmpN x.natAbs y.natAbs) = true → str (Lib.itoa (madeZ p (x.natAbs - y.natAbs))) = str (Lib.itoa (x + y)) := fun e h => by rw [madeZ_left hp hq e (cmpN_ge h)]
  have z3 : p ≠ q → decide (0 ≤ cmpN x.natAbs y.natAbs) = false → str (Lib.itoa (madeZ q (y.natAbs - x.natAbs))) = str (Lib.itoa (x + y)) := fun e h => by rw [madeZ_left hq hp e.symm (cmpN_lt h), Int.add_comm]
  have M1' := fun h => M1 (cmpN_ge h)
  have M2' := fun h => M2 (cmpN_lt h)
  have MA := MM (x.natAbs + y.natAbs) p (Nat.le_refl _)
  have MB := MM (x.natAbs - y.natAbs) p (by omega)
  have MC := MM (y.natAbs - x.natAbs) q (by omega)
  rw [hp] at G1
  rw [hq] at G2
  generalize str (Lib.itoa (madeZ p (x.natAbs + y.natAbs))) = R1 at *
  generalize str (Lib.itoa (madeZ p (x.natAbs - y.natAbs))) = R2 at *
  generalize str (Lib.itoa (madeZ q (y.natAbs - x.natAbs))) = R3 at *
  generalize str (Lib.itoa (x + y)) = R at *
  generalize cmpN x.natAbs y.natAbs = r at *
  obtain ⟨c1, hc1⟩ : ∃ c1, decide ((Lib.decDigits x.natAbs).length ≤ 17) = c1 := ⟨_, rfl⟩
  obtain ⟨c2, hc2⟩ : ∃ c2, decide ((Lib.decDigits y.natAbs).length ≤ 17) = c2 := ⟨_, rfl⟩
  rw [hc1] at S1
  rw [hc2] at S2
  have hcc : c1 = false ∨ (c1 = true ∧ c2 = false) := by
    by_cases a : (Lib.decDigits x.natAbs).length ≤ 17
    · right
      refine ⟨by rw [← hc1]; exact decide_eq_true a, ?_⟩
      rw [← hc2]; exact decide_eq_false (fun b => h12 ⟨a, b⟩)
    · left; rw [← hc1]; exact decide_eq_false a
  have K1 := Lib.hid S1; have K2 := Lib.hid S2; have K3 := Lib.hid D1; have K4 := Lib.hid D2; have K5 := Lib.hid G1; have K6 := Lib.hid G2; have K7 := Lib.hid P; have K8 := Lib.hid U1; have K9 := Lib.hid U2; have K10 := Lib.hid O; have K11 := Lib.hid MA; have K12 := Lib.hid MB; have K13 := Lib.hid MC; have HM1 := Lib.hid M1'; have HM2 := Lib.hid M2'; have Z1 := Lib.hid z1; have Z2 := Lib.hid z2; have Z3 := Lib.hid z3
  clear S1 S2 D1 D2 G1 G2 P U1 U2 O MM MA MB MC M1 M2 M1' M2' z1 z2 z3 hp hq hc1 hc2 h12 hs ht hls hlt l1 l2
  rcases hcc with rfl | ⟨rfl, rfl⟩
  · by_cases hpq : p = q
    · subst hpq
      have HR := Z1.out rfl; clear Z1 Z2 Z3; subst HR
      go_enter Tryz.func81, Tryz.ntmps81
      go_wp2_with (go_at_call 111; refine (K1.out _).mono ?_; rintro e w1 ⟨rfl, h⟩; subst h; refine Hid.out ?_)
      refine Lib.hid ?_
      go_wp2_with (go_at_call 115; refine (K3.out _).mono ?_; rintro e w3 ⟨v3, rfl, hv3, hb3⟩; refine Hid.out ?_)
      refine Lib.hid ?_
      go_wp2_with (go_at_call 115; refine (K4.out _).mono ?_; rintro e w4 ⟨v4, rfl, hv4, hb4⟩; refine Hid.out ?_)
      refine Lib.hid ?_
      have hv3' := hv3.mono hb4; have hb34 := Below.chain hb3 hb4; clear hv3 hb3 hb4
      go_wp2_with (go_at_call 72; refine (K5.out _).mono ?_; rintro e w5 ⟨rfl, h⟩; subst h; refine Hid.out ?_)
      refine Lib.hid ?_
      go_wp2_with (go_at_call 72; refine (K6.out _).mono ?_; rintro e w6 ⟨rfl, h⟩; subst h; refine Hid.out ?_)
      refine Lib.hid ?_
      go_wp2_with (go_at_call 128; refine (K7.out _ _ _ hv3' hv4).mono ?_; rintro e w7 ⟨v7, rfl, hv7, hb7⟩; refine Hid.out ?_)
      refine Lib.hid ?_
      go_wp2_with (go_at_call 72; refine (K5.out _).mono ?_; rintro e w8 ⟨rfl, h⟩; subst h; refine Hid.out ?_)
      refine Lib.hid ?_
      go_wp2_with (go_at_call 127; refine (K11.out _ _ hv7).mono ?_; rintro e w9 ⟨rfl, hb9⟩; refine Hid.out ?_)
      refine Lib.hid ?_
      go_wp2
      go_ret
      exact ⟨rfl, Below.chain hb34 (Below.chain hb7 hb9)⟩
    · have hb : (p == q) = false := by rw [beq_eq_false_iff_ne]; exact hpq
      cases hr : decide (0 ≤ r)
      · have KM := Lib.hid (HM2.out hr); have HR := Z3.out hpq hr; clear Z1 Z2 Z3 HM1 HM2 hpq; subst HR
        go_enter Tryz.func81, Tryz.ntmps81
        go_wp2_with (go_at_call 111; refine (K1.out _).mono ?_; rintro e w1 ⟨rfl, h⟩; subst h; refine Hid.out ?_)
        refine Lib.hid ?_
        go_wp2_with (go_at_call 115; refine (K3.out _).mono ?_; rintro e w3 ⟨v3, rfl, hv3, hb3⟩; refine Hid.out ?_)
        refine Lib.hid ?_
        go_wp2_with (go_at_call 115; refine (K4.out _).mono ?_; rintro e w4 ⟨v4, rfl, hv4, hb4⟩; refine Hid.out ?_)
        refine Lib.hid ?_
        have hv3' := hv3.mono hb4; have hb34 := Below.chain hb3 hb4; clear hv3 hb3 hb4
        go_wp2_with (go_at_call 72; refine (K5.out _).mono ?_; rintro e w5 ⟨rfl, h⟩; subst h; refine Hid.out ?_)
        refine Lib.hid ?_
        go_wp2_with (go_at_call 72; refine (K6.out _).mono ?_; rintro e w6 ⟨rfl, h⟩; subst h; refine Hid.out ?_)
        refine Lib.hid ?_
        go_wp2_with (go_at_call 114; refine (K8.out _ _ hv3').mono ?_; rintro e w7 ⟨v7, rfl, hv7, h⟩; subst h; refine Hid.out ?_)
        refine Lib.hid ?_
        go_wp2_with (go_at_call 114; refine (K9.out _ _ hv4).mono ?_; rintro e w8 ⟨v8, rfl, hv8, h⟩; subst h; refine Hid.out ?_)
        refine Lib.hid ?_
        go_wp2_with (go_at_call 113; refine (K10.out _ _ _ hv7 hv8).mono ?_; rintro e w9 ⟨rfl, hb9⟩; refine Hid.out ?_)
        have hv3'' := hv3'.mono hb9; have hv4'' := hv4.mono hb9
        refine Lib.hid ?_
        go_wp2_with (go_at_call 129; refine (KM.out _ _ _ hv4'' hv3'').mono ?_; rintro e w10 ⟨v10, rfl, hv10, hb10⟩; refine Hid.out ?_)
        refine Lib.hid ?_
        go_wp2_with (go_at_call 72; refine (K6.out _).mono ?_; rintro e w11 ⟨rfl, h⟩; subst h; refine Hid.out ?_)
        refine Lib.hid ?_
        go_wp2_with (go_at_call 127; refine (K13.out _ _ hv10).mono ?_; rintro e w12 ⟨rfl, hb12⟩; refine Hid.out ?_)
        refine Lib.hid ?_
        go_wp2
        go_ret
        exact ⟨rfl, Below.chain hb34 (Below.chain hb9 (Below.chain hb10 hb12))⟩
      · have KM := Lib.hid (HM1.out hr); have HR := Z2.out hpq hr; clear Z1 Z2 Z3 HM1 HM2 hpq; subst HR
        go_enter Tryz.func81, Tryz.ntmps81
        go_wp2_with (go_at_call 111; refine (K1.out _).mono ?_; rintro e w1 ⟨rfl, h⟩; subst h; refine Hid.out ?_)
        refine Lib.hid ?_
        go_wp2_with (go_at_call 115; refine (K3.out _).mono ?_; rintro e w3 ⟨v3, rfl, hv3, hb3⟩; refine Hid.out ?_)
        refine Lib.hid ?_
        go_wp2_with (go_at_call 115; refine (K4.out _).mono ?_; rintro e w4 ⟨v4, rfl, hv4, hb4⟩; refine Hid.out ?_)
        refine Lib.hid ?_
        have hv3' := hv3.mono hb4; have hb34 := Below.chain hb3 hb4; clear hv3 hb3 hb4
        go_wp2_with (go_at_call 72; refine (K5.out _).mono ?_; rintro e w5 ⟨rfl, h⟩; subst h; refine Hid.out ?_)
        refine Lib.hid ?_
        go_wp2_with (go_at_call 72; refine (K6.out _).mono ?_; rintro e w6 ⟨rfl, h⟩; subst h; refine Hid.out ?_)
        refine Lib.hid ?_
        go_wp2_with (go_at_call 114; refine (K8.out _ _ hv3').mono ?_; rintro e w7 ⟨v7, rfl, hv7, h⟩; subst h; refine Hid.out ?_)
        refine Lib.hid ?_
        go_wp2_with (go_at_call 114; refine (K9.out _ _ hv4).mono ?_; rintro e w8 ⟨v8, rfl, hv8, h⟩; subst h; refine Hid.out ?_)
        refine Lib.hid ?_
        go_wp2_with (go_at_call 113; refine (K10.out _ _ _ hv7 hv8).mono ?_; rintro e w9 ⟨rfl, hb9⟩; refine Hid.out ?_)
        have hv3'' := hv3'.mono hb9; have hv4'' := hv4.mono hb9
        refine Lib.hid ?_
        go_wp2_with (go_at_call 129; refine (KM.out _ _ _ hv3'' hv4'').mono ?_; rintro e w10 ⟨v10, rfl, hv10, hb10⟩; refine Hid.out ?_)
        refine Lib.hid ?_
        go_wp2_with (go_at_call 72; refine (K5.out _).mono ?_; rintro e w11 ⟨rfl, h⟩; subst h; refine Hid.out ?_)
        refine Lib.hid ?_
        go_wp2_with (go_at_call 127; refine (K12.out _ _ hv10).mono ?_; rintro e w12 ⟨rfl, hb12⟩; refine Hid.out ?_)
        refine Lib.hid ?_
        go_wp2
        go_ret
        exact ⟨rfl, Below.chain hb34 (Below.chain hb9 (Below.chain hb10 hb12))⟩
  · by_cases hpq : p = q
    · subst hpq
      have HR := Z1.out rfl; clear Z1 Z2 Z3; subst HR
      go_enter Tryz.func81, Tryz.ntmps81
      go_wp2_with (go_at_call 111; refine (K1.out _).mono ?_; rintro e w1 ⟨rfl, h⟩; subst h; refine Hid.out ?_)
      refine Lib.hid ?_
      go_wp2_with (go_at_call 111; refine (K2.out _).mono ?_; rintro e w2 ⟨rfl, h⟩; subst h; refine Hid.out ?_)
      refine Lib.hid ?_
      go_wp2_with (go_at_call 115; refine (K3.out _).mono ?_; rintro e w3 ⟨v3, rfl, hv3, hb3⟩; refine Hid.out ?_)
      refine Lib.hid ?_
      go_wp2_with (go_at_call 115; refine (K4.out _).mono ?_; rintro e w4 ⟨v4, rfl, hv4, hb4⟩; refine Hid.out ?_)
      refine Lib.hid ?_
      have hv3' := hv3.mono hb4; have hb34 := Below.chain hb3 hb4; clear hv3 hb3 hb4
      go_wp2_with (go_at_call 72; refine (K5.out _).mono ?_; rintro e w5 ⟨rfl, h⟩; subst h; refine Hid.out ?_)
      refine Lib.hid ?_
      go_wp2_with (go_at_call 72; refine (K6.out _).mono ?_; rintro e w6 ⟨rfl, h⟩; subst h; refine Hid.out ?_)
      refine Lib.hid ?_
      go_wp2_with (go_at_call 128; refine (K7.out _ _ _ hv3' hv4).mono ?_; rintro e w7 ⟨v7, rfl, hv7, hb7⟩; refine Hid.out ?_)
      refine Lib.hid ?_
      go_wp2_with (go_at_call 72; refine (K5.out _).mono ?_; rintro e w8 ⟨rfl, h⟩; subst h; refine Hid.out ?_)
      refine Lib.hid ?_
      go_wp2_with (go_at_call 127; refine (K11.out _ _ hv7).mono ?_; rintro e w9 ⟨rfl, hb9⟩; refine Hid.out ?_)
      refine Lib.hid ?_
      go_wp2
      go_ret
      exact ⟨rfl, Below.chain hb34 (Below.chain hb7 hb9)⟩
    · have hb : (p == q) = false := by rw [beq_eq_false_iff_ne]; exact hpq
      cases hr : decide (0 ≤ r)
      · have KM := Lib.hid (HM2.out hr); have HR := Z3.out hpq hr; clear Z1 Z2 Z3 HM1 HM2 hpq; subst HR
        go_enter Tryz.func81, Tryz.ntmps81
        go_wp2_with (go_at_call 111; refine (K1.out _).mono ?_; rintro e w1 ⟨rfl, h⟩; subst h; refine Hid.out ?_)
        refine Lib.hid ?_
        go_wp2_with (go_at_call 111; refine (K2.out _).mono ?_; rintro e w2 ⟨rfl, h⟩; subst h; refine Hid.out ?_)
        refine Lib.hid ?_
        go_wp2_with (go_at_call 115; refine (K3.out _).mono ?_; rintro e w3 ⟨v3, rfl, hv3, hb3⟩; refine Hid.out ?_)
        refine Lib.hid ?_
        go_wp2_with (go_at_call 115; refine (K4.out _).mono ?_; rintro e w4 ⟨v4, rfl, hv4, hb4⟩; refine Hid.out ?_)
        refine Lib.hid ?_
        have hv3' := hv3.mono hb4; have hb34 := Below.chain hb3 hb4; clear hv3 hb3 hb4
        go_wp2_with (go_at_call 72; refine (K5.out _).mono ?_; rintro e w5 ⟨rfl, h⟩; subst h; refine Hid.out ?_)
        refine Lib.hid ?_
        go_wp2_with (go_at_call 72; refine (K6.out _).mono ?_; rintro e w6 ⟨rfl, h⟩; subst h; refine Hid.out ?_)
        refine Lib.hid ?_
        go_wp2_with (go_at_call 114; refine (K8.out _ _ hv3').mono ?_; rintro e w7 ⟨v7, rfl, hv7, h⟩; subst h; refine Hid.out ?_)
        refine Lib.hid ?_
        go_wp2_with (go_at_call 114; refine (K9.out _ _ hv4).mono ?_; rintro e w8 ⟨v8, rfl, hv8, h⟩; subst h; refine Hid.out ?_)
        refine Lib.hid ?_
        go_wp2_with (go_at_call 113; refine (K10.out _ _ _ hv7 hv8).mono ?_; rintro e w9 ⟨rfl, hb9⟩; refine Hid.out ?_)
        have hv3'' := hv3'.mono hb9; have hv4'' := hv4.mono hb9
        refine Lib.hid ?_
        go_wp2_with (go_at_call 129; refine (KM.out _ _ _ hv4'' hv3'').mono ?_; rintro e w10 ⟨v10, rfl, hv10, hb10⟩; refine Hid.out ?_)
        refine Lib.hid ?_
        go_wp2_with (go_at_call 72; refine (K6.out _).mono ?_; rintro e w11 ⟨rfl, h⟩; subst h; refine Hid.out ?_)
        refine Lib.hid ?_
        go_wp2_with (go_at_call 127; refine (K13.out _ _ hv10).mono ?_; rintro e w12 ⟨rfl, hb12⟩; refine Hid.out ?_)
        refine Lib.hid ?_
        go_wp2
        go_ret
        exact ⟨rfl, Below.chain hb34 (Below.chain hb9 (Below.chain hb10 hb12))⟩
      · have KM := Lib.hid (HM1.out hr); have HR := Z2.out hpq hr; clear Z1 Z2 Z3 HM1 HM2 hpq; subst HR
        go_enter Tryz.func81, Tryz.ntmps81
        go_wp2_with (go_at_call 111; refine (K1.out _).mono ?_; rintro e w1 ⟨rfl, h⟩; subst h; refine Hid.out ?_)
        refine Lib.hid ?_
        go_wp2_with (go_at_call 111; refine (K2.out _).mono ?_; rintro e w2 ⟨rfl, h⟩; subst h; refine Hid.out ?_)
        refine Lib.hid ?_
        go_wp2_with (go_at_call 115; refine (K3.out _).mono ?_; rintro e w3 ⟨v3, rfl, hv3, hb3⟩; refine Hid.out ?_)
        refine Lib.hid ?_
        go_wp2_with (go_at_call 115; refine (K4.out _).mono ?_; rintro e w4 ⟨v4, rfl, hv4, hb4⟩; refine Hid.out ?_)
        refine Lib.hid ?_
        have hv3' := hv3.mono hb4; have hb34 := Below.chain hb3 hb4; clear hv3 hb3 hb4
        go_wp2_with (go_at_call 72; refine (K5.out _).mono ?_; rintro e w5 ⟨rfl, h⟩; subst h; refine Hid.out ?_)
        refine Lib.hid ?_
        go_wp2_with (go_at_call 72; refine (K6.out _).mono ?_; rintro e w6 ⟨rfl, h⟩; subst h; refine Hid.out ?_)
        refine Lib.hid ?_
        go_wp2_with (go_at_call 114; refine (K8.out _ _ hv3').mono ?_; rintro e w7 ⟨v7, rfl, hv7, h⟩; subst h; refine Hid.out ?_)
        refine Lib.hid ?_
        go_wp2_with (go_at_call 114; refine (K9.out _ _ hv4).mono ?_; rintro e w8 ⟨v8, rfl, hv8, h⟩; subst h; refine Hid.out ?_)
        refine Lib.hid ?_
        go_wp2_with (go_at_call 113; refine (K10.out _ _ _ hv7 hv8).mono ?_; rintro e w9 ⟨rfl, hb9⟩; refine Hid.out ?_)
        have hv3'' := hv3'.mono hb9; have hv4'' := hv4.mono hb9
        refine Lib.hid ?_
        go_wp2_with (go_at_call 129; refine (KM.out _ _ _ hv3'' hv4'').mono ?_; rintro e w10 ⟨v10, rfl, hv10, hb10⟩; refine Hid.out ?_)
        refine Lib.hid ?_
        go_wp2_with (go_at_call 72; refine (K5.out _).mono ?_; rintro e w11 ⟨rfl, h⟩; subst h; refine Hid.out ?_)
        refine Lib.hid ?_
        go_wp2_with (go_at_call 127; refine (K12.out _ _ hv10).mono ?_; rintro e w12 ⟨rfl, hb12⟩; refine Hid.out ?_)
        refine Lib.hid ?_
        go_wp2
        go_ret
        exact ⟨rfl, Below.chain hb34 (Below.chain hb9 (Below.chain hb10 hb12))⟩

theorem refSumI (s t : ByteArray) (x y : Int) (w : World) (hs : bytes s = Lib.itoa x) (ht : bytes t = Lib.itoa y) (hls : s.size ≤ 100000000) (hlt : t.size ≤ 100000000) :
    Calls Tryz.prog 81 #[.string s, .string t] w (Bret (.string (str (Lib.itoa (x + y)))) w) := by
  by_cases h : (Lib.decDigits x.natAbs).length ≤ 17 ∧ (Lib.decDigits y.natAbs).length ≤ 17
  · exact sum_short s t x y w hs ht hls hlt h.1 h.2
  · exact sum_long s t x y w hs ht hls hlt h
end Go.Proofs.YtipnnmbjkpidoaaGreatDoor
