import Derived.Test.YtjobmkdaaionlaaGreatDoorCut19
import Derived.Test.YtjobmkdaaionlaaGreatDoorCut16
import Derived.Test.YtjobmkdaaionlaaGreatDoorCut18
import Derived.Test.YtjobmkdaaionlaaGreatDoorCut15

set_option linter.unusedVariables false
/-
  The reference: Sum, Diff, Product, limited, Add, Sub, Mul.
-/
namespace Go.Proofs.YtjobmkdaaionlaaGreatDoor
open Go Go.Proofs Go.RowKit
theorem madeZ_same {x y : Int} {p : Bool} (hx : decide (x < 0) = p) (hy : decide (y < 0) = p) : madeZ p (x.natAbs + y.natAbs) = x + y := by
  cases p
  · rw [decide_eq_false_iff_not] at hx hy; simp only [madeZ]; simp; omega
  · rw [decide_eq_true_eq] at hx hy; simp only [madeZ]; simp; omega
theorem madeZ_left {x y : Int} {p q : Bool} (hx : decide (x < 0) = p) (hy : decide (y < 0) = q) (hpq : p ≠ q) (h : y.natAbs ≤ x.natAbs) : madeZ p (x.natAbs - y.natAbs) = x + y := by
  cases p <;> cases q
  · exact absurd rfl hpq
  · rw [decide_eq_false_iff_not] at hx; rw [decide_eq_true_eq] at hy; simp only [madeZ]; simp; omega
  · rw [decide_eq_false_iff_not] at hy; rw [decide_eq_true_eq] at hx; simp only [madeZ]; simp; omega
  · exact absurd rfl hpq
theorem cmpN_ge {x y : Nat} (h : decide (0 ≤ cmpN x y) = true) : y ≤ x := by
  rw [decide_eq_true_eq] at h
  unfold cmpN at h
  by_cases h1 : x < y
  · rw [if_pos h1] at h; omega
  · omega
theorem cmpN_lt {x y : Nat} (h : decide (0 ≤ cmpN x y) = false) : x ≤ y := by
  rw [decide_eq_false_iff_not] at h
  unfold cmpN at h
  by_cases h1 : x < y
  · omega
  · exfalso; rw [if_neg h1] at h; split at h <;> omega
theorem dec17 {z : Int} (h : (Lib.decDigits z.natAbs).length ≤ 17) : z.natAbs < 100000000000000000 := by
  have h1 := dec_lt (allDig_decDigits z.natAbs)
  rw [dec_decDigits] at h1
  exact Nat.lt_of_lt_of_le h1 (Nat.le_trans (Nat.pow_le_pow_right (by decide) h) (by decide))
theorem nl_len_add (x y : Nat) : (nl (x + y)).length ≤ (nl x).length + (nl y).length + 1 := by
  refine nl_length_le ?_
  have h1 := dlt_pow_limbs x; have h2 := dlt_pow_limbs y
  have p1 : (10 : Nat) ^ (nl x).length ≤ 10 ^ ((nl x).length + (nl y).length) := Nat.pow_le_pow_right (by decide) (by omega)
  have p2 : (10 : Nat) ^ (nl y).length ≤ 10 ^ ((nl x).length + (nl y).length) := Nat.pow_le_pow_right (by decide) (by omega)
  rw [Nat.pow_succ]
  generalize (10 : Nat) ^ ((nl x).length + (nl y).length) = p at *
  omega
theorem dlen9 {s : ByteArray} {z : Int} (h : bytes s = Lib.itoa z) (hs : s.size ≤ 100000000) : (dgs z.natAbs).length ≤ 1000000000 := by
  rw [dgs_length]
  have := txt_len h
  omega
set_option maxHeartbeats 8000000 in
theorem sum_short (s t : ByteArray) (x y : Int) (w : World) (hs : bytes s = Lib.itoa x) (ht : bytes t = Lib.itoa y) (hls : s.size ≤ 100000000) (hlt : t.size ≤ 100000000)
    (h1 : (Lib.decDigits x.natAbs).length ≤ 17) (h2 : (Lib.decDigits y.natAbs).length ≤ 17) :
    Calls Tryz.prog 105 #[.string s, .string t] w (Bret (.string (str (Lib.itoa (x + y)))) w) := by
  have S1 := fun W => shortT s x 17 W hs (by omega) (by decide)
  have S2 := fun W => shortT t y 17 W ht (by omega) (by decide)
  have N1 := fun W => number_any s x W hs (by omega)
  have N2 := fun W => number_any t y W ht (by omega)
  have b1 := dec17 h1; have b2 := dec17 h2
  have WW := fun W => whole_any (x + y) W (by omega) (by omega)
  rw [decide_eq_true h1] at S1
  rw [decide_eq_true h2] at S2
  generalize str (Lib.itoa (x + y)) = R at *
  have K1 := Lib.hid S1; have K2 := Lib.hid S2; have K3 := Lib.hid N1; have K4 := Lib.hid N2; have K5 := Lib.hid WW
  have x1 : -100000000000000000 ≤ x := by omega
  have x2 : x ≤ 100000000000000000 := by omega
  have y1 : -100000000000000000 ≤ y := by omega
  have y2 : y ≤ 100000000000000000 := by omega
  clear S1 S2 N1 N2 WW h1 h2 hs ht hls hlt b1 b2
  go_enter Tryz.func105, Tryz.ntmps105
  go_wp2_with (go_at_call 112; refine (K1.out _).mono ?_; rintro e w1 ⟨rfl, h⟩; subst h; refine Hid.out ?_)
  refine Lib.hid ?_
  go_wp2_with (go_at_call 112; refine (K2.out _).mono ?_; rintro e w2 ⟨rfl, h⟩; subst h; refine Hid.out ?_)
  refine Lib.hid ?_
  go_wp2_with (go_at_call 115; refine (K3.out _).mono ?_; rintro e w3 ⟨rfl, h⟩; subst h; refine Hid.out ?_)
  refine Lib.hid ?_
  go_wp2_with (go_at_call 115; refine (K4.out _).mono ?_; rintro e w4 ⟨rfl, h⟩; subst h; refine Hid.out ?_)
  refine Lib.hid ?_
  go_wp2_with (go_at_call 113; refine (K5.out _).mono ?_; rintro e w5 ⟨rfl, h⟩; subst h; refine Hid.out ?_)
  refine Lib.hid ?_
  go_wp2
  go_ret
  exact ⟨rfl, Below.refl _ _⟩
set_option maxHeartbeats 16000000 in
theorem sum_long (s t : ByteArray) (x y : Int) (w : World) (hs : bytes s = Lib.itoa x) (ht : bytes t = Lib.itoa y) (hls : s.size ≤ 100000000) (hlt : t.size ≤ 100000000)
    (h12 : ¬ ((Lib.decDigits x.natAbs).length ≤ 17 ∧ (Lib.decDigits y.natAbs).length ≤ 17)) :
    Calls Tryz.prog 105 #[.string s, .string t] w (Bret (.string (str (Lib.itoa (x + y)))) w) := by
  have S1 := fun W => shortT s x 17 W hs (by omega) (by decide)
  have S2 := fun W => shortT t y 17 W ht (by omega) (by decide)
  have D1 := fun W => refDigits_txt s x W hs (by omega)
  have D2 := fun W => refDigits_txt t y W ht (by omega)
  have G1 := fun W => negative_any s W (txt_size hs)
  have G2 := fun W => negative_any t W (txt_size ht)
  rw [txt_neg hs] at G1
  rw [txt_neg ht] at G2
  have l1 := dlen9 hs hls; have l2 := dlen9 ht hlt
  have P : ∀ v1 v2 W, DV W v1 (dgs x.natAbs) → DV W v2 (dgs y.natAbs) → Calls Tryz.prog 143 #[v1, v2] W (DRet (nl (x.natAbs + y.natAbs)) W) := fun v1 v2 W a b => by
    have := refPlus_any _ _ v1 v2 W a b (dgs_dg _) (dgs_dg _) l1 l2
    rwa [dv_dgs, dv_dgs] at this
  have M1 : y.natAbs ≤ x.natAbs → ∀ v1 v2 W, DV W v1 (dgs x.natAbs) → DV W v2 (dgs y.natAbs) → Calls Tryz.prog 144 #[v1, v2] W (DRet (nl (x.natAbs - y.natAbs)) W) := fun h v1 v2 W a b => by
    have := refMinus_any _ _ v1 v2 W a b (dgs_dg _) (dgs_dg _) l1 (by rw [dv_dgs, dv_dgs]; exact h)
    rwa [dv_dgs, dv_dgs] at this
  have M2 : x.natAbs ≤ y.natAbs → ∀ v1 v2 W, DV W v1 (dgs y.natAbs) → DV W v2 (dgs x.natAbs) → Calls Tryz.prog 144 #[v1, v2] W (DRet (nl (y.natAbs - x.natAbs)) W) := fun h v1 v2 W a b => by
    have := refMinus_any _ _ v1 v2 W a b (dgs_dg _) (dgs_dg _) l2 (by rw [dv_dgs, dv_dgs]; exact h)
    rwa [dv_dgs, dv_dgs] at this
  have U1 : ∀ v W, DV W v (dgs x.natAbs) → Calls Tryz.prog 117 #[v] W fun e w' => ∃ v', e = .returned v' ∧ DV W v' (nl x.natAbs) ∧ w' = W := fun v W hv => by
    have := cut_any _ v W hv (dgs_dg _) (by omega)
    rwa [dv_dgs] at this
  have U2 : ∀ v W, DV W v (dgs y.natAbs) → Calls Tryz.prog 117 #[v] W fun e w' => ∃ v', e = .returned v' ∧ DV W v' (nl y.natAbs) ∧ w' = W := fun v W hv => by
    have := cut_any _ v W hv (dgs_dg _) (by omega)
    rwa [dv_dgs] at this
  have O := fun vx vy W hx hy => refOrder_any x.natAbs y.natAbs vx vy W hx hy
  have MM : ∀ (a : Nat) (b : Bool), a ≤ x.natAbs + y.natAbs → ∀ v W, DV W v (nl a) → Calls Tryz.prog 119 #[v, .bool b] W (Bret (.string (str (Lib.itoa (madeZ b a)))) W) := fun a b ha v W hv => by
    have hl : (nl a).length ≤ 1000000000 := by
      have h1 := nl_length_mono ha
      have h2 := nl_len_add x.natAbs y.natAbs
      have h3 := nl_len_le x.natAbs; have h4 := nl_len_le y.natAbs
      have h5 := txt_len hs; have h6 := txt_len ht
      omega
    have := made_any (nl a) v b W hv (nl_small a) hl
    rwa [dv_limbs] at this
  obtain ⟨p, hp⟩ : ∃ p, decide (x < 0) = p := ⟨_, rfl⟩
  obtain ⟨q, hq⟩ : ∃ q, decide (y < 0) = q := ⟨_, rfl⟩
  have z1 : p = q → str (Lib.itoa (madeZ p (x.natAbs + y.natAbs))) = str (Lib.itoa (x + y)) := fun e => by rw [madeZ_same hp (hq.trans e.symm)]
  have z2 : p ≠ q → decide (0 ≤ cmpN x.natAbs y.natAbs) = true → str (Lib.itoa (madeZ p (x.natAbs - y.natAbs))) = str (Lib.itoa (x + y)) := fun e h => by rw [madeZ_left hp hq e (cmpN_ge h)]
  have z3 : p ≠ q → decide (0 ≤ cmpN x.natAbs y.natAbs) = false → str (Lib.itoa (madeZ q (y.natAbs - x.natAbs))) = str (Lib.itoa (x + y)) := fun e h => by rw [madeZ_left hq hp e.symm (cmpN_lt h), Int.add_comm]
  have M1' := fun h => M1 (cmpN_ge h)
  have M2' := fun h => M2 (cmpN_lt h)
  have MA := MM (x.natAbs + y.natAbs) p (Nat.le_refl _)
  have MB := MM (x.natAbs - y.natAbs) p (by omega)
  have MC := MM (y.natAbs - x.natAbs) q (by omega)
  rw [hp] at G1
  rw [hq] at G2
  generalize str (Lib.itoa (madeZ p (x.natAbs + y.natAbs))) = R1 at *
  generalize str (Lib.itoa (madeZ p (x.natAbs - y.natAbs))) = R2 at *
  generalize str (Lib.itoa (madeZ q (y.natAbs - x.natAbs))) = R3 at *
  generalize str (Lib.itoa (x + y)) = R at *
  generalize cmpN x.natAbs y.natAbs = r at *
  obtain ⟨c1, hc1⟩ : ∃ c1, decide ((Lib.decDigits x.natAbs).length ≤ 17) = c1 := ⟨_, rfl⟩
  obtain ⟨c2, hc2⟩ : ∃ c2, decide ((Lib.decDigits y.natAbs).length ≤ 17) = c2 := ⟨_, rfl⟩
  rw [hc1] at S1
  rw [hc2] at S2
  have hcc : c1 = false ∨ (c1 = true ∧ c2 = false) := by
    by_cases a : (Lib.decDigits x.natAbs).length ≤ 17
    · right
      refine ⟨by rw [← hc1]; exact decide_eq_true a, ?_⟩
      rw [← hc2]; exact decide_eq_false (fun b => h12 ⟨a, b⟩)
    · left; rw [← hc1]; exact decide_eq_false a
  have K1 := Lib.hid S1; have K2 := Lib.hid S2; have K3 := Lib.hid D1; have K4 := Lib.hid D2; have K5 := Lib.hid G1; have K6 := Lib.hid G2; have K7 := Lib.hid P; have K8 := Lib.hid U1; have K9 := Lib.hid U2; have K10 := Lib.hid O; have K11 := Lib.hid MA; have K12 := Lib.hid MB; have K13 := Lib.hid MC; have HM1 := Lib.hid M1'; have HM2 := Lib.hid M2'; have Z1 := Lib.hid z1; have Z2 := Lib.hid z2; have Z3 := Lib.hid z3
  clear S1 S2 D1 D2 G1 G2 P U1 U2 O MM MA MB MC M1 M2 M1' M2' z1 z2 z3 hp hq hc1 hc2 h12 hs ht hls hlt l1 l2
  rcases hcc with rfl | ⟨rfl, rfl⟩
  · by_cases hpq : p = q
    · subst hpq
      have HR := Z1.out rfl; clear Z1 Z2 Z3; subst HR
      go_enter Tryz.func105, Tryz.ntmps105
      go_wp2_with (go_at_call 112; refine (K1.out _).mono ?_; rintro e w1 ⟨rfl, h⟩; subst h; refine Hid.out ?_)
      refine Lib.hid ?_
      go_wp2_with (go_at_call 118; refine (K3.out _).mono ?_; rintro e w3 ⟨v3, rfl, hv3, hb3⟩; refine Hid.out ?_)
      refine Lib.hid ?_
      go_wp2_with (go_at_call 118; refine (K4.out _).mono ?_; rintro e w4 ⟨v4, rfl, hv4, hb4⟩; refine Hid.out ?_)
      refine Lib.hid ?_
      have hv3' := hv3.mono hb4; have hb34 := Below.chain hb3 hb4; clear hv3 hb3 hb4
      go_wp2_with (go_at_call 94; refine (K5.out _).mono ?_; rintro e w5 ⟨rfl, h⟩; subst h; refine Hid.out ?_)
      refine Lib.hid ?_
      go_wp2_with (go_at_call 94; refine (K6.out _).mono ?_; rintro e w6 ⟨rfl, h⟩; subst h; refine Hid.out ?_)
      refine Lib.hid ?_
      go_wp2_with (go_at_call 143; refine (K7.out _ _ _ hv3' hv4).mono ?_; rintro e w7 ⟨v7, rfl, hv7, hb7⟩; refine Hid.out ?_)
      refine Lib.hid ?_
      go_wp2_with (go_at_call 94; refine (K5.out _).mono ?_; rintro e w8 ⟨rfl, h⟩; subst h; refine Hid.out ?_)
      refine Lib.hid ?_
      go_wp2_with (go_at_call 119; refine (K11.out _ _ hv7).mono ?_; rintro e w9 ⟨rfl, hb9⟩; refine Hid.out ?_)
      refine Lib.hid ?_
      go_wp2
      go_ret
      exact ⟨rfl, Below.chain hb34 (Below.chain hb7 hb9)⟩
    · have hb : (p == q) = false := by rw [beq_eq_false_iff_ne]; exact hpq
      cases hr : decide (0 ≤ r)
      · have KM := Lib.hid (HM2.out hr); have HR := Z3.out hpq hr; clear Z1 Z2 Z3 HM1 HM2 hpq; subst HR
        go_enter Tryz.func105, Tryz.ntmps105
        go_wp2_with (go_at_call 112; refine (K1.out _).mono ?_; rintro e w1 ⟨rfl, h⟩; subst h; refine Hid.out ?_)
        refine Lib.hid ?_
        go_wp2_with (go_at_call 118; refine (K3.out _).mono ?_; rintro e w3 ⟨v3, rfl, hv3, hb3⟩; refine Hid.out ?_)
        refine Lib.hid ?_
        go_wp2_with (go_at_call 118; refine (K4.out _).mono ?_; rintro e w4 ⟨v4, rfl, hv4, hb4⟩; refine Hid.out ?_)
        refine Lib.hid ?_
        have hv3' := hv3.mono hb4; have hb34 := Below.chain hb3 hb4; clear hv3 hb3 hb4
        go_wp2_with (go_at_call 94; refine (K5.out _).mono ?_; rintro e w5 ⟨rfl, h⟩; subst h; refine Hid.out ?_)
        refine Lib.hid ?_
        go_wp2_with (go_at_call 94; refine (K6.out _).mono ?_; rintro e w6 ⟨rfl, h⟩; subst h; refine Hid.out ?_)
        refine Lib.hid ?_
        go_wp2_with (go_at_call 117; refine (K8.out _ _ hv3').mono ?_; rintro e w7 ⟨v7, rfl, hv7, h⟩; subst h; refine Hid.out ?_)
        refine Lib.hid ?_
        go_wp2_with (go_at_call 117; refine (K9.out _ _ hv4).mono ?_; rintro e w8 ⟨v8, rfl, hv8, h⟩; subst h; refine Hid.out ?_)
        refine Lib.hid ?_
        go_wp2_with (go_at_call 137; refine (K10.out _ _ _ hv7 hv8).mono ?_; rintro e w9 ⟨rfl, hb9⟩; refine Hid.out ?_)
        have hv3'' := hv3'.mono hb9; have hv4'' := hv4.mono hb9
        refine Lib.hid ?_
        go_wp2_with (go_at_call 144; refine (KM.out _ _ _ hv4'' hv3'').mono ?_; rintro e w10 ⟨v10, rfl, hv10, hb10⟩; refine Hid.out ?_)
        refine Lib.hid ?_
        go_wp2_with (go_at_call 94; refine (K6.out _).mono ?_; rintro e w11 ⟨rfl, h⟩; subst h; refine Hid.out ?_)
        refine Lib.hid ?_
        go_wp2_with (go_at_call 119; refine (K13.out _ _ hv10).mono ?_; rintro e w12 ⟨rfl, hb12⟩; refine Hid.out ?_)
        refine Lib.hid ?_
        go_wp2
        go_ret
        exact ⟨rfl, Below.chain hb34 (Below.chain hb9 (Below.chain hb10 hb12))⟩
      · have KM := Lib.hid (HM1.out hr); have HR := Z2.out hpq hr; clear Z1 Z2 Z3 HM1 HM2 hpq; subst HR
        go_enter Tryz.func105, Tryz.ntmps105
        go_wp2_with (go_at_call 112; refine (K1.out _).mono ?_; rintro e w1 ⟨rfl, h⟩; subst h; refine Hid.out ?_)
        refine Lib.hid ?_
        go_wp2_with (go_at_call 118; refine (K3.out _).mono ?_; rintro e w3 ⟨v3, rfl, hv3, hb3⟩; refine Hid.out ?_)
        refine Lib.hid ?_
        go_wp2_with (go_at_call 118; refine (K4.out _).mono ?_; rintro e w4 ⟨v4, rfl, hv4, hb4⟩; refine Hid.out ?_)
        refine Lib.hid ?_
        have hv3' := hv3.mono hb4; have hb34 := Below.chain hb3 hb4; clear hv3 hb3 hb4
        go_wp2_with (go_at_call 94; refine (K5.out _).mono ?_; rintro e w5 ⟨rfl, h⟩; subst h; refine Hid.out ?_)
        refine Lib.hid ?_
        go_wp2_with (go_at_call 94; refine (K6.out _).mono ?_; rintro e w6 ⟨rfl, h⟩; subst h; refine Hid.out ?_)
        refine Lib.hid ?_
        go_wp2_with (go_at_call 117; refine (K8.out _ _ hv3').mono ?_; rintro e w7 ⟨v7, rfl, hv7, h⟩; subst h; refine Hid.out ?_)
        refine Lib.hid ?_
        go_wp2_with (go_at_call 117; refine (K9.out _ _ hv4).mono ?_; rintro e w8 ⟨v8, rfl, hv8, h⟩; subst h; refine Hid.out ?_)
        refine Lib.hid ?_
        go_wp2_with (go_at_call 137; refine (K10.out _ _ _ hv7 hv8).mono ?_; rintro e w9 ⟨rfl, hb9⟩; refine Hid.out ?_)
        have hv3'' := hv3'.mono hb9; have hv4'' := hv4.mono hb9
        refine Lib.hid ?_
        go_wp2_with (go_at_call 144; refine (KM.out _ _ _ hv3'' hv4'').mono ?_; rintro e w10 ⟨v10, rfl, hv10, hb10⟩; refine Hid.out ?_)
        refine Lib.hid ?_
        go_wp2_with (go_at_call 94; refine (K5.out _).mono ?_; rintro e w11 ⟨rfl, h⟩; subst h; refine Hid.out ?_)
        refine Lib.hid ?_
        go_wp2_with (go_at_call 119; refine (K12.out _ _ hv10).mono ?_; rintro e w12 ⟨rfl, hb12⟩; refine Hid.out ?_)
        refine Lib.hid ?_
        go_wp2
        go_ret
        exact ⟨rfl, Below.chain hb34 (Below.chain hb9 (Below.chain hb10 hb12))⟩
  · by_cases hpq : p = q
    · subst hpq
      have HR := Z1.out rfl; clear Z1 Z2 Z3; subst HR
      go_enter Tryz.func105, Tryz.ntmps105
      go_wp2_with (go_at_call 112; refine (K1.out _).mono ?_; rintro e w1 ⟨rfl, h⟩; subst h; refine Hid.out ?_)
      refine Lib.hid ?_
      go_wp2_with (go_at_call 112; refine (K2.out _).mono ?_; rintro e w2 ⟨rfl, h⟩; subst h; refine Hid.out ?_)
      refine Lib.hid ?_
      go_wp2_with (go_at_call 118; refine (K3.out _).mono ?_; rintro e w3 ⟨v3, rfl, hv3, hb3⟩; refine Hid.out ?_)
      refine Lib.hid ?_
      go_wp2_with (go_at_call 118; refine (K4.out _).mono ?_; rintro e w4 ⟨v4, rfl, hv4, hb4⟩; refine Hid.out ?_)
      refine Lib.hid ?_
      have hv3' := hv3.mono hb4; have hb34 := Below.chain hb3 hb4; clear hv3 hb3 hb4
      go_wp2_with (go_at_call 94; refine (K5.out _).mono ?_; rintro e w5 ⟨rfl, h⟩; subst h; refine Hid.out ?_)
      refine Lib.hid ?_
      go_wp2_with (go_at_call 94; refine (K6.out _).mono ?_; rintro e w6 ⟨rfl, h⟩; subst h; refine Hid.out ?_)
      refine Lib.hid ?_
      go_wp2_with (go_at_call 143; refine (K7.out _ _ _ hv3' hv4).mono ?_; rintro e w7 ⟨v7, rfl, hv7, hb7⟩; refine Hid.out ?_)
      refine Lib.hid ?_
      go_wp2_with (go_at_call 94; refine (K5.out _).mono ?_; rintro e w8 ⟨rfl, h⟩; subst h; refine Hid.out ?_)
      refine Lib.hid ?_
      go_wp2_with (go_at_call 119; refine (K11.out _ _ hv7).mono ?_; rintro e w9 ⟨rfl, hb9⟩; refine Hid.out ?_)
      refine Lib.hid ?_
      go_wp2
      go_ret
      exact ⟨rfl, Below.chain hb34 (Below.chain hb7 hb9)⟩
    · have hb : (p == q) = false := by rw [beq_eq_false_iff_ne]; exact hpq
      cases hr : decide (0 ≤ r)
      · have KM := Lib.hid (HM2.out hr); have HR := Z3.out hpq hr; clear Z1 Z2 Z3 HM1 HM2 hpq; subst HR
        go_enter Tryz.func105, Tryz.ntmps105
        go_wp2_with (go_at_call 112; refine (K1.out _).mono ?_; rintro e w1 ⟨rfl, h⟩; subst h; refine Hid.out ?_)
        refine Lib.hid ?_
        go_wp2_with (go_at_call 112; refine (K2.out _).mono ?_; rintro e w2 ⟨rfl, h⟩; subst h; refine Hid.out ?_)
        refine Lib.hid ?_
        go_wp2_with (go_at_call 118; refine (K3.out _).mono ?_; rintro e w3 ⟨v3, rfl, hv3, hb3⟩; refine Hid.out ?_)
        refine Lib.hid ?_
        go_wp2_with (go_at_call 118; refine (K4.out _).mono ?_; rintro e w4 ⟨v4, rfl, hv4, hb4⟩; refine Hid.out ?_)
        refine Lib.hid ?_
        have hv3' := hv3.mono hb4; have hb34 := Below.chain hb3 hb4; clear hv3 hb3 hb4
        go_wp2_with (go_at_call 94; refine (K5.out _).mono ?_; rintro e w5 ⟨rfl, h⟩; subst h; refine Hid.out ?_)
        refine Lib.hid ?_
        go_wp2_with (go_at_call 94; refine (K6.out _).mono ?_; rintro e w6 ⟨rfl, h⟩; subst h; refine Hid.out ?_)
        refine Lib.hid ?_
        go_wp2_with (go_at_call 117; refine (K8.out _ _ hv3').mono ?_; rintro e w7 ⟨v7, rfl, hv7, h⟩; subst h; refine Hid.out ?_)
        refine Lib.hid ?_
        go_wp2_with (go_at_call 117; refine (K9.out _ _ hv4).mono ?_; rintro e w8 ⟨v8, rfl, hv8, h⟩; subst h; refine Hid.out ?_)
        refine Lib.hid ?_
        go_wp2_with (go_at_call 137; refine (K10.out _ _ _ hv7 hv8).mono ?_; rintro e w9 ⟨rfl, hb9⟩; refine Hid.out ?_)
        have hv3'' := hv3'.mono hb9; have hv4'' := hv4.mono hb9
        refine Lib.hid ?_
        go_wp2_with (go_at_call 144; refine (KM.out _ _ _ hv4'' hv3'').mono ?_; rintro e w10 ⟨v10, rfl, hv10, hb10⟩; refine Hid.out ?_)
        refine Lib.hid ?_
        go_wp2_with (go_at_call 94; refine (K6.out _).mono ?_; rintro e w11 ⟨rfl, h⟩; subst h; refine Hid.out ?_)
        refine Lib.hid ?_
        go_wp2_with (go_at_call 119; refine (K13.out _ _ hv10).mono ?_; rintro e w12 ⟨rfl, hb12⟩; refine Hid.out ?_)
        refine Lib.hid ?_
        go_wp2
        go_ret
        exact ⟨rfl, Below.chain hb34 (Below.chain hb9 (Below.chain hb10 hb12))⟩
      · have KM := Lib.hid (HM1.out hr); have HR := Z2.out hpq hr; clear Z1 Z2 Z3 HM1 HM2 hpq; subst HR
        go_enter Tryz.func105, Tryz.ntmps105
        go_wp2_with (go_at_call 112; refine (K1.out _).mono ?_; rintro e w1 ⟨rfl, h⟩; subst h; refine Hid.out ?_)
        refine Lib.hid ?_
        go_wp2_with (go_at_call 112; refine (K2.out _).mono ?_; rintro e w2 ⟨rfl, h⟩; subst h; refine Hid.out ?_)
        refine Lib.hid ?_
        go_wp2_with (go_at_call 118; refine (K3.out _).mono ?_; rintro e w3 ⟨v3, rfl, hv3, hb3⟩; refine Hid.out ?_)
        refine Lib.hid ?_
        go_wp2_with (go_at_call 118; refine (K4.out _).mono ?_; rintro e w4 ⟨v4, rfl, hv4, hb4⟩; refine Hid.out ?_)
        refine Lib.hid ?_
        have hv3' := hv3.mono hb4; have hb34 := Below.chain hb3 hb4; clear hv3 hb3 hb4
        go_wp2_with (go_at_call 94; refine (K5.out _).mono ?_; rintro e w5 ⟨rfl, h⟩; subst h; refine Hid.out ?_)
        refine Lib.hid ?_
        go_wp2_with (go_at_call 94; refine (K6.out _).mono ?_; rintro e w6 ⟨rfl, h⟩; subst h; refine Hid.out ?_)
        refine Lib.hid ?_
        go_wp2_with (go_at_call 117; refine (K8.out _ _ hv3').mono ?_; rintro e w7 ⟨v7, rfl, hv7, h⟩; subst h; refine Hid.out ?_)
        refine Lib.hid ?_
        go_wp2_with (go_at_call 117; refine (K9.out _ _ hv4).mono ?_; rintro e w8 ⟨v8, rfl, hv8, h⟩; subst h; refine Hid.out ?_)
        refine Lib.hid ?_
        go_wp2_with (go_at_call 137; refine (K10.out _ _ _ hv7 hv8).mono ?_; rintro e w9 ⟨rfl, hb9⟩; refine Hid.out ?_)
        have hv3'' := hv3'.mono hb9; have hv4'' := hv4.mono hb9
        refine Lib.hid ?_
        go_wp2_with (go_at_call 144; refine (KM.out _ _ _ hv3'' hv4'').mono ?_; rintro e w10 ⟨v10, rfl, hv10, hb10⟩; refine Hid.out ?_)
        refine Lib.hid ?_
        go_wp2_with (go_at_call 94; refine (K5.out _).mono ?_; rintro e w11 ⟨rfl, h⟩; subst h; refine Hid.out ?_)
        refine Lib.hid ?_
        go_wp2_with (go_at_call 119; refine (K12.out _ _ hv10).mono ?_; rintro e w12 ⟨rfl, hb12⟩; refine Hid.out ?_)
        refine Lib.hid ?_
        go_wp2
        go_ret
        exact ⟨rfl, Below.chain hb34 (Below.chain hb9 (Below.chain hb10 hb12))⟩
theorem refSumI (s t : ByteArray) (x y : Int) (w : World) (hs : bytes s = Lib.itoa x) (ht : bytes t = Lib.itoa y) (hls : s.size ≤ 100000000) (hlt : t.size ≤ 100000000) :
    Calls Tryz.prog 105 #[.string s, .string t] w (Bret (.string (str (Lib.itoa (x + y)))) w) := by
  by_cases h : (Lib.decDigits x.natAbs).length ≤ 17 ∧ (Lib.decDigits y.natAbs).length ≤ 17
  · exact sum_short s t x y w hs ht hls hlt h.1 h.2
  · exact sum_long s t x y w hs ht hls hlt h
theorem tail_txt {s : ByteArray} {x : Int} (hs : bytes s = Lib.itoa x) (hx : x < 0) : s.extract 1 s.size = str (Lib.decDigits x.natAbs) := by
  have h := hs
  rw [itoa_neg hx] at h
  apply ByteArray.ext
  apply Array.ext'
  rw [ByteArray.data_extract, Array.toList_extract]
  have hl : s.size = (bytes s).length := rfl
  rw [hl]
  unfold bytes at *
  rw [h]
  simp [str, List.extract]
theorem refMagnitudeT (s : ByteArray) (x : Int) (w : World) (hs : bytes s = Lib.itoa x) (hsz : s.size ≤ 1000000000000) :
    Calls Tryz.prog 122 #[.string s] w fun e w' => e = .returned (.string (str (Lib.itoa (x.natAbs : Int)))) ∧ w' = w := by
  have C := fun W => negative_any s W (txt_size hs)
  rw [txt_neg hs] at C
  have hp := (txt_size hs)
  by_cases hx : x < 0
  · rw [decide_eq_true hx] at C
    have KC := Lib.hid C; have HS := Lib.hid hs; clear C hs
    go_enter Tryz.func122, Tryz.ntmps122
    go_wp2_with (go_at_call 94; refine (KC.out _).mono ?_; rintro e w1 ⟨rfl, h⟩; subst h; refine Hid.out ?_)
    refine Lib.hid ?_
    go_wp2
    go_ret
    refine ⟨?_, rfl⟩
    show Ending.returned (.string (s.extract 1 s.size)) = _
    rw [tail_txt HS.out hx, itoa_nonneg (by omega), Int.natAbs_natCast]
  · rw [decide_eq_false hx] at C
    have e : str (Lib.itoa (x.natAbs : Int)) = s := by rw [show (x.natAbs : Int) = x by omega]; rw [← hs, str_bytes]
    rw [e]
    have KC := Lib.hid C; clear C hs e hx
    go_enter Tryz.func122, Tryz.ntmps122
    go_wp2_with (go_at_call 94; refine (KC.out _).mono ?_; rintro e w1 ⟨rfl, h⟩; subst h; refine Hid.out ?_)
    refine Lib.hid ?_
    go_wp2
    go_ret
    exact ⟨rfl, rfl⟩
theorem refNegatedT (s : ByteArray) (x : Int) (w : World) (hs : bytes s = Lib.itoa x) (hsz : s.size ≤ 1000000000000) :
    Calls Tryz.prog 125 #[.string s] w fun e w' => e = .returned (.string (str (Lib.itoa (-x)))) ∧ w' = w := by
  have hp := (txt_size hs)
  by_cases h0 : x = 0
  · subst h0
    have hz : s = ⟨#[48]⟩ := txt_is_zero hs
    subst hz
    have e : str (Lib.itoa (-0)) = ⟨#[48]⟩ := lit_str str_zero
    rw [e]
    clear hs e
    go_enter Tryz.func125, Tryz.ntmps125
    go_wp2
    go_ret
    exact ⟨rfl, rfl⟩
  · have hd := eq48 s (txt_zero hs h0)
    have C := fun W => negative_any s W (txt_size hs)
    rw [txt_neg hs] at C
    by_cases hx : x < 0
    · rw [decide_eq_true hx] at C
      have KC := Lib.hid C; have HS := Lib.hid hs; clear C hs
      go_enter Tryz.func125, Tryz.ntmps125
      go_wp2_with (go_at_call 94; refine (KC.out _).mono ?_; rintro e w1 ⟨rfl, h⟩; subst h; refine Hid.out ?_)
      refine Lib.hid ?_
      go_wp2
      go_ret
      refine ⟨?_, rfl⟩
      show Ending.returned (.string (s.extract 1 s.size)) = _
      rw [tail_txt HS.out hx, itoa_nonneg (by omega), Int.natAbs_neg]
    · rw [decide_eq_false hx] at C
      have e1 : str (Lib.itoa (-x)) = ⟨#[45]⟩ ++ s := by
        have h := hs
        rw [itoa_nonneg hx] at h
        rw [itoa_neg (by omega), Int.natAbs_neg, ← h]
        apply ByteArray.ext
        apply Array.ext'
        simp [str, bytes]
      rw [e1]
      have KC := Lib.hid C; clear C hs hx e1 h0
      go_enter Tryz.func125, Tryz.ntmps125
      go_wp2_with (go_at_call 94; refine (KC.out _).mono ?_; rintro e w1 ⟨rfl, h⟩; subst h; refine Hid.out ?_)
      refine Lib.hid ?_
      go_wp2
      go_ret
      exact ⟨rfl, rfl⟩
theorem lit_txt {s : ByteArray} {z : Int} (h : bytes s = Lib.itoa z) : str (Lib.itoa z) = s := by rw [← h, str_bytes]
theorem txt_str (z : Int) : bytes (str (Lib.itoa z)) = Lib.itoa z := bytes_str _
theorem itoa_len (z : Int) : (str (Lib.itoa z)).size ≤ 1 + (Lib.decDigits z.natAbs).length := by
  have := txt_len (txt_str z)
  rw [this]; split <;> omega
set_option maxHeartbeats 1000000 in
theorem refDiffI (s t : ByteArray) (x y : Int) (w : World) (hs : bytes s = Lib.itoa x) (ht : bytes t = Lib.itoa y) (hls : s.size ≤ 100000000) (hlt : t.size ≤ 10000000) :
    Calls Tryz.prog 120 #[.string s, .string t] w (Bret (.string (str (Lib.itoa (x - y)))) w) := by
  have C1 := fun W => refNegatedT t y W ht (by omega)
  have C2 := fun W => refSumI s (str (Lib.itoa (-y))) x (-y) W hs (txt_str _) hls (by
    have h1 := itoa_len (-y)
    rw [Int.natAbs_neg] at h1
    have h2 := txt_len ht
    omega)
  rw [show x + -y = x - y by omega] at C2
  generalize str (Lib.itoa (-y)) = u at *
  generalize str (Lib.itoa (x - y)) = R at *
  have K1 := Lib.hid C1; have K2 := Lib.hid C2; clear C1 C2 hs ht hls hlt
  go_enter Tryz.func120, Tryz.ntmps120
  go_wp2_with (go_at_call 125; refine (K1.out _).mono ?_; rintro e w1 ⟨rfl, h⟩; subst h; refine Hid.out ?_)
  refine Lib.hid ?_
  go_wp2_with (go_at_call 105; refine (K2.out _).mono ?_; rintro e w2 ⟨rfl, hb2⟩; refine Hid.out ?_)
  refine Lib.hid ?_
  go_wp2
  go_ret
  exact ⟨rfl, hb2⟩
theorem madeZ_mul (x y : Int) : madeZ (decide (x < 0) != decide (y < 0)) (x.natAbs * y.natAbs) = x * y := by
  rw [← Int.natAbs_mul]
  by_cases hx : x < 0 <;> by_cases hy : y < 0
  · have h := Int.mul_pos_of_neg_of_neg hx hy
    simp only [hx, hy, decide_true, bne_self_eq_false, madeZ]; simp; omega
  · rcases Int.lt_trichotomy y 0 with h | h | h
    · omega
    · subst h; simp [madeZ]
    · have h' := Int.mul_neg_of_neg_of_pos hx h
      simp only [hx, hy, decide_true, decide_false, madeZ]; simp; omega
  · rcases Int.lt_trichotomy x 0 with h | h | h
    · omega
    · subst h; simp [madeZ]
    · have h' := Int.mul_neg_of_pos_of_neg h hy
      simp only [hx, hy, decide_true, decide_false, madeZ]; simp; omega
  · have h := Int.mul_nonneg (show 0 ≤ x by omega) (show 0 ≤ y by omega)
    simp only [hx, hy, decide_false, bne_self_eq_false, madeZ]; simp; omega
theorem nl_len_mul (x y : Nat) : (nl (x * y)).length ≤ (nl x).length + (nl y).length := by
  refine nl_length_le ?_
  rw [Nat.pow_add]
  exact Nat.mul_lt_mul'' (dlt_pow_limbs x) (dlt_pow_limbs y)
theorem dec_pow {z : Int} {k : Nat} (h : (Lib.decDigits z.natAbs).length ≤ k) : z.natAbs < 10 ^ k := by
  have h1 := dec_lt (allDig_decDigits z.natAbs)
  rw [dec_decDigits] at h1
  exact Nat.lt_of_lt_of_le h1 (Nat.pow_le_pow_right (by decide) h)
set_option maxHeartbeats 4000000 in
theorem refProductI (s t : ByteArray) (x y : Int) (w : World) (hs : bytes s = Lib.itoa x) (ht : bytes t = Lib.itoa y) (hls : s.size ≤ 100000000) (hlt : t.size ≤ 100000000) :
    Calls Tryz.prog 90 #[.string s, .string t] w (Bret (.string (str (Lib.itoa (x * y)))) w) := by
  have E1 := fun W => refDigits_any s W (txt_size hs) (by omega)
  have E2 := fun W => refDigits_any t W (txt_size ht) (by omega)
  rw [hs, digL_itoa] at E1
  rw [ht, digL_itoa] at E2
  have p1 : 0 < (Lib.decDigits x.natAbs).length := List.length_pos_iff.2 (decDigits_ne_nil _)
  have p2 : 0 < (Lib.decDigits y.natAbs).length := List.length_pos_iff.2 (decDigits_ne_nil _)
  by_cases h : (Lib.decDigits x.natAbs).length + (Lib.decDigits y.natAbs).length ≤ 18
  · have N1 := fun W => number_any s x W hs (by omega)
    have N2 := fun W => number_any t y W ht (by omega)
    have hm : (x * y).natAbs < 1000000000000000000 := by
      rw [Int.natAbs_mul]
      have h1 := dec_pow (z := x) (Nat.le_refl _)
      have h2 := dec_pow (z := y) (Nat.le_refl _)
      refine Nat.lt_of_lt_of_le (Nat.mul_lt_mul'' h1 h2) ?_
      rw [← Nat.pow_add]
      exact Nat.le_trans (Nat.pow_le_pow_right (by decide) h) (by decide)
    have hm1 : -1000000000000000000 ≤ x * y := by omega
    have hm2 : x * y ≤ 1000000000000000000 := by omega
    have WW := fun W => whole_any (x * y) W (by omega) (by omega)
    have l1 : (Lib.decDigits x.natAbs).length ≤ 18 := by omega
    have l2 : (Lib.decDigits y.natAbs).length ≤ 18 := by omega
    generalize (Lib.decDigits x.natAbs).length = a at *
    generalize (Lib.decDigits y.natAbs).length = b at *
    have t1 : decide ((a : Int) + (b : Int) ≤ 18) = true := decide_eq_true (by omega)
    generalize str (Lib.itoa (x * y)) = R at *
    have K1 := Lib.hid E1; have K2 := Lib.hid E2; have K3 := Lib.hid N1; have K4 := Lib.hid N2; have K5 := Lib.hid WW
    clear E1 E2 N1 N2 WW hs ht hls hlt h hm p1 p2
    go_enter Tryz.func90, Tryz.ntmps90
    go_wp2_with (go_at_call 63; refine (K1.out _).mono ?_; rintro e w1 ⟨rfl, h⟩; subst h; refine Hid.out ?_)
    refine Lib.hid ?_
    go_wp2_with (go_at_call 63; refine (K2.out _).mono ?_; rintro e w2 ⟨rfl, h⟩; subst h; refine Hid.out ?_)
    refine Lib.hid ?_
    go_wp2_with (go_at_call 115; refine (K3.out _).mono ?_; rintro e w3 ⟨rfl, h⟩; subst h; refine Hid.out ?_)
    refine Lib.hid ?_
    go_wp2_with (go_at_call 115; refine (K4.out _).mono ?_; rintro e w4 ⟨rfl, h⟩; subst h; refine Hid.out ?_)
    refine Lib.hid ?_
    go_wp2_with (go_at_call 113; refine (K5.out _).mono ?_; rintro e w5 ⟨rfl, h⟩; subst h; refine Hid.out ?_)
    refine Lib.hid ?_
    go_wp2
    go_ret
    exact ⟨rfl, Below.refl _ _⟩
  · have D1 := fun W => refDigits_txt s x W hs (by omega)
    have D2 := fun W => refDigits_txt t y W ht (by omega)
    have G1 := fun W => negative_any s W (txt_size hs)
    have G2 := fun W => negative_any t W (txt_size ht)
    rw [txt_neg hs] at G1
    rw [txt_neg ht] at G2
    have l1 := dlen9 hs hls; have l2 := dlen9 ht hlt
    have P : ∀ v1 v2 W, DV W v1 (dgs x.natAbs) → DV W v2 (dgs y.natAbs) → Calls Tryz.prog 121 #[v1, v2] W (DRet (nl (x.natAbs * y.natAbs)) W) := fun v1 v2 W a b => by
      have := refTimes_any _ _ v1 v2 W a b (dgs_dg _) (dgs_dg _) l1 l2
      rwa [dv_dgs, dv_dgs] at this
    have MM : ∀ v W, DV W v (nl (x.natAbs * y.natAbs)) → Calls Tryz.prog 119 #[v, .bool (decide (x < 0) != decide (y < 0))] W (Bret (.string (str (Lib.itoa (x * y)))) W) := fun v W hv => by
      have hl : (nl (x.natAbs * y.natAbs)).length ≤ 1000000000 := by
        have h2 := nl_len_mul x.natAbs y.natAbs
        have h3 := nl_len_le x.natAbs; have h4 := nl_len_le y.natAbs
        have h5 := txt_len hs; have h6 := txt_len ht
        omega
      have := made_any (nl (x.natAbs * y.natAbs)) v (decide (x < 0) != decide (y < 0)) W hv (nl_small _) hl
      rwa [dv_limbs, madeZ_mul] at this
    have t0 := txt_len hs; have t9 := txt_len ht
    have l3 : (Lib.decDigits x.natAbs).length ≤ 100000000 := by omega
    have l4 : (Lib.decDigits y.natAbs).length ≤ 100000000 := by omega
    generalize (Lib.decDigits x.natAbs).length = a at *
    generalize (Lib.decDigits y.natAbs).length = b at *
    have t1 : decide ((a : Int) + (b : Int) ≤ 18) = false := decide_eq_false (by omega)
    generalize str (Lib.itoa (x * y)) = R at *
    generalize decide (x < 0) = p at *
    generalize decide (y < 0) = q at *
    have K1 := Lib.hid E1; have K2 := Lib.hid E2; have K3 := Lib.hid D1; have K4 := Lib.hid D2; have K5 := Lib.hid P; have K6 := Lib.hid G1; have K7 := Lib.hid G2; have K8 := Lib.hid MM
    clear E1 E2 D1 D2 P G1 G2 MM hs ht hls hlt h p1 p2 l1 l2 t0 t9
    go_enter Tryz.func90, Tryz.ntmps90
    go_wp2_with (go_at_call 63; refine (K1.out _).mono ?_; rintro e w1 ⟨rfl, h⟩; subst h; refine Hid.out ?_)
    refine Lib.hid ?_
    go_wp2_with (go_at_call 63; refine (K2.out _).mono ?_; rintro e w2 ⟨rfl, h⟩; subst h; refine Hid.out ?_)
    refine Lib.hid ?_
    go_wp2_with (go_at_call 118; refine (K3.out _).mono ?_; rintro e w3 ⟨v3, rfl, hv3, hb3⟩; refine Hid.out ?_)
    refine Lib.hid ?_
    go_wp2_with (go_at_call 118; refine (K4.out _).mono ?_; rintro e w4 ⟨v4, rfl, hv4, hb4⟩; refine Hid.out ?_)
    have hv3' := hv3.mono hb4
    refine Lib.hid ?_
    go_wp2_with (go_at_call 121; refine (K5.out _ _ _ hv3' hv4).mono ?_; rintro e w5 ⟨v5, rfl, hv5, hb5⟩; refine Hid.out ?_)
    refine Lib.hid ?_
    go_wp2_with (go_at_call 94; refine (K6.out _).mono ?_; rintro e w6 ⟨rfl, h⟩; subst h; refine Hid.out ?_)
    refine Lib.hid ?_
    go_wp2_with (go_at_call 94; refine (K7.out _).mono ?_; rintro e w7 ⟨rfl, h⟩; subst h; refine Hid.out ?_)
    refine Lib.hid ?_
    go_wp2_with (go_at_call 119; refine (K8.out _ _ hv5).mono ?_; rintro e w8 ⟨rfl, hb8⟩; refine Hid.out ?_)
    refine Lib.hid ?_
    go_wp2
    go_ret
    exact ⟨rfl, Below.chain hb3 (Below.chain hb4 (Below.chain hb5 hb8))⟩
theorem itoa_zero : (Lib.itoa 0) = [48] := by rw [itoa_nonneg (by omega)]; exact dec0'
def opR (f : Int → Int → Int) (a b : List UInt8) : Value := if errBoth a b = 0 then resV (f (valZ a) (valZ b)) else errV (errBoth a b)
end Go.Proofs.YtjobmkdaaionlaaGreatDoor

namespace Go.Proofs.YtjobmkdaaionlaaGreatDoor
open Go Go.Proofs
theorem nl_drop (x k : Nat) : (nl x).drop k = nl (x / 10 ^ k) := by
  induction k generalizing x with
  | zero => simp
  | succ k ih =>
    by_cases h : x = 0
    · subst h; rw [Nat.zero_div, nl_zero]; rfl
    · rw [nl_pos h, List.drop_succ_cons, ih, Nat.pow_succ, Nat.mul_comm, Nat.div_div_eq_div_mul]
theorem nl_getD (x k : Nat) : (nl x).getD k 0 = x / 10 ^ k % 10 := by
  induction k generalizing x with
  | zero =>
    by_cases h : x = 0
    · subst h; rw [nl_zero]; rfl
    · rw [nl_pos h]; simp
  | succ k ih =>
    by_cases h : x = 0
    · subst h; rw [nl_zero]; simp
    · rw [nl_pos h, List.getD_cons_succ, ih, Nat.pow_succ, Nat.mul_comm, Nat.div_div_eq_div_mul]
theorem nl_cons_digit (d r : Nat) : dv (d :: nl r) = 10 * r + d := by
  simp only [dv]; rw [dv_limbs]; omega
theorem dg_cons_digit (d r : Nat) (h : d < 10) : Dg (d :: nl r) := Dg.cons h (nl_small r)
theorem nl_ge {x y n : Nat} (hy : y ≠ 0) (hn : n = (nl x).length + 1 - (nl y).length) : x / 10 ^ n < y := by
  have hne : nl y ≠ [] := fun e => hy (nl_nil_iff.1 e)
  have hp : 0 < (nl y).length := List.length_pos_iff.2 hne
  by_cases hl : (nl x).length < (nl y).length
  · have h := dlt_of_limbs_length hl
    exact Nat.lt_of_le_of_lt (Nat.div_le_self _ _) h
  · have h1 := dlt_pow_limbs x
    have h2 : 10 ^ ((nl y).length - 1) ≤ y := dpow_le_of_limbs (by omega)
    refine Nat.lt_of_lt_of_le ?_ h2
    refine Nat.div_lt_of_lt_mul ?_
    rw [← Nat.pow_add]
    have e : n + ((nl y).length - 1) = (nl x).length := by omega
    rw [e]; exact h1
theorem place (x k : Nat) : x / 10 ^ k = 10 * (x / 10 ^ (k + 1)) + x / 10 ^ k % 10 := by
  have h := Nat.div_add_mod (x / 10 ^ k) 10
  have e : x / 10 ^ (k + 1) = x / 10 ^ k / 10 := by rw [Nat.pow_succ, Nat.div_div_eq_div_mul]
  rw [e]
  exact h.symm
theorem place_done (x y k r c : Nat) (hy : y ≠ 0) (h : r + c * y = 10 * (x / 10 ^ (k + 1) % y) + x / 10 ^ k % 10) (hr : r < y) :
    x / 10 ^ k % y = r ∧ x / 10 ^ k / y = c + 10 * (x / 10 ^ (k + 1) / y) := by
  have h1 := place x k
  have h2 := Nat.div_add_mod (x / 10 ^ (k + 1)) y
  generalize x / 10 ^ k = a at *
  generalize x / 10 ^ (k + 1) = b at *
  generalize b / y = q at *
  generalize b % y = m at *
  generalize a % 10 = d at *
  have e : a = y * (c + 10 * q) + r := by
    have e1 : y * (c + 10 * q) = c * y + 10 * (y * q) := by grind
    rw [h1, ← h2, e1]
    omega
  constructor
  · rw [e, Nat.mul_add_mod]; exact Nat.mod_eq_of_lt hr
  · rw [e, Nat.mul_add_div (by omega), Nat.div_eq_of_lt hr, Nat.add_zero]
theorem place_lt (x y k r c : Nat) (hy : y ≠ 0) (h : r + c * y = 10 * (x / 10 ^ (k + 1) % y) + x / 10 ^ k % 10) : c < 10 := by
  have h1 : x / 10 ^ (k + 1) % y < y := Nat.mod_lt _ (by omega)
  have h2 : x / 10 ^ k % 10 < 10 := Nat.mod_lt _ (by decide)
  generalize x / 10 ^ (k + 1) % y = m at *
  generalize x / 10 ^ k % 10 = d at *
  rcases Nat.lt_or_ge c 10 with h3 | h3
  · exact h3
  · exfalso
    have : 10 * y ≤ c * y := Nat.mul_le_mul_right _ h3
    omega
structure QuoInv (x y n k : Nat) (S : List Nat) : Prop where
  len : S.length = n
  dg : Dg S
  low : S.take k = List.replicate k 0
  val : dv (S.drop k) = x / 10 ^ k / y
theorem QuoInv.start (x y n : Nat) (hy : y ≠ 0) (hn : n = (nl x).length + 1 - (nl y).length) : QuoInv x y n n (List.replicate n 0) :=
  ⟨by simp, Dg.replicate _, by simp, by simp [dv, Nat.div_eq_of_lt (nl_ge hy hn)]⟩
theorem drop_cons_getD (S : List Nat) (k : Nat) (h : k < S.length) : S.drop k = S.getD k 0 :: S.drop (k + 1) := by
  rw [List.drop_eq_getElem_cons h, getD_lt _ _ h]
theorem QuoInv.step {x y n k c r : Nat} {S S' : List Nat} (h : QuoInv x y n (k + 1) S) (hk : k < n) (hS : S' = S.set k c) (hy : y ≠ 0)
    (he : r + c * y = 10 * (x / 10 ^ (k + 1) % y) + x / 10 ^ k % 10) (hr : r < y) : QuoInv x y n k S' := by
  have hc := place_lt x y k r c hy he
  have hd := place_done x y k r c hy he hr
  subst hS
  have hkl : k < S.length := by rw [h.len]; exact hk
  refine ⟨by simp [h.len], h.dg.set _ _ hc, ?_, ?_⟩
  · have h1 := congrArg (List.take k) h.low
    rw [List.take_take, Nat.min_eq_left (Nat.le_succ k)] at h1
    rw [List.take_set_of_le (Nat.le_refl _), h1, List.take_replicate, Nat.min_eq_left (Nat.le_succ k)]
  · rw [drop_cons_getD _ _ (by simpa using hkl), getD_lt _ _ (by simpa using hkl), List.getElem_set_self, List.drop_set_of_lt (Nat.lt_succ_self k)]
    simp only [dv]
    rw [h.val, hd.2]
theorem QuoInv.zero {x y n k : Nat} {S : List Nat} (h : QuoInv x y n (k + 1) S) : S.getD k 0 = 0 := by
  by_cases hk : k < S.length
  · have h1 : (S.take (k + 1)).getD k 0 = 0 := by rw [h.low]; simp
    rwa [List.getD_eq_getElem?_getD, List.getElem?_take_of_lt (Nat.lt_succ_self k), ← List.getD_eq_getElem?_getD] at h1
  · exact getD_ge _ _ (by omega)
theorem QuoInv.done {x y n : Nat} {S : List Nat} (h : QuoInv x y n 0 S) : dv S = x / y := by
  have := h.val
  rwa [List.drop_zero, Nat.pow_zero, Nat.div_one] at this
end Go.Proofs.YtjobmkdaaionlaaGreatDoor
