import Derived.Test.YtipnnmbjkpidoaaGreatDoorBase39
import Derived.Test.YtipnnmbjkpidoaaGreatDoorBase15

set_option linter.unusedVariables false
/-
  The reference: floor, Floor, Rest.
-/
namespace Go.Proofs.YtipnnmbjkpidoaaGreatDoor
open Go Go.Proofs Go.RowKit

set_option maxHeartbeats 1000000 in
theorem refFloorS (x y : Int) (w : World) (hx : x.natAbs < 100000000000000000) (hy : y.natAbs < 100000000000000000) (hy0 : y ≠ 0) :
    Calls Tryz.prog 140 #[.int .i64 x, .int .i64 y] w fun e w' => e = .returned (.int .i64 (Int.fdiv x y)) ∧ Below w.heap.size w w' := by
  go_enter Tryz.func140, Tryz.ntmps140
  have hb : (x.tdiv y).natAbs ≤ x.natAbs := by rw [Int.natAbs_tdiv]; exact Nat.div_le_self _ _
  have hf := @Int.fdiv_eq_tdiv x y
  have HB := Lib.hid hb; have HF := Lib.hid hf; have HX := Lib.hid hx; have HY := Lib.hid hy; clear hb hf hx hy
  go_wp2
  all_goals
    refine bodyPost_ret (v := .int .i64 (x.fdiv y)) ?_ rfl ⟨rfl, Below.refl _ _⟩
    simp [results, Tryz.results140, go_sem]
    have hb := HB.out
    have hx := HX.out
    rw [HF.out]
    rcases Int.lt_or_gt_of_ne hy0 with hy1 | hy1
    · have hsg := Int.sign_eq_neg_one_of_neg hy1
      first
      | (rename_i h; rw [if_pos (Int.dvd_of_tmod_eq_zero h)]; unfold wrap64; omega)
      | (rename_i h1 h2
         rw [if_neg (fun d => h1 (Int.dvd_iff_tmod_eq_zero.1 d))]
         by_cases hx0 : x < 0 <;> simp [hx0, hy1, h1] at h2 <;> (unfold wrap64; (repeat' split) <;> omega))
    · have hsg := Int.sign_eq_one_of_pos hy1
      have hy2 : ¬ y < 0 := by omega
      first
      | (rename_i h; rw [if_pos (Int.dvd_of_tmod_eq_zero h)]; unfold wrap64; omega)
      | (rename_i h1 h2
         rw [if_neg (fun d => h1 (Int.dvd_iff_tmod_eq_zero.1 d))]
         by_cases hx0 : x < 0 <;> simp [hx0, hy2, h1] at h2 <;> (unfold wrap64; (repeat' split) <;> omega))
end Go.Proofs.YtipnnmbjkpidoaaGreatDoor

/-
  The reference: Floor, Rest.
-/
namespace Go.Proofs.YtipnnmbjkpidoaaGreatDoor
open Go Go.Proofs Go.RowKit

theorem floor_same {x y : Int} (hy : y ≠ 0) (h : decide (x < 0) = decide (y < 0)) : madeZ false (x.natAbs / y.natAbs) = x.fdiv y := by
  rw [fdiv_same x y hy (by simpa using h)]; rfl
theorem ceil_div (a b : Nat) (hb : 0 < b) : (a + b - 1) / b = a / b + (if a % b = 0 then 0 else 1) := by
  have h1 := Nat.div_add_mod a b
  have h2 := Nat.mod_lt a hb
  by_cases h : a % b = 0
  · rw [if_pos h]
    have e : a + b - 1 = b * (a / b) + (b - 1) := by omega
    rw [e, Nat.mul_add_div hb, Nat.div_eq_of_lt (show b - 1 < b by omega)]
  · rw [if_neg h]
    have e : a + b - 1 = b * (a / b + 1) + (a % b - 1) := by rw [Nat.mul_add]; omega
    rw [e, Nat.mul_add_div hb, Nat.div_eq_of_lt (show a % b - 1 < b by omega)]
theorem floor_opp0 {x y : Int} (hy : y ≠ 0) (h : decide (x < 0) ≠ decide (y < 0)) (hr : x.natAbs % y.natAbs = 0) : madeZ true (x.natAbs / y.natAbs) = x.fdiv y := by
  rw [fdiv_opp x y hy (fun e => h (by simp [e])), ceil_div _ _ (by omega), if_pos hr]; rfl
theorem floor_opp1 {x y : Int} (hy : y ≠ 0) (h : decide (x < 0) ≠ decide (y < 0)) (hr : x.natAbs % y.natAbs ≠ 0) : madeZ true (x.natAbs / y.natAbs) - 1 = x.fdiv y := by
  rw [fdiv_opp x y hy (fun e => h (by simp [e])), ceil_div _ _ (by omega), if_neg hr]
  unfold madeZ
  rw [if_pos rfl]; omega
theorem itoa_one_txt : bytes ⟨#[49]⟩ = Lib.itoa 1 := by decide +kernel

set_option maxHeartbeats 8000000 in
theorem floor_short (s t : ByteArray) (x y : Int) (w : World) (hs : bytes s = Lib.itoa x) (ht : bytes t = Lib.itoa y) (hls : s.size ≤ 10000000) (hlt : t.size ≤ 10000000) (hy0 : y ≠ 0)
    (h1 : (Lib.decDigits x.natAbs).length ≤ 17) (h2 : (Lib.decDigits y.natAbs).length ≤ 17) :
    Calls Tryz.prog 91 #[.string s, .string t] w (Bret (.string (str (Lib.itoa (x.fdiv y)))) w) := by
  have S1 := fun W => shortT s x 17 W hs (by omega) (by decide)
  have S2 := fun W => shortT t y 17 W ht (by omega) (by decide)
  have N1 := fun W => number_any s x W hs (by omega)
  have N2 := fun W => number_any t y W ht (by omega)
  have b1 := dec17 h1; have b2 := dec17 h2
  have F := fun W => refFloorS x y W b1 b2 hy0
  have hle := fdiv_le x y hy0
  have WW := fun W => whole_any (x.fdiv y) W (by omega) (by omega)
  rw [decide_eq_true h1] at S1
  rw [decide_eq_true h2] at S2
  generalize str (Lib.itoa (x.fdiv y)) = R at *
  generalize x.fdiv y = z at *
  have K1 := Lib.hid S1; have K2 := Lib.hid S2; have K3 := Lib.hid N1; have K4 := Lib.hid N2; have K5 := Lib.hid WW; have K6 := Lib.hid F
  clear S1 S2 N1 N2 WW F h1 h2 hs ht hls hlt b1 b2 hle hy0
  go_enter Tryz.func91, Tryz.ntmps91
  go_wp2_with (go_at_call 111; refine (K1.out _).mono ?_; rintro e w1 ⟨rfl, h⟩; subst h; refine Hid.out ?_)
  refine Lib.hid ?_
  go_wp2_with (go_at_call 111; refine (K2.out _).mono ?_; rintro e w2 ⟨rfl, h⟩; subst h; refine Hid.out ?_)
  refine Lib.hid ?_
  go_wp2_with (go_at_call 112; refine (K3.out _).mono ?_; rintro e w3 ⟨rfl, h⟩; subst h; refine Hid.out ?_)
  refine Lib.hid ?_
  go_wp2_with (go_at_call 112; refine (K4.out _).mono ?_; rintro e w4 ⟨rfl, h⟩; subst h; refine Hid.out ?_)
  refine Lib.hid ?_
  go_wp2_with (go_at_call 140; refine (K6.out _).mono ?_; rintro e w5 ⟨rfl, hb5⟩; refine Hid.out ?_)
  refine Lib.hid ?_
  go_wp2_with (go_at_call 26; refine (K5.out _).mono ?_; rintro e w6 ⟨rfl, h⟩; subst h; refine Hid.out ?_)
  refine Lib.hid ?_
  go_wp2
  go_ret
  exact ⟨rfl, hb5⟩

set_option maxHeartbeats 16000000 in
theorem floor_long (s t : ByteArray) (x y : Int) (w : World) (hs : bytes s = Lib.itoa x) (ht : bytes t = Lib.itoa y) (hls : s.size ≤ 10000000) (hlt : t.size ≤ 10000000) (hy0 : y ≠ 0)
    (h12 : ¬ ((Lib.decDigits x.natAbs).length ≤ 17 ∧ (Lib.decDigits y.natAbs).length ≤ 17)) :
    Calls Tryz.prog 91 #[.string s, .string t] w (Bret (.string (str (Lib.itoa (x.fdiv y)))) w) := by
  have S1 := fun W => shortT s x 17 W hs (by omega) (by decide)
  have S2 := fun W => shortT t y 17 W ht (by omega) (by decide)
  have D1 := fun W => refDigits_txt s x W hs (by omega)
  have D2 := fun W => refDigits_txt t y W ht (by omega)
  have G1 := fun W => negative_any s W (txt_size hs)
  have G2 := fun W => negative_any t W (txt_size ht)
  rw [txt_neg hs] at G1
  rw [txt_neg ht] at G2
  have l1 := dlen9 hs (by omega); have l2 := dlen9 ht (by omega)
  have l3 : (nl x.natAbs).length ≤ 100000000 := by
    have h3 := nl_len_le x.natAbs; have h5 := txt_len hs
    omega
  have l4 : (nl y.natAbs).length ≤ 100000000 := by
    have h3 := nl_len_le y.natAbs; have h5 := txt_len ht
    omega
  have U1 : ∀ v W, DV W v (dgs x.natAbs) → Calls Tryz.prog 114 #[v] W fun e w' => ∃ b o c, e = .returned (.slice (some ⟨b, o, none⟩) (nl x.natAbs).length c) ∧ DAt W (some ⟨b, o, none⟩) c (nl x.natAbs) ∧ b < W.heap.size ∧ w' = W := fun v W hv => by
    obtain ⟨ao, c, rfl, hr⟩ := hv
    obtain ⟨b, o, rfl⟩ := hr.addr (dgs_ne_nil _)
    have hb := hr.block (dgs_ne_nil _)
    refine (cut_at _ _ c W hr (dgs_dg _) (by omega)).mono fun e w' h => ⟨b, o, c, ?_, ?_, hb, h.2⟩
    · rw [h.1, keep_nl (dgs_dg _), dv_dgs]
    · have := hr.take _ (keep_le (dgs x.natAbs))
      rwa [dtake_keep (dgs_dg _), dv_dgs] at this
  have U2 : ∀ v W, DV W v (dgs y.natAbs) → Calls Tryz.prog 114 #[v] W fun e w' => ∃ v', e = .returned v' ∧ DV W v' (nl y.natAbs) ∧ w' = W := fun v W hv => by
    have := cut_any _ v W hv (dgs_dg _) (by omega)
    rwa [dv_dgs] at this
  have SPL : ∀ (b o c : Nat) (v : Value) (W : World), DAt W (some ⟨b, o, none⟩) c (nl x.natAbs) → b < W.heap.size → DV W v (nl y.natAbs) → Calls Tryz.prog 141 #[.slice (some ⟨b, o, none⟩) (nl x.natAbs).length c, v] W fun e w' => ∃ v1 v2, e = .returned (.tuple #[v1, v2]) ∧ DV w' v1 (nl (x.natAbs / y.natAbs)) ∧ DV w' v2 (nl (x.natAbs % y.natAbs)) ∧ Below W.heap.size W w' := fun b o c v W hr hb hv => split_pos x.natAbs y.natAbs b o c v W hr hb hv (by omega) (by omega) l4
  have MM : ∀ (b : Bool) v W, DV W v (nl (x.natAbs / y.natAbs)) → Calls Tryz.prog 127 #[v, .bool b] W (Bret (.string (str (Lib.itoa (madeZ b (x.natAbs / y.natAbs))))) W) := fun b v W hv => by
    have hl : (nl (x.natAbs / y.natAbs)).length ≤ 1000000000 := by
      have h1 := nl_length_mono (Nat.div_le_self x.natAbs y.natAbs)
      omega
    have := made_any _ v b W hv (nl_small _) hl
    rwa [dv_limbs] at this
  have MDF : ∀ W, Calls Tryz.prog 84 #[.string (str (Lib.itoa (madeZ true (x.natAbs / y.natAbs)))), .string ⟨#[49]⟩] W (Bret (.string (str (Lib.itoa (madeZ true (x.natAbs / y.natAbs) - 1)))) W) := fun W => refDiffI _ _ _ 1 W (txt_str _) itoa_one_txt (by
    have h1 := itoa_len (madeZ true (x.natAbs / y.natAbs))
    have h2 : (madeZ true (x.natAbs / y.natAbs)).natAbs = x.natAbs / y.natAbs := by generalize x.natAbs / y.natAbs = k; unfold madeZ; rw [if_pos rfl]; omega
    rw [h2] at h1
    have h3 : (Lib.decDigits (x.natAbs / y.natAbs)).length ≤ (Lib.decDigits x.natAbs).length := by
      have h5 : 0 < (Lib.decDigits x.natAbs).length := List.length_pos_iff.2 (decDigits_ne_nil _)
      refine decDigits_length_le _ _ (by omega) (Nat.lt_of_le_of_lt (Nat.div_le_self _ _) ?_)
      exact dec_pow (Nat.le_refl _)
    have h6 := txt_len hs
    omega) (by decide)
  obtain ⟨p, hp⟩ : ∃ p, decide (x < 0) = p := ⟨_, rfl⟩
  obtain ⟨q, hq⟩ : ∃ q, decide (y < 0) = q := ⟨_, rfl⟩
  have z1 : p = q → str (Lib.itoa (madeZ false (x.natAbs / y.natAbs))) = str (Lib.itoa (x.fdiv y)) := fun e => by rw [floor_same hy0 (hp.trans (e.trans hq.symm))]
  have z2 : p ≠ q → x.natAbs % y.natAbs = 0 → str (Lib.itoa (madeZ true (x.natAbs / y.natAbs))) = str (Lib.itoa (x.fdiv y)) := fun e h => by rw [floor_opp0 hy0 (by rw [hp, hq]; exact e) h]
  have z3 : p ≠ q → x.natAbs % y.natAbs ≠ 0 → str (Lib.itoa (madeZ true (x.natAbs / y.natAbs) - 1)) = str (Lib.itoa (x.fdiv y)) := fun e h => by rw [floor_opp1 hy0 (by rw [hp, hq]; exact e) h]
  have MA := MM false; have MB := MM true
  have hrl : (nl (x.natAbs % y.natAbs)).length = 0 ↔ x.natAbs % y.natAbs = 0 := ⟨fun h => nl_nil_iff.1 (List.length_eq_zero_iff.1 h), fun h => by rw [h, nl_zero]; rfl⟩
  rw [hp] at G1
  rw [hq] at G2
  generalize str (Lib.itoa (madeZ false (x.natAbs / y.natAbs))) = R1 at *
  generalize str (Lib.itoa (madeZ true (x.natAbs / y.natAbs))) = R2 at *
  generalize str (Lib.itoa (madeZ true (x.natAbs / y.natAbs) - 1)) = R3 at *
  generalize str (Lib.itoa (x.fdiv y)) = R at *
  obtain ⟨c1, hc1⟩ : ∃ c1, decide ((Lib.decDigits x.natAbs).length ≤ 17) = c1 := ⟨_, rfl⟩
  obtain ⟨c2, hc2⟩ : ∃ c2, decide ((Lib.decDigits y.natAbs).length ≤ 17) = c2 := ⟨_, rfl⟩
  rw [hc1] at S1
  rw [hc2] at S2
  have hcc : c1 = false ∨ (c1 = true ∧ c2 = false) := by
    by_cases a : (Lib.decDigits x.natAbs).length ≤ 17
    · right
      refine ⟨by rw [← hc1]; exact decide_eq_true a, ?_⟩
      rw [← hc2]; exact decide_eq_false (fun b => h12 ⟨a, b⟩)
    · left; rw [← hc1]; exact decide_eq_false a
  have K1 := Lib.hid S1; have K2 := Lib.hid S2; have K3 := Lib.hid D1; have K4 := Lib.hid D2; have K5 := Lib.hid G1; have K6 := Lib.hid G2; have K7 := Lib.hid SPL; have K8 := Lib.hid U1; have K9 := Lib.hid U2; have K11 := Lib.hid MA; have K12 := Lib.hid MB; have K13 := Lib.hid MDF; have Z1 := Lib.hid z1; have Z2 := Lib.hid z2; have Z3 := Lib.hid z3; have HRL := Lib.hid hrl
  clear S1 S2 D1 D2 G1 G2 SPL U1 U2 MM MA MB MDF z1 z2 z3 hp hq hc1 hc2 h12 hs ht hls hlt l1 l2 hrl hy0
  generalize (nl x.natAbs).length = n at *
  rcases hcc with rfl | ⟨rfl, rfl⟩
  · by_cases hpq : p = q
    · subst hpq
      have HR := Z1.out rfl; clear Z1 Z2 Z3; subst HR
      go_enter Tryz.func91, Tryz.ntmps91
      go_wp2_with (go_at_call 111; refine (K1.out _).mono ?_; rintro e w1 ⟨rfl, h⟩; subst h; refine Hid.out ?_)
      refine Lib.hid ?_
      go_wp2_with (go_at_call 115; refine (K3.out _).mono ?_; rintro e w3 ⟨v3, rfl, hv3, hb3⟩; refine Hid.out ?_)
      refine Lib.hid ?_
      go_wp2_with (go_at_call 114; refine (K8.out _ _ hv3).mono ?_; rintro e w4 ⟨b4, o4, c4, rfl, hr4, hl4, h⟩; subst h; refine Hid.out ?_)
      have HR4 := Lib.hid hr4; clear hr4
      refine Lib.hid ?_
      go_wp2_with (go_at_call 115; refine (K4.out _).mono ?_; rintro e w5 ⟨v5, rfl, hv5, hb5⟩; refine Hid.out ?_)
      refine Lib.hid ?_
      go_wp2_with (go_at_call 114; refine (K9.out _ _ hv5).mono ?_; rintro e w6 ⟨v6, rfl, hv6, h⟩; subst h; refine Hid.out ?_)
      refine Lib.hid ?_
      go_wp2_with (go_at_call 141; refine (K7.out _ _ _ _ _ (HR4.out.mono hb5) (Nat.lt_of_lt_of_le hl4 hb5.size) hv6).mono ?_; rintro e w7 ⟨q7, r7, rfl, hq7, hr7, hb7⟩; refine Hid.out ?_)
      obtain ⟨ra, rc, rfl, -⟩ := hr7
      have hB7 := Below.chain hb3 (Below.chain hb5 hb7); clear hb3 hb5 hb7
      have HRL1 := HRL.out
      generalize (nl (x.natAbs % y.natAbs)).length = rl at *
      clear HRL1
      refine Lib.hid ?_
      go_wp2_with (go_at_call 72; refine (K5.out _).mono ?_; rintro e w8 ⟨rfl, h⟩; subst h; refine Hid.out ?_)
      refine Lib.hid ?_
      go_wp2_with (go_at_call 72; refine (K6.out _).mono ?_; rintro e w9 ⟨rfl, h⟩; subst h; refine Hid.out ?_)
      refine Lib.hid ?_
      go_wp2_with (go_at_call 127; refine (K11.out _ _ hq7).mono ?_; rintro e w10 ⟨rfl, hb10⟩; refine Hid.out ?_)
      refine Lib.hid ?_
      go_wp2_with (go_at_call 72; refine (K5.out _).mono ?_; rintro e w11 ⟨rfl, h⟩; subst h; refine Hid.out ?_)
      refine Lib.hid ?_
      go_wp2_with (go_at_call 72; refine (K6.out _).mono ?_; rintro e w12 ⟨rfl, h⟩; subst h; refine Hid.out ?_)
      refine Lib.hid ?_
      go_wp2
      go_ret
      exact ⟨rfl, Below.chain hB7 hb10⟩
    · by_cases hr0 : x.natAbs % y.natAbs = 0
      · have HR := Z2.out hpq hr0; clear Z1 Z2 Z3; subst HR
        have HR0 := Lib.hid hr0; clear hr0
        have hpp : (p = false ∧ q = true) ∨ (p = true ∧ q = false) := by cases p <;> cases q <;> simp at hpq ⊢
        clear hpq
        rcases hpp with ⟨rfl, rfl⟩ | ⟨rfl, rfl⟩
        all_goals
          go_enter Tryz.func91, Tryz.ntmps91
          go_wp2_with (go_at_call 111; refine (K1.out _).mono ?_; rintro e w1 ⟨rfl, h⟩; subst h; refine Hid.out ?_)
          refine Lib.hid ?_
          go_wp2_with (go_at_call 115; refine (K3.out _).mono ?_; rintro e w3 ⟨v3, rfl, hv3, hb3⟩; refine Hid.out ?_)
          refine Lib.hid ?_
          go_wp2_with (go_at_call 114; refine (K8.out _ _ hv3).mono ?_; rintro e w4 ⟨b4, o4, c4, rfl, hr4, hl4, h⟩; subst h; refine Hid.out ?_)
          have HR4 := Lib.hid hr4; clear hr4
          refine Lib.hid ?_
          go_wp2_with (go_at_call 115; refine (K4.out _).mono ?_; rintro e w5 ⟨v5, rfl, hv5, hb5⟩; refine Hid.out ?_)
          refine Lib.hid ?_
          go_wp2_with (go_at_call 114; refine (K9.out _ _ hv5).mono ?_; rintro e w6 ⟨v6, rfl, hv6, h⟩; subst h; refine Hid.out ?_)
          refine Lib.hid ?_
          go_wp2_with (go_at_call 141; refine (K7.out _ _ _ _ _ (HR4.out.mono hb5) (Nat.lt_of_lt_of_le hl4 hb5.size) hv6).mono ?_; rintro e w7 ⟨q7, r7, rfl, hq7, hr7, hb7⟩; refine Hid.out ?_)
          obtain ⟨ra, rc, rfl, -⟩ := hr7
          have hB7 := Below.chain hb3 (Below.chain hb5 hb7); clear hb3 hb5 hb7
          have HRL1 := HRL.out
          generalize (nl (x.natAbs % y.natAbs)).length = rl at *
          have hrl0 : rl = 0 := HRL1.2 HR0.out
          subst hrl0
          clear HRL1
          refine Lib.hid ?_
          go_wp2_with (go_at_call 72; refine (K5.out _).mono ?_; rintro e w8 ⟨rfl, h⟩; subst h; refine Hid.out ?_)
          refine Lib.hid ?_
          go_wp2_with (go_at_call 72; refine (K6.out _).mono ?_; rintro e w9 ⟨rfl, h⟩; subst h; refine Hid.out ?_)
          refine Lib.hid ?_
          go_wp2_with (go_at_call 127; refine (K12.out _ _ hq7).mono ?_; rintro e w10 ⟨rfl, hb10⟩; refine Hid.out ?_)
          refine Lib.hid ?_
          go_wp2_with (go_at_call 72; refine (K5.out _).mono ?_; rintro e w11 ⟨rfl, h⟩; subst h; refine Hid.out ?_)
          refine Lib.hid ?_
          go_wp2_with (go_at_call 72; refine (K6.out _).mono ?_; rintro e w12 ⟨rfl, h⟩; subst h; refine Hid.out ?_)
          refine Lib.hid ?_
          go_wp2
          go_ret
          exact ⟨rfl, Below.chain hB7 hb10⟩
      · have HR := Z3.out hpq hr0; clear Z1 Z2 Z3; subst HR
        have HR0 := Lib.hid hr0; clear hr0
        have hpp : (p = false ∧ q = true) ∨ (p = true ∧ q = false) := by cases p <;> cases q <;> simp at hpq ⊢
        clear hpq
        rcases hpp with ⟨rfl, rfl⟩ | ⟨rfl, rfl⟩
        all_goals
          go_enter Tryz.func91, Tryz.ntmps91
          go_wp2_with (go_at_call 111; refine (K1.out _).mono ?_; rintro e w1 ⟨rfl, h⟩; subst h; refine Hid.out ?_)
          refine Lib.hid ?_
          go_wp2_with (go_at_call 115; refine (K3.out _).mono ?_; rintro e w3 ⟨v3, rfl, hv3, hb3⟩; refine Hid.out ?_)
          refine Lib.hid ?_
          go_wp2_with (go_at_call 114; refine (K8.out _ _ hv3).mono ?_; rintro e w4 ⟨b4, o4, c4, rfl, hr4, hl4, h⟩; subst h; refine Hid.out ?_)
          have HR4 := Lib.hid hr4; clear hr4
          refine Lib.hid ?_
          go_wp2_with (go_at_call 115; refine (K4.out _).mono ?_; rintro e w5 ⟨v5, rfl, hv5, hb5⟩; refine Hid.out ?_)
          refine Lib.hid ?_
          go_wp2_with (go_at_call 114; refine (K9.out _ _ hv5).mono ?_; rintro e w6 ⟨v6, rfl, hv6, h⟩; subst h; refine Hid.out ?_)
          refine Lib.hid ?_
          go_wp2_with (go_at_call 141; refine (K7.out _ _ _ _ _ (HR4.out.mono hb5) (Nat.lt_of_lt_of_le hl4 hb5.size) hv6).mono ?_; rintro e w7 ⟨q7, r7, rfl, hq7, hr7, hb7⟩; refine Hid.out ?_)
          obtain ⟨ra, rc, rfl, -⟩ := hr7
          have hB7 := Below.chain hb3 (Below.chain hb5 hb7); clear hb3 hb5 hb7
          have HRL1 := HRL.out
          generalize (nl (x.natAbs % y.natAbs)).length = rl at *
          have hrl0 : 0 < rl := Nat.pos_of_ne_zero fun e => HR0.out (HRL1.1 e)
          clear HRL1
          refine Lib.hid ?_
          go_wp2_with (go_at_call 72; refine (K5.out _).mono ?_; rintro e w8 ⟨rfl, h⟩; subst h; refine Hid.out ?_)
          refine Lib.hid ?_
          go_wp2_with (go_at_call 72; refine (K6.out _).mono ?_; rintro e w9 ⟨rfl, h⟩; subst h; refine Hid.out ?_)
          refine Lib.hid ?_
          go_wp2_with (go_at_call 127; refine (K12.out _ _ hq7).mono ?_; rintro e w10 ⟨rfl, hb10⟩; refine Hid.out ?_)
          refine Lib.hid ?_
          go_wp2_with (go_at_call 72; refine (K5.out _).mono ?_; rintro e w11 ⟨rfl, h⟩; subst h; refine Hid.out ?_)
          refine Lib.hid ?_
          go_wp2_with (go_at_call 72; refine (K6.out _).mono ?_; rintro e w12 ⟨rfl, h⟩; subst h; refine Hid.out ?_)
          refine Lib.hid ?_
          go_wp2_with (go_at_call 84; refine (K13.out _).mono ?_; rintro e w13 ⟨rfl, hb13⟩; refine Hid.out ?_)
          refine Lib.hid ?_
          go_wp2
          go_ret
          exact ⟨rfl, Below.chain hB7 (Below.chain hb10 hb13)⟩
  · by_cases hpq : p = q
    · subst hpq
      have HR := Z1.out rfl; clear Z1 Z2 Z3; subst HR
      go_enter Tryz.func91, Tryz.ntmps91
      go_wp2_with (go_at_call 111; refine (K1.out _).mono ?_; rintro e w1 ⟨rfl, h⟩; subst h; refine Hid.out ?_)
      refine Lib.hid ?_
      go_wp2_with (go_at_call 111; refine (K2.out _).mono ?_; rintro e w2 ⟨rfl, h⟩; subst h; refine Hid.out ?_)
      refine Lib.hid ?_
      go_wp2_with (go_at_call 115; refine (K3.out _).mono ?_; rintro e w3 ⟨v3, rfl, hv3, hb3⟩; refine Hid.out ?_)
      refine Lib.hid ?_
      go_wp2_with (go_at_call 114; refine (K8.out _ _ hv3).mono ?_; rintro e w4 ⟨b4, o4, c4, rfl, hr4, hl4, h⟩; subst h; refine Hid.out ?_)
      have HR4 := Lib.hid hr4; clear hr4
      refine Lib.hid ?_
      go_wp2_with (go_at_call 115; refine (K4.out _).mono ?_; rintro e w5 ⟨v5, rfl, hv5, hb5⟩; refine Hid.out ?_)
      refine Lib.hid ?_
      go_wp2_with (go_at_call 114; refine (K9.out _ _ hv5).mono ?_; rintro e w6 ⟨v6, rfl, hv6, h⟩; subst h; refine Hid.out ?_)
      refine Lib.hid ?_
      go_wp2_with (go_at_call 141; refine (K7.out _ _ _ _ _ (HR4.out.mono hb5) (Nat.lt_of_lt_of_le hl4 hb5.size) hv6).mono ?_; rintro e w7 ⟨q7, r7, rfl, hq7, hr7, hb7⟩; refine Hid.out ?_)
      obtain ⟨ra, rc, rfl, -⟩ := hr7
      have hB7 := Below.chain hb3 (Below.chain hb5 hb7); clear hb3 hb5 hb7
      have HRL1 := HRL.out
      generalize (nl (x.natAbs % y.natAbs)).length = rl at *
      clear HRL1
      refine Lib.hid ?_
      go_wp2_with (go_at_call 72; refine (K5.out _).mono ?_; rintro e w8 ⟨rfl, h⟩; subst h; refine Hid.out ?_)
      refine Lib.hid ?_
      go_wp2_with (go_at_call 72; refine (K6.out _).mono ?_; rintro e w9 ⟨rfl, h⟩; subst h; refine Hid.out ?_)
      refine Lib.hid ?_
      go_wp2_with (go_at_call 127; refine (K11.out _ _ hq7).mono ?_; rintro e w10 ⟨rfl, hb10⟩; refine Hid.out ?_)
      refine Lib.hid ?_
      go_wp2_with (go_at_call 72; refine (K5.out _).mono ?_; rintro e w11 ⟨rfl, h⟩; subst h; refine Hid.out ?_)
      refine Lib.hid ?_
      go_wp2_with (go_at_call 72; refine (K6.out _).mono ?_; rintro e w12 ⟨rfl, h⟩; subst h; refine Hid.out ?_)
      refine Lib.hid ?_
      go_wp2
      go_ret
      exact ⟨rfl, Below.chain hB7 hb10⟩
    · by_cases hr0 : x.natAbs % y.natAbs = 0
      · have HR := Z2.out hpq hr0; clear Z1 Z2 Z3; subst HR
        have HR0 := Lib.hid hr0; clear hr0
        have hpp : (p = false ∧ q = true) ∨ (p = true ∧ q = false) := by cases p <;> cases q <;> simp at hpq ⊢
        clear hpq
        rcases hpp with ⟨rfl, rfl⟩ | ⟨rfl, rfl⟩
        all_goals
          go_enter Tryz.func91, Tryz.ntmps91
          go_wp2_with (go_at_call 111; refine (K1.out _).mono ?_; rintro e w1 ⟨rfl, h⟩; subst h; refine Hid.out ?_)
          refine Lib.hid ?_
          go_wp2_with (go_at_call 111; refine (K2.out _).mono ?_; rintro e w2 ⟨rfl, h⟩; subst h; refine Hid.out ?_)
          refine Lib.hid ?_
          go_wp2_with (go_at_call 115; refine (K3.out _).mono ?_; rintro e w3 ⟨v3, rfl, hv3, hb3⟩; refine Hid.out ?_)
          refine Lib.hid ?_
          go_wp2_with (go_at_call 114; refine (K8.out _ _ hv3).mono ?_; rintro e w4 ⟨b4, o4, c4, rfl, hr4, hl4, h⟩; subst h; refine Hid.out ?_)
          have HR4 := Lib.hid hr4; clear hr4
          refine Lib.hid ?_
          go_wp2_with (go_at_call 115; refine (K4.out _).mono ?_; rintro e w5 ⟨v5, rfl, hv5, hb5⟩; refine Hid.out ?_)
          refine Lib.hid ?_
          go_wp2_with (go_at_call 114; refine (K9.out _ _ hv5).mono ?_; rintro e w6 ⟨v6, rfl, hv6, h⟩; subst h; refine Hid.out ?_)
          refine Lib.hid ?_
          go_wp2_with (go_at_call 141; refine (K7.out _ _ _ _ _ (HR4.out.mono hb5) (Nat.lt_of_lt_of_le hl4 hb5.size) hv6).mono ?_; rintro e w7 ⟨q7, r7, rfl, hq7, hr7, hb7⟩; refine Hid.out ?_)
          obtain ⟨ra, rc, rfl, -⟩ := hr7
          have hB7 := Below.chain hb3 (Below.chain hb5 hb7); clear hb3 hb5 hb7
          have HRL1 := HRL.out
          generalize (nl (x.natAbs % y.natAbs)).length = rl at *
          have hrl0 : rl = 0 := HRL1.2 HR0.out
          subst hrl0
          clear HRL1
          refine Lib.hid ?_
          go_wp2_with (go_at_call 72; refine (K5.out _).mono ?_; rintro e w8 ⟨rfl, h⟩; subst h; refine Hid.out ?_)
          refine Lib.hid ?_
          go_wp2_with (go_at_call 72; refine (K6.out _).mono ?_; rintro e w9 ⟨rfl, h⟩; subst h; refine Hid.out ?_)
          refine Lib.hid ?_
          go_wp2_with (go_at_call 127; refine (K12.out _ _ hq7).mono ?_; rintro e w10 ⟨rfl, hb10⟩; refine Hid.out ?_)
          refine Lib.hid ?_
          go_wp2_with (go_at_call 72; refine (K5.out _).mono ?_; rintro e w11 ⟨rfl, h⟩; subst h; refine Hid.out ?_)
          refine Lib.hid ?_
          go_wp2_with (go_at_call 72; refine (K6.out _).mono ?_; rintro e w12 ⟨rfl, h⟩; subst h; refine Hid.out ?_)
          refine Lib.hid ?_
          go_wp2
          go_ret
          exact ⟨rfl, Below.chain hB7 hb10⟩
      · have HR := Z3.out hpq hr0; clear Z1 Z2 Z3; subst HR
        have HR0 := Lib.hid hr0; clear hr0
        have hpp : (p = false ∧ q = true) ∨ (p = true ∧ q = false) := by cases p <;> cases q <;> simp at hpq ⊢
        clear hpq
        rcases hpp with ⟨rfl, rfl⟩ | ⟨rfl, rfl⟩
        all_goals
          go_enter Tryz.func91, Tryz.ntmps91
          go_wp2_with (go_at_call 111; refine (K1.out _).mono ?_; rintro e w1 ⟨rfl, h⟩; subst h; refine Hid.out ?_)
          refine Lib.hid ?_
          go_wp2_with (go_at_call 111; refine (K2.out _).mono ?_; rintro e w2 ⟨rfl, h⟩; subst h; refine Hid.out ?_)
          refine Lib.hid ?_
          go_wp2_with (go_at_call 115; refine (K3.out _).mono ?_; rintro e w3 ⟨v3, rfl, hv3, hb3⟩; refine Hid.out ?_)
          refine Lib.hid ?_
          go_wp2_with (go_at_call 114; refine (K8.out _ _ hv3).mono ?_; rintro e w4 ⟨b4, o4, c4, rfl, hr4, hl4, h⟩; subst h; refine Hid.out ?_)
          have HR4 := Lib.hid hr4; clear hr4
          refine Lib.hid ?_
          go_wp2_with (go_at_call 115; refine (K4.out _).mono ?_; rintro e w5 ⟨v5, rfl, hv5, hb5⟩; refine Hid.out ?_)
          refine Lib.hid ?_
          go_wp2_with (go_at_call 114; refine (K9.out _ _ hv5).mono ?_; rintro e w6 ⟨v6, rfl, hv6, h⟩; subst h; refine Hid.out ?_)
          refine Lib.hid ?_
          go_wp2_with (go_at_call 141; refine (K7.out _ _ _ _ _ (HR4.out.mono hb5) (Nat.lt_of_lt_of_le hl4 hb5.size) hv6).mono ?_; rintro e w7 ⟨q7, r7, rfl, hq7, hr7, hb7⟩; refine Hid.out ?_)
          obtain ⟨ra, rc, rfl, -⟩ := hr7
          have hB7 := Below.chain hb3 (Below.chain hb5 hb7); clear hb3 hb5 hb7
          have HRL1 := HRL.out
          generalize (nl (x.natAbs % y.natAbs)).length = rl at *
          have hrl0 : 0 < rl := Nat.pos_of_ne_zero fun e => HR0.out (HRL1.1 e)
          clear HRL1
          refine Lib.hid ?_
          go_wp2_with (go_at_call 72; refine (K5.out _).mono ?_; rintro e w8 ⟨rfl, h⟩; subst h; refine Hid.out ?_)
          refine Lib.hid ?_
          go_wp2_with (go_at_call 72; refine (K6.out _).mono ?_; rintro e w9 ⟨rfl, h⟩; subst h; refine Hid.out ?_)
          refine Lib.hid ?_
          go_wp2_with (go_at_call 127; refine (K12.out _ _ hq7).mono ?_; rintro e w10 ⟨rfl, hb10⟩; refine Hid.out ?_)
          refine Lib.hid ?_
          go_wp2_with (go_at_call 72; refine (K5.out _).mono ?_; rintro e w11 ⟨rfl, h⟩; subst h; refine Hid.out ?_)
          refine Lib.hid ?_
          go_wp2_with (go_at_call 72; refine (K6.out _).mono ?_; rintro e w12 ⟨rfl, h⟩; subst h; refine Hid.out ?_)
          refine Lib.hid ?_
          go_wp2_with (go_at_call 84; refine (K13.out _).mono ?_; rintro e w13 ⟨rfl, hb13⟩; refine Hid.out ?_)
          refine Lib.hid ?_
          go_wp2
          go_ret
          exact ⟨rfl, Below.chain hB7 (Below.chain hb10 hb13)⟩

theorem refFloorI (s t : ByteArray) (x y : Int) (w : World) (hs : bytes s = Lib.itoa x) (ht : bytes t = Lib.itoa y) (hls : s.size ≤ 10000000) (hlt : t.size ≤ 10000000) (hy0 : y ≠ 0) :
    Calls Tryz.prog 91 #[.string s, .string t] w (Bret (.string (str (Lib.itoa (x.fdiv y)))) w) := by
  by_cases h : (Lib.decDigits x.natAbs).length ≤ 17 ∧ (Lib.decDigits y.natAbs).length ≤ 17
  · exact floor_short s t x y w hs ht hls hlt hy0 h.1 h.2
  · exact floor_long s t x y w hs ht hls hlt hy0 h
end Go.Proofs.YtipnnmbjkpidoaaGreatDoor
