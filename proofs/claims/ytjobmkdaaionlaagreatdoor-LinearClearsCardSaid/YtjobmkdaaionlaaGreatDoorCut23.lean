import Derived.Test.YtjobmkdaaionlaaGreatDoorCut22
import Derived.Test.YtjobmkdaaionlaaGreatDoorCut12
import Derived.Test.YtjobmkdaaionlaaGreatDoorCut20
import Derived.Test.YtjobmkdaaionlaaGreatDoorCut13
import Derived.Test.YtjobmkdaaionlaaGreatDoorCut18
import Derived.Test.YtjobmkdaaionlaaGreatDoorCut14

set_option linter.unusedVariables false
/-
  The reference: Floor, Rest.
-/
namespace Go.Proofs.YtjobmkdaaionlaaGreatDoor
open Go Go.Proofs Go.RowKit
theorem floor_same {x y : Int} (hy : y ≠ 0) (h : decide (x < 0) = decide (y < 0)) : madeZ false (x.natAbs / y.natAbs) = x.fdiv y := by
  rw [fdiv_same x y hy (by simpa using h)]; rfl
theorem ceil_div (a b : Nat) (hb : 0 < b) : (a + b - 1) / b = a / b + (if a % b = 0 then 0 else 1) := by
  have h1 := Nat.div_add_mod a b
  have h2 := Nat.mod_lt a hb
  by_cases h : a % b = 0
  · rw [if_pos h]
    have e : a + b - 1 = b * (a / b) + (b - 1) := by omega
    rw [e, Nat.mul_add_div hb, Nat.div_eq_of_lt (show b - 1 < b by omega)]
  · rw [if_neg h]
    have e : a + b - 1 = b * (a / b + 1) + (a % b - 1) := by rw [Nat.mul_add]; omega
    rw [e, Nat.mul_add_div hb, Nat.div_eq_of_lt (show a % b - 1 < b by omega)]
theorem floor_opp0 {x y : Int} (hy : y ≠ 0) (h : decide (x < 0) ≠ decide (y < 0)) (hr : x.natAbs % y.natAbs = 0) : madeZ true (x.natAbs / y.natAbs) = x.fdiv y := by
  rw [fdiv_opp x y hy (fun e => h (by simp [e])), ceil_div _ _ (by omega), if_pos hr]; rfl
theorem floor_opp1 {x y : Int} (hy : y ≠ 0) (h : decide (x < 0) ≠ decide (y < 0)) (hr : x.natAbs % y.natAbs ≠ 0) : madeZ true (x.natAbs / y.natAbs) - 1 = x.fdiv y := by
  rw [fdiv_opp x y hy (fun e => h (by simp [e])), ceil_div _ _ (by omega), if_neg hr]
  unfold madeZ
  rw [if_pos rfl]; omega
theorem itoa_one_txt : bytes ⟨#[49]⟩ = Lib.itoa 1 := by decide +kernel
set_option maxHeartbeats 8000000 in
theorem floor_short (s t : ByteArray) (x y : Int) (w : World) (hs : bytes s = Lib.itoa x) (ht : bytes t = Lib.itoa y) (hls : s.size ≤ 10000000) (hlt : t.size ≤ 10000000) (hy0 : y ≠ 0)
    (h1 : (Lib.decDigits x.natAbs).length ≤ 17) (h2 : (Lib.decDigits y.natAbs).length ≤ 17) :
    Calls Tryz.prog 89 #[.string s, .string t] w (Bret (.string (str (Lib.itoa (x.fdiv y)))) w) := by
  have S1 := fun W => shortT s x 17 W hs (by omega) (by decide)
  have S2 := fun W => shortT t y 17 W ht (by omega) (by decide)
  have N1 := fun W => number_any s x W hs (by omega)
  have N2 := fun W => number_any t y W ht (by omega)
  have b1 := dec17 h1; have b2 := dec17 h2
  have F := fun W => refFloorS x y W b1 b2 hy0
  have hle := fdiv_le x y hy0
  have WW := fun W => whole_any (x.fdiv y) W (by omega) (by omega)
  rw [decide_eq_true h1] at S1
  rw [decide_eq_true h2] at S2
  generalize str (Lib.itoa (x.fdiv y)) = R at *
  generalize x.fdiv y = z at *
  have K1 := Lib.hid S1; have K2 := Lib.hid S2; have K3 := Lib.hid N1; have K4 := Lib.hid N2; have K5 := Lib.hid WW; have K6 := Lib.hid F
  clear S1 S2 N1 N2 WW F h1 h2 hs ht hls hlt b1 b2 hle hy0
  go_enter Tryz.func89, Tryz.ntmps89
  go_wp2_with (go_at_call 112; refine (K1.out _).mono ?_; rintro e w1 ⟨rfl, h⟩; subst h; refine Hid.out ?_)
  refine Lib.hid ?_
  go_wp2_with (go_at_call 112; refine (K2.out _).mono ?_; rintro e w2 ⟨rfl, h⟩; subst h; refine Hid.out ?_)
  refine Lib.hid ?_
  go_wp2_with (go_at_call 115; refine (K3.out _).mono ?_; rintro e w3 ⟨rfl, h⟩; subst h; refine Hid.out ?_)
  refine Lib.hid ?_
  go_wp2_with (go_at_call 115; refine (K4.out _).mono ?_; rintro e w4 ⟨rfl, h⟩; subst h; refine Hid.out ?_)
  refine Lib.hid ?_
  go_wp2_with (go_at_call 114; refine (K6.out _).mono ?_; rintro e w5 ⟨rfl, hb5⟩; refine Hid.out ?_)
  refine Lib.hid ?_
  go_wp2_with (go_at_call 113; refine (K5.out _).mono ?_; rintro e w6 ⟨rfl, h⟩; subst h; refine Hid.out ?_)
  refine Lib.hid ?_
  go_wp2
  go_ret
  exact ⟨rfl, hb5⟩
set_option maxHeartbeats 16000000 in
theorem floor_long (s t : ByteArray) (x y : Int) (w : World) (hs : bytes s = Lib.itoa x) (ht : bytes t = Lib.itoa y) (hls : s.size ≤ 10000000) (hlt : t.size ≤ 10000000) (hy0 : y ≠ 0)
    (h12 : ¬ ((Lib.decDigits x.natAbs).length ≤ 17 ∧ (Lib.decDigits y.natAbs).length ≤ 17)) :
    Calls Tryz.prog 89 #[.string s, .string t] w (Bret (.string (str (Lib.itoa (x.fdiv y)))) w) := by
  have S1 := fun W => shortT s x 17 W hs (by omega) (by decide)
  have S2 := fun W => shortT t y 17 W ht (by omega) (by decide)
  have D1 := fun W => refDigits_txt s x W hs (by omega)
  have D2 := fun W => refDigits_txt t y W ht (by omega)
  have G1 := fun W => negative_any s W (txt_size hs)
  have G2 := fun W => negative_any t W (txt_size ht)
  rw [txt_neg hs] at G1
  rw [txt_neg ht] at G2
  have l1 := dlen9 hs (by omega); have l2 := dlen9 ht (by omega)
  have l3 : (nl x.natAbs).length ≤ 100000000 := by
    have h3 := nl_len_le x.natAbs; have h5 := txt_len hs
    omega
  have l4 : (nl y.natAbs).length ≤ 100000000 := by
    have h3 := nl_len_le y.natAbs; have h5 := txt_len ht
    omega
  have U1 : ∀ v W, DV W v (dgs x.natAbs) → Calls Tryz.prog 117 #[v] W fun e w' => ∃ b o c, e = .returned (.slice (some ⟨b, o, none⟩) (nl x.natAbs).length c) ∧ DAt W (some ⟨b, o, none⟩) c (nl x.natAbs) ∧ b < W.heap.size ∧ w' = W := fun v W hv => by
    obtain ⟨ao, c, rfl, hr⟩ := hv
    obtain ⟨b, o, rfl⟩ := hr.addr (dgs_ne_nil _)
    have hb := hr.block (dgs_ne_nil _)
    refine (cut_at _ _ c W hr (dgs_dg _) (by omega)).mono fun e w' h => ⟨b, o, c, ?_, ?_, hb, h.2⟩
    · rw [h.1, keep_nl (dgs_dg _), dv_dgs]
    · have := hr.take _ (keep_le (dgs x.natAbs))
      rwa [dtake_keep (dgs_dg _), dv_dgs] at this
  have U2 : ∀ v W, DV W v (dgs y.natAbs) → Calls Tryz.prog 117 #[v] W fun e w' => ∃ v', e = .returned v' ∧ DV W v' (nl y.natAbs) ∧ w' = W := fun v W hv => by
    have := cut_any _ v W hv (dgs_dg _) (by omega)
    rwa [dv_dgs] at this
  have SPL : ∀ (b o c : Nat) (v : Value) (W : World), DAt W (some ⟨b, o, none⟩) c (nl x.natAbs) → b < W.heap.size → DV W v (nl y.natAbs) → Calls Tryz.prog 116 #[.slice (some ⟨b, o, none⟩) (nl x.natAbs).length c, v] W fun e w' => ∃ v1 v2, e = .returned (.tuple #[v1, v2]) ∧ DV w' v1 (nl (x.natAbs / y.natAbs)) ∧ DV w' v2 (nl (x.natAbs % y.natAbs)) ∧ Below W.heap.size W w' := fun b o c v W hr hb hv => split_pos x.natAbs y.natAbs b o c v W hr hb hv (by omega) (by omega) l4
  have MM : ∀ (b : Bool) v W, DV W v (nl (x.natAbs / y.natAbs)) → Calls Tryz.prog 119 #[v, .bool b] W (Bret (.string (str (Lib.itoa (madeZ b (x.natAbs / y.natAbs))))) W) := fun b v W hv => by
    have hl : (nl (x.natAbs / y.natAbs)).length ≤ 1000000000 := by
      have h1 := nl_length_mono (Nat.div_le_self x.natAbs y.natAbs)
      omega
    have := made_any _ v b W hv (nl_small _) hl
    rwa [dv_limbs] at this
  have MDF : ∀ W, Calls Tryz.prog 120 #[.string (str (Lib.itoa (madeZ true (x.natAbs / y.natAbs)))), .string ⟨#[49]⟩] W (Bret (.string (str (Lib.itoa (madeZ true (x.natAbs / y.natAbs) - 1)))) W) := fun W => refDiffI _ _ _ 1 W (txt_str _) itoa_one_txt (by
    have h1 := itoa_len (madeZ true (x.natAbs / y.natAbs))
    have h2 : (madeZ true (x.natAbs / y.natAbs)).natAbs = x.natAbs / y.natAbs := by generalize x.natAbs / y.natAbs = k; unfold madeZ; rw [if_pos rfl]; omega
    rw [h2] at h1
    have h3 : (Lib.decDigits (x.natAbs / y.natAbs)).length ≤ (Lib.decDigits x.natAbs).length := by
      have h5 : 0 < (Lib.decDigits x.natAbs).length := List.length_pos_iff.2 (decDigits_ne_nil _)
      refine decDigits_length_le _ _ (by omega) (Nat.lt_of_le_of_lt (Nat.div_le_self _ _) ?_)
      exact dec_pow (Nat.le_refl _)
    have h6 := txt_len hs
    omega) (by decide)
  obtain ⟨p, hp⟩ : ∃ p, decide (x < 0) = p := ⟨_, rfl⟩
  obtain ⟨q, hq⟩ : ∃ q, decide (y < 0) = q := ⟨_, rfl⟩
  have z1 : p = q → str (Lib.itoa (madeZ false (x.natAbs / y.natAbs))) = str (Lib.itoa (x.fdiv y)) := fun e => by rw [floor_same hy0 (hp.trans (e.trans hq.symm))]
  have z2 : p ≠ q → x.natAbs % y.natAbs = 0 → str (Lib.itoa (madeZ true (x.natAbs / y.natAbs))) = str (Lib.itoa (x.fdiv y)) := fun e h => by rw [floor_opp0 hy0 (by rw [hp, hq]; exact e) h]
  have z3 : p ≠ q → x.natAbs % y.natAbs ≠ 0 → str (Lib.itoa (madeZ true (x.natAbs / y.natAbs) - 1)) = str (Lib.itoa (x.fdiv y)) := fun e h => by rw [floor_opp1 hy0 (by rw [hp, hq]; exact e) h]
  have MA := MM false; have MB := MM true
  have hrl : (nl (x.natAbs % y.natAbs)).length = 0 ↔ x.natAbs % y.natAbs = 0 := ⟨fun h => nl_nil_iff.1 (List.length_eq_zero_iff.1 h), fun h => by rw [h, nl_zero]; rfl⟩
  rw [hp] at G1
  rw [hq] at G2
  generalize str (Lib.itoa (madeZ false (x.natAbs / y.natAbs))) = R1 at *
  generalize str (Lib.itoa (madeZ true (x.natAbs / y.natAbs))) = R2 at *
  generalize str (Lib.itoa (madeZ true (x.natAbs / y.natAbs) - 1)) = R3 at *
  generalize str (Lib.itoa (x.fdiv y)) = R at *
  obtain ⟨c1, hc1⟩ : ∃ c1, decide ((Lib.decDigits x.natAbs).length ≤ 17) = c1 := ⟨_, rfl⟩
  obtain ⟨c2, hc2⟩ : ∃ c2, decide ((Lib.decDigits y.natAbs).length ≤ 17) = c2 := ⟨_, rfl⟩
  rw [hc1] at S1
  rw [hc2] at S2
  have hcc : c1 = false ∨ (c1 = true ∧ c2 = false) := by
    by_cases a : (Lib.decDigits x.natAbs).length ≤ 17
    · right
      refine ⟨by rw [← hc1]; exact decide_eq_true a, ?_⟩
      rw [← hc2]; exact decide_eq_false (fun b => h12 ⟨a, b⟩)
    · left; rw [← hc1]; exact decide_eq_false a
  have K1 := Lib.hid S1; have K2 := Lib.hid S2; have K3 := Lib.hid D1; have K4 := Lib.hid D2; have K5 := Lib.hid G1; have K6 := Lib.hid G2; have K7 := Lib.hid SPL; have K8 := Lib.hid U1; have K9 := Lib.hid U2; have K11 := Lib.hid MA; have K12 := Lib.hid MB; have K13 := Lib.hid MDF; have Z1 := Lib.hid z1; have Z2 := Lib.hid z2; have Z3 := Lib.hid z3; have HRL := Lib.hid hrl
  clear S1 S2 D1 D2 G1 G2 SPL U1 U2 MM MA MB MDF z1 z2 z3 hp hq hc1 hc2 h12 hs ht hls hlt l1 l2 hrl hy0
  generalize (nl x.natAbs).length = n at *
  rcases hcc with rfl | ⟨rfl, rfl⟩
  · by_cases hpq : p = q
    · subst hpq
      have HR := Z1.out rfl; clear Z1 Z2 Z3; subst HR
      go_enter Tryz.func89, Tryz.ntmps89
      go_wp2_with (go_at_call 112; refine (K1.out _).mono ?_; rintro e w1 ⟨rfl, h⟩; subst h; refine Hid.out ?_)
      refine Lib.hid ?_
      go_wp2_with (go_at_call 118; refine (K3.out _).mono ?_; rintro e w3 ⟨v3, rfl, hv3, hb3⟩; refine Hid.out ?_)
      refine Lib.hid ?_
      go_wp2_with (go_at_call 117; refine (K8.out _ _ hv3).mono ?_; rintro e w4 ⟨b4, o4, c4, rfl, hr4, hl4, h⟩; subst h; refine Hid.out ?_)
      have HR4 := Lib.hid hr4; clear hr4
      refine Lib.hid ?_
      go_wp2_with (go_at_call 118; refine (K4.out _).mono ?_; rintro e w5 ⟨v5, rfl, hv5, hb5⟩; refine Hid.out ?_)
      refine Lib.hid ?_
      go_wp2_with (go_at_call 117; refine (K9.out _ _ hv5).mono ?_; rintro e w6 ⟨v6, rfl, hv6, h⟩; subst h; refine Hid.out ?_)
      refine Lib.hid ?_
      go_wp2_with (go_at_call 116; refine (K7.out _ _ _ _ _ (HR4.out.mono hb5) (Nat.lt_of_lt_of_le hl4 hb5.size) hv6).mono ?_; rintro e w7 ⟨q7, r7, rfl, hq7, hr7, hb7⟩; refine Hid.out ?_)
      obtain ⟨ra, rc, rfl, -⟩ := hr7
      have hB7 := Below.chain hb3 (Below.chain hb5 hb7); clear hb3 hb5 hb7
      have HRL1 := HRL.out
      generalize (nl (x.natAbs % y.natAbs)).length = rl at *
      clear HRL1
      refine Lib.hid ?_
      go_wp2_with (go_at_call 94; refine (K5.out _).mono ?_; rintro e w8 ⟨rfl, h⟩; subst h; refine Hid.out ?_)
      refine Lib.hid ?_
      go_wp2_with (go_at_call 94; refine (K6.out _).mono ?_; rintro e w9 ⟨rfl, h⟩; subst h; refine Hid.out ?_)
      refine Lib.hid ?_
      go_wp2_with (go_at_call 119; refine (K11.out _ _ hq7).mono ?_; rintro e w10 ⟨rfl, hb10⟩; refine Hid.out ?_)
      refine Lib.hid ?_
      go_wp2_with (go_at_call 94; refine (K5.out _).mono ?_; rintro e w11 ⟨rfl, h⟩; subst h; refine Hid.out ?_)
      refine Lib.hid ?_
      go_wp2_with (go_at_call 94; refine (K6.out _).mono ?_; rintro e w12 ⟨rfl, h⟩; subst h; refine Hid.out ?_)
      refine Lib.hid ?_
      go_wp2
      go_ret
      exact ⟨rfl, Below.chain hB7 hb10⟩
    · by_cases hr0 : x.natAbs % y.natAbs = 0
      · have HR := Z2.out hpq hr0; clear Z1 Z2 Z3; subst HR
        have HR0 := Lib.hid hr0; clear hr0
        have hpp : (p = false ∧ q = true) ∨ (p = true ∧ q = false) := by cases p <;> cases q <;> simp at hpq ⊢
        clear hpq
        rcases hpp with ⟨rfl, rfl⟩ | ⟨rfl, rfl⟩
        all_goals
          go_enter Tryz.func89, Tryz.ntmps89
          go_wp2_with (go_at_call 112; refine (K1.out _).mono ?_; rintro e w1 ⟨rfl, h⟩; subst h; refine Hid.out ?_)
          refine Lib.hid ?_
          go_wp2_with (go_at_call 118; refine (K3.out _).mono ?_; rintro e w3 ⟨v3, rfl, hv3, hb3⟩; refine Hid.out ?_)
          refine Lib.hid ?_
          go_wp2_with (go_at_call 117; refine (K8.out _ _ hv3).mono ?_; rintro e w4 ⟨b4, o4, c4, rfl, hr4, hl4, h⟩; subst h; refine Hid.out ?_)
          have HR4 := Lib.hid hr4; clear hr4
          refine Lib.hid ?_
          go_wp2_with (go_at_call 118; refine (K4.out _).mono ?_; rintro e w5 ⟨v5, rfl, hv5, hb5⟩; refine Hid.out ?_)
          refine Lib.hid ?_
          go_wp2_with (go_at_call 117; refine (K9.out _ _ hv5).mono ?_; rintro e w6 ⟨v6, rfl, hv6, h⟩; subst h; refine Hid.out ?_)
          refine Lib.hid ?_
          go_wp2_with (go_at_call 116; refine (K7.out _ _ _ _ _ (HR4.out.mono hb5) (Nat.lt_of_lt_of_le hl4 hb5.size) hv6).mono ?_; rintro e w7 ⟨q7, r7, rfl, hq7, hr7, hb7⟩; refine Hid.out ?_)
          obtain ⟨ra, rc, rfl, -⟩ := hr7
          have hB7 := Below.chain hb3 (Below.chain hb5 hb7); clear hb3 hb5 hb7
          have HRL1 := HRL.out
          generalize (nl (x.natAbs % y.natAbs)).length = rl at *
          have hrl0 : rl = 0 := HRL1.2 HR0.out
          subst hrl0
          clear HRL1
          refine Lib.hid ?_
          go_wp2_with (go_at_call 94; refine (K5.out _).mono ?_; rintro e w8 ⟨rfl, h⟩; subst h; refine Hid.out ?_)
          refine Lib.hid ?_
          go_wp2_with (go_at_call 94; refine (K6.out _).mono ?_; rintro e w9 ⟨rfl, h⟩; subst h; refine Hid.out ?_)
          refine Lib.hid ?_
          go_wp2_with (go_at_call 119; refine (K12.out _ _ hq7).mono ?_; rintro e w10 ⟨rfl, hb10⟩; refine Hid.out ?_)
          refine Lib.hid ?_
          go_wp2_with (go_at_call 94; refine (K5.out _).mono ?_; rintro e w11 ⟨rfl, h⟩; subst h; refine Hid.out ?_)
          refine Lib.hid ?_
          go_wp2_with (go_at_call 94; refine (K6.out _).mono ?_; rintro e w12 ⟨rfl, h⟩; subst h; refine Hid.out ?_)
          refine Lib.hid ?_
          go_wp2
          go_ret
          exact ⟨rfl, Below.chain hB7 hb10⟩
      · have HR := Z3.out hpq hr0; clear Z1 Z2 Z3; subst HR
        have HR0 := Lib.hid hr0; clear hr0
        have hpp : (p = false ∧ q = true) ∨ (p = true ∧ q = false) := by cases p <;> cases q <;> simp at hpq ⊢
        clear hpq
        rcases hpp with ⟨rfl, rfl⟩ | ⟨rfl, rfl⟩
        all_goals
          go_enter Tryz.func89, Tryz.ntmps89
          go_wp2_with (go_at_call 112; refine (K1.out _).mono ?_; rintro e w1 ⟨rfl, h⟩; subst h; refine Hid.out ?_)
          refine Lib.hid ?_
          go_wp2_with (go_at_call 118; refine (K3.out _).mono ?_; rintro e w3 ⟨v3, rfl, hv3, hb3⟩; refine Hid.out ?_)
          refine Lib.hid ?_
          go_wp2_with (go_at_call 117; refine (K8.out _ _ hv3).mono ?_; rintro e w4 ⟨b4, o4, c4, rfl, hr4, hl4, h⟩; subst h; refine Hid.out ?_)
          have HR4 := Lib.hid hr4; clear hr4
          refine Lib.hid ?_
          go_wp2_with (go_at_call 118; refine (K4.out _).mono ?_; rintro e w5 ⟨v5, rfl, hv5, hb5⟩; refine Hid.out ?_)
          refine Lib.hid ?_
          go_wp2_with (go_at_call 117; refine (K9.out _ _ hv5).mono ?_; rintro e w6 ⟨v6, rfl, hv6, h⟩; subst h; refine Hid.out ?_)
          refine Lib.hid ?_
          go_wp2_with (go_at_call 116; refine (K7.out _ _ _ _ _ (HR4.out.mono hb5) (Nat.lt_of_lt_of_le hl4 hb5.size) hv6).mono ?_; rintro e w7 ⟨q7, r7, rfl, hq7, hr7, hb7⟩; refine Hid.out ?_)
          obtain ⟨ra, rc, rfl, -⟩ := hr7
          have hB7 := Below.chain hb3 (Below.chain hb5 hb7); clear hb3 hb5 hb7
          have HRL1 := HRL.out
          generalize (nl (x.natAbs % y.natAbs)).length = rl at *
          have hrl0 : 0 < rl := Nat.pos_of_ne_zero fun e => HR0.out (HRL1.1 e)
          clear HRL1
          refine Lib.hid ?_
          go_wp2_with (go_at_call 94; refine (K5.out _).mono ?_; rintro e w8 ⟨rfl, h⟩; subst h; refine Hid.out ?_)
          refine Lib.hid ?_
          go_wp2_with (go_at_call 94; refine (K6.out _).mono ?_; rintro e w9 ⟨rfl, h⟩; subst h; refine Hid.out ?_)
          refine Lib.hid ?_
          go_wp2_with (go_at_call 119; refine (K12.out _ _ hq7).mono ?_; rintro e w10 ⟨rfl, hb10⟩; refine Hid.out ?_)
          refine Lib.hid ?_
          go_wp2_with (go_at_call 94; refine (K5.out _).mono ?_; rintro e w11 ⟨rfl, h⟩; subst h; refine Hid.out ?_)
          refine Lib.hid ?_
          go_wp2_with (go_at_call 94; refine (K6.out _).mono ?_; rintro e w12 ⟨rfl, h⟩; subst h; refine Hid.out ?_)
          refine Lib.hid ?_
          go_wp2_with (go_at_call 120; refine (K13.out _).mono ?_; rintro e w13 ⟨rfl, hb13⟩; refine Hid.out ?_)
          refine Lib.hid ?_
          go_wp2
          go_ret
          exact ⟨rfl, Below.chain hB7 (Below.chain hb10 hb13)⟩
  · by_cases hpq : p = q
    · subst hpq
      have HR := Z1.out rfl; clear Z1 Z2 Z3; subst HR
      go_enter Tryz.func89, Tryz.ntmps89
      go_wp2_with (go_at_call 112; refine (K1.out _).mono ?_; rintro e w1 ⟨rfl, h⟩; subst h; refine Hid.out ?_)
      refine Lib.hid ?_
      go_wp2_with (go_at_call 112; refine (K2.out _).mono ?_; rintro e w2 ⟨rfl, h⟩; subst h; refine Hid.out ?_)
      refine Lib.hid ?_
      go_wp2_with (go_at_call 118; refine (K3.out _).mono ?_; rintro e w3 ⟨v3, rfl, hv3, hb3⟩; refine Hid.out ?_)
      refine Lib.hid ?_
      go_wp2_with (go_at_call 117; refine (K8.out _ _ hv3).mono ?_; rintro e w4 ⟨b4, o4, c4, rfl, hr4, hl4, h⟩; subst h; refine Hid.out ?_)
      have HR4 := Lib.hid hr4; clear hr4
      refine Lib.hid ?_
      go_wp2_with (go_at_call 118; refine (K4.out _).mono ?_; rintro e w5 ⟨v5, rfl, hv5, hb5⟩; refine Hid.out ?_)
      refine Lib.hid ?_
      go_wp2_with (go_at_call 117; refine (K9.out _ _ hv5).mono ?_; rintro e w6 ⟨v6, rfl, hv6, h⟩; subst h; refine Hid.out ?_)
      refine Lib.hid ?_
      go_wp2_with (go_at_call 116; refine (K7.out _ _ _ _ _ (HR4.out.mono hb5) (Nat.lt_of_lt_of_le hl4 hb5.size) hv6).mono ?_; rintro e w7 ⟨q7, r7, rfl, hq7, hr7, hb7⟩; refine Hid.out ?_)
      obtain ⟨ra, rc, rfl, -⟩ := hr7
      have hB7 := Below.chain hb3 (Below.chain hb5 hb7); clear hb3 hb5 hb7
      have HRL1 := HRL.out
      generalize (nl (x.natAbs % y.natAbs)).length = rl at *
      clear HRL1
      refine Lib.hid ?_
      go_wp2_with (go_at_call 94; refine (K5.out _).mono ?_; rintro e w8 ⟨rfl, h⟩; subst h; refine Hid.out ?_)
      refine Lib.hid ?_
      go_wp2_with (go_at_call 94; refine (K6.out _).mono ?_; rintro e w9 ⟨rfl, h⟩; subst h; refine Hid.out ?_)
      refine Lib.hid ?_
      go_wp2_with (go_at_call 119; refine (K11.out _ _ hq7).mono ?_; rintro e w10 ⟨rfl, hb10⟩; refine Hid.out ?_)
      refine Lib.hid ?_
      go_wp2_with (go_at_call 94; refine (K5.out _).mono ?_; rintro e w11 ⟨rfl, h⟩; subst h; refine Hid.out ?_)
      refine Lib.hid ?_
      go_wp2_with (go_at_call 94; refine (K6.out _).mono ?_; rintro e w12 ⟨rfl, h⟩; subst h; refine Hid.out ?_)
      refine Lib.hid ?_
      go_wp2
      go_ret
      exact ⟨rfl, Below.chain hB7 hb10⟩
    · by_cases hr0 : x.natAbs % y.natAbs = 0
      · have HR := Z2.out hpq hr0; clear Z1 Z2 Z3; subst HR
        have HR0 := Lib.hid hr0; clear hr0
        have hpp : (p = false ∧ q = true) ∨ (p = true ∧ q = false) := by cases p <;> cases q <;> simp at hpq ⊢
        clear hpq
        rcases hpp with ⟨rfl, rfl⟩ | ⟨rfl, rfl⟩
        all_goals
          go_enter Tryz.func89, Tryz.ntmps89
          go_wp2_with (go_at_call 112; refine (K1.out _).mono ?_; rintro e w1 ⟨rfl, h⟩; subst h; refine Hid.out ?_)
          refine Lib.hid ?_
          go_wp2_with (go_at_call 112; refine (K2.out _).mono ?_; rintro e w2 ⟨rfl, h⟩; subst h; refine Hid.out ?_)
          refine Lib.hid ?_
          go_wp2_with (go_at_call 118; refine (K3.out _).mono ?_; rintro e w3 ⟨v3, rfl, hv3, hb3⟩; refine Hid.out ?_)
          refine Lib.hid ?_
          go_wp2_with (go_at_call 117; refine (K8.out _ _ hv3).mono ?_; rintro e w4 ⟨b4, o4, c4, rfl, hr4, hl4, h⟩; subst h; refine Hid.out ?_)
          have HR4 := Lib.hid hr4; clear hr4
          refine Lib.hid ?_
          go_wp2_with (go_at_call 118; refine (K4.out _).mono ?_; rintro e w5 ⟨v5, rfl, hv5, hb5⟩; refine Hid.out ?_)
          refine Lib.hid ?_
          go_wp2_with (go_at_call 117; refine (K9.out _ _ hv5).mono ?_; rintro e w6 ⟨v6, rfl, hv6, h⟩; subst h; refine Hid.out ?_)
          refine Lib.hid ?_
          go_wp2_with (go_at_call 116; refine (K7.out _ _ _ _ _ (HR4.out.mono hb5) (Nat.lt_of_lt_of_le hl4 hb5.size) hv6).mono ?_; rintro e w7 ⟨q7, r7, rfl, hq7, hr7, hb7⟩; refine Hid.out ?_)
          obtain ⟨ra, rc, rfl, -⟩ := hr7
          have hB7 := Below.chain hb3 (Below.chain hb5 hb7); clear hb3 hb5 hb7
          have HRL1 := HRL.out
          generalize (nl (x.natAbs % y.natAbs)).length = rl at *
          have hrl0 : rl = 0 := HRL1.2 HR0.out
          subst hrl0
          clear HRL1
          refine Lib.hid ?_
          go_wp2_with (go_at_call 94; refine (K5.out _).mono ?_; rintro e w8 ⟨rfl, h⟩; subst h; refine Hid.out ?_)
          refine Lib.hid ?_
          go_wp2_with (go_at_call 94; refine (K6.out _).mono ?_; rintro e w9 ⟨rfl, h⟩; subst h; refine Hid.out ?_)
          refine Lib.hid ?_
          go_wp2_with (go_at_call 119; refine (K12.out _ _ hq7).mono ?_; rintro e w10 ⟨rfl, hb10⟩; refine Hid.out ?_)
          refine Lib.hid ?_
          go_wp2_with (go_at_call 94; refine (K5.out _).mono ?_; rintro e w11 ⟨rfl, h⟩; subst h; refine Hid.out ?_)
          refine Lib.hid ?_
          go_wp2_with (go_at_call 94; refine (K6.out _).mono ?_; rintro e w12 ⟨rfl, h⟩; subst h; refine Hid.out ?_)
          refine Lib.hid ?_
          go_wp2
          go_ret
          exact ⟨rfl, Below.chain hB7 hb10⟩
      · have HR := Z3.out hpq hr0; clear Z1 Z2 Z3; subst HR
        have HR0 := Lib.hid hr0; clear hr0
        have hpp : (p = false ∧ q = true) ∨ (p = true ∧ q = false) := by cases p <;> cases q <;> simp at hpq ⊢
        clear hpq
        rcases hpp with ⟨rfl, rfl⟩ | ⟨rfl, rfl⟩
        all_goals
          go_enter Tryz.func89, Tryz.ntmps89
          go_wp2_with (go_at_call 112; refine (K1.out _).mono ?_; rintro e w1 ⟨rfl, h⟩; subst h; refine Hid.out ?_)
          refine Lib.hid ?_
          go_wp2_with (go_at_call 112; refine (K2.out _).mono ?_; rintro e w2 ⟨rfl, h⟩; subst h; refine Hid.out ?_)
          refine Lib.hid ?_
          go_wp2_with (go_at_call 118; refine (K3.out _).mono ?_; rintro e w3 ⟨v3, rfl, hv3, hb3⟩; refine Hid.out ?_)
          refine Lib.hid ?_
          go_wp2_with (go_at_call 117; refine (K8.out _ _ hv3).mono ?_; rintro e w4 ⟨b4, o4, c4, rfl, hr4, hl4, h⟩; subst h; refine Hid.out ?_)
          have HR4 := Lib.hid hr4; clear hr4
          refine Lib.hid ?_
          go_wp2_with (go_at_call 118; refine (K4.out _).mono ?_; rintro e w5 ⟨v5, rfl, hv5, hb5⟩; refine Hid.out ?_)
          refine Lib.hid ?_
          go_wp2_with (go_at_call 117; refine (K9.out _ _ hv5).mono ?_; rintro e w6 ⟨v6, rfl, hv6, h⟩; subst h; refine Hid.out ?_)
          refine Lib.hid ?_
          go_wp2_with (go_at_call 116; refine (K7.out _ _ _ _ _ (HR4.out.mono hb5) (Nat.lt_of_lt_of_le hl4 hb5.size) hv6).mono ?_; rintro e w7 ⟨q7, r7, rfl, hq7, hr7, hb7⟩; refine Hid.out ?_)
          obtain ⟨ra, rc, rfl, -⟩ := hr7
          have hB7 := Below.chain hb3 (Below.chain hb5 hb7); clear hb3 hb5 hb7
          have HRL1 := HRL.out
          generalize (nl (x.natAbs % y.natAbs)).length = rl at *
          have hrl0 : 0 < rl := Nat.pos_of_ne_zero fun e => HR0.out (HRL1.1 e)
          clear HRL1
          refine Lib.hid ?_
          go_wp2_with (go_at_call 94; refine (K5.out _).mono ?_; rintro e w8 ⟨rfl, h⟩; subst h; refine Hid.out ?_)
          refine Lib.hid ?_
          go_wp2_with (go_at_call 94; refine (K6.out _).mono ?_; rintro e w9 ⟨rfl, h⟩; subst h; refine Hid.out ?_)
          refine Lib.hid ?_
          go_wp2_with (go_at_call 119; refine (K12.out _ _ hq7).mono ?_; rintro e w10 ⟨rfl, hb10⟩; refine Hid.out ?_)
          refine Lib.hid ?_
          go_wp2_with (go_at_call 94; refine (K5.out _).mono ?_; rintro e w11 ⟨rfl, h⟩; subst h; refine Hid.out ?_)
          refine Lib.hid ?_
          go_wp2_with (go_at_call 94; refine (K6.out _).mono ?_; rintro e w12 ⟨rfl, h⟩; subst h; refine Hid.out ?_)
          refine Lib.hid ?_
          go_wp2_with (go_at_call 120; refine (K13.out _).mono ?_; rintro e w13 ⟨rfl, hb13⟩; refine Hid.out ?_)
          refine Lib.hid ?_
          go_wp2
          go_ret
          exact ⟨rfl, Below.chain hB7 (Below.chain hb10 hb13)⟩
theorem refFloorI (s t : ByteArray) (x y : Int) (w : World) (hs : bytes s = Lib.itoa x) (ht : bytes t = Lib.itoa y) (hls : s.size ≤ 10000000) (hlt : t.size ≤ 10000000) (hy0 : y ≠ 0) :
    Calls Tryz.prog 89 #[.string s, .string t] w (Bret (.string (str (Lib.itoa (x.fdiv y)))) w) := by
  by_cases h : (Lib.decDigits x.natAbs).length ≤ 17 ∧ (Lib.decDigits y.natAbs).length ≤ 17
  · exact floor_short s t x y w hs ht hls hlt hy0 h.1 h.2
  · exact floor_long s t x y w hs ht hls hlt hy0 h
theorem div_len (x y : Int) (h : (x.fdiv y).natAbs ≤ x.natAbs) : (Lib.decDigits (x.fdiv y).natAbs).length ≤ (Lib.decDigits x.natAbs).length := by
  have h5 : 0 < (Lib.decDigits x.natAbs).length := List.length_pos_iff.2 (decDigits_ne_nil _)
  exact decDigits_length_le _ _ (by omega) (Nat.lt_of_le_of_lt h (dec_pow (Nat.le_refl _)))
theorem mul_len' (x y : Int) : (Lib.decDigits (x * y).natAbs).length ≤ (Lib.decDigits x.natAbs).length + (Lib.decDigits y.natAbs).length := by
  have p1 : 0 < (Lib.decDigits x.natAbs).length := List.length_pos_iff.2 (decDigits_ne_nil _)
  refine decDigits_length_le _ _ (by omega) ?_
  rw [Int.natAbs_mul, Nat.pow_add]
  exact Nat.mul_lt_mul'' (dec_pow (Nat.le_refl _)) (dec_pow (Nat.le_refl _))
set_option maxHeartbeats 1000000 in
theorem refRestI (s t : ByteArray) (x y : Int) (w : World) (hs : bytes s = Lib.itoa x) (ht : bytes t = Lib.itoa y) (hls : s.size ≤ 1400000) (hlt : t.size ≤ 1400000) (hy0 : y ≠ 0) :
    Calls Tryz.prog 123 #[.string s, .string t] w (Bret (.string (str (Lib.itoa (x.fmod y)))) w) := by
  have C1 := fun W => refFloorI s t x y W hs ht (by omega) (by omega) hy0
  have hq1 := itoa_len (x.fdiv y)
  have hq2 := div_len x y (fdiv_le x y hy0)
  have l1 := txt_len hs; have l2 := txt_len ht
  have C2 := fun W => refProductI t (str (Lib.itoa (x.fdiv y))) y (x.fdiv y) W ht (txt_str _) (by omega) (by omega)
  have hp1 := itoa_len (y * x.fdiv y)
  have hp2 := mul_len' y (x.fdiv y)
  have C3 := fun W => refDiffI s (str (Lib.itoa (y * x.fdiv y))) x (y * x.fdiv y) W hs (txt_str _) (by omega) (by omega)
  have hm : x - y * x.fdiv y = x.fmod y := by have := step_fmod x y; rw [Int.mul_comm]; omega
  rw [hm] at C3
  generalize str (Lib.itoa (x.fdiv y)) = u1 at *
  generalize str (Lib.itoa (y * x.fdiv y)) = u2 at *
  generalize str (Lib.itoa (x.fmod y)) = u3 at *
  have K1 := Lib.hid C1; have K2 := Lib.hid C2; have K3 := Lib.hid C3; clear C1 C2 C3 hs ht hls hlt hy0 hq1 hq2 l1 l2 hp1 hp2 hm
  go_enter Tryz.func123, Tryz.ntmps123
  go_wp2_with (go_at_call 89; refine (K1.out _).mono ?_; rintro e w1 ⟨rfl, hb1⟩; refine Hid.out ?_)
  refine Lib.hid ?_
  go_wp2_with (go_at_call 90; refine (K2.out _).mono ?_; rintro e w2 ⟨rfl, hb2⟩; refine Hid.out ?_)
  refine Lib.hid ?_
  go_wp2_with (go_at_call 120; refine (K3.out _).mono ?_; rintro e w3 ⟨rfl, hb3⟩; refine Hid.out ?_)
  refine Lib.hid ?_
  go_wp2
  go_ret
  exact ⟨rfl, Below.chain hb1 (Below.chain hb2 hb3)⟩
end Go.Proofs.YtjobmkdaaionlaaGreatDoor

namespace Go.Proofs.YtjobmkdaaionlaaGreatDoor
open Go Go.Proofs
structure BezCong (a b g n x f : Int) : Prop where
  gcd : Int.gcd g n = Int.gcd a b
  eg : b ∣ g - a * x
  en : b ∣ n - a * f
theorem BezCong.step {a b g n x f : Int} (h : BezCong a b g n x f) : BezCong a b n (g - g.fdiv n * n) f (x - g.fdiv n * f) := by
  obtain ⟨h1, h2, h3⟩ := h
  refine ⟨?_, h3, ?_⟩
  · rw [← h1]
    generalize g.fdiv n = q
    refine Nat.dvd_antisymm ?_ ?_
    · refine Int.dvd_gcd ?_ ?_
      · have e : g = (g - q * n) + q * n := by omega
        have k1 : ((Int.gcd n (g - q * n) : Nat) : Int) ∣ (g - q * n) := Int.gcd_dvd_right ..
        have k2 : ((Int.gcd n (g - q * n) : Nat) : Int) ∣ n := Int.gcd_dvd_left ..
        have k3 := Int.dvd_add k1 (Int.dvd_mul_of_dvd_right (b := q) k2)
        rwa [← e] at k3
      · exact Int.gcd_dvd_left ..
    · refine Int.dvd_gcd (Int.gcd_dvd_right ..) ?_
      exact Int.dvd_sub (Int.gcd_dvd_left ..) (Int.dvd_mul_of_dvd_right (Int.gcd_dvd_right ..))
  · generalize g.fdiv n = q
    have e : g - q * n - a * (x - q * f) = (g - a * x) - q * (n - a * f) := by
      rw [Int.mul_sub, Int.mul_sub, Int.mul_left_comm a q f]; omega
    rw [e]
    exact Int.dvd_sub h2 (Int.dvd_mul_of_dvd_right h3)
end Go.Proofs.YtjobmkdaaionlaaGreatDoor

namespace Go.Proofs.YtjobmkdaaionlaaGreatDoor
open Go Go.Proofs Go.RowKit
def gcdI (x y : Int) : Int := ((Int.gcd x y : Nat) : Int)
def lcmI (x y : Int) : Int := (((x.fdiv (gcdI x y)) * y).natAbs : Int)
theorem gcdI_nonneg (x y : Int) : 0 ≤ gcdI x y := Int.natCast_nonneg _
theorem gcdI_zero {x y : Int} : gcdI x y = 0 ↔ x = 0 ∧ y = 0 := by
  unfold gcdI
  rw [show (((Int.gcd x y : Nat) : Int) = 0) = (Int.gcd x y = 0) from propext (by omega)]
  exact Int.gcd_eq_zero_iff
theorem gcd_fits {s t : ByteArray} {x y : Int} (hs : Str s x) (ht : Str t y) : Str (str (Lib.itoa (gcdI x y))) (gcdI x y) := by
  refine str_itoa (decDigits_length_le _ 4096 (by decide) (gcd_digits hs ht))
set_option maxHeartbeats 1000000 in
theorem bigGcd_err (s t : ByteArray) (w : World) (hs : s.size ≤ 9223372036854775807) (ht : t.size ≤ 9223372036854775807) (h : errBoth (bytes s) (bytes t) ≠ 0) :
    Calls Tryz.prog 106 #[.string s, .string t] w (Bret (errV (errBoth (bytes s) (bytes t))) w) := by
  have C1 := fun W => compute_err 146 147 s t W hs ht h
  unfold errV at *
  unfold opV at C1
  generalize errBoth (bytes s) (bytes t) = c at *
  have K1 := Lib.hid C1; clear C1 h
  go_enter Tryz.func106, Tryz.ntmps106
  go_wp2_with (go_at_call 145; refine (K1.out _).mono ?_; rintro e w1 ⟨rfl, hb1⟩; refine Hid.out ?_)
  refine Lib.hid ?_
  go_wp2
  refine bodyPost_ret (by simp [results, Tryz.results106, go_sem]; rfl) rfl ?_
  exact ⟨rfl, hb1⟩
theorem bigGcdR (s t : ByteArray) (w : World) (hs : s.size ≤ 9223372036854775807) (ht : t.size ≤ 9223372036854775807) (htab : Lib.TabIs Tryz.prog w "internal/strconv.uint64pow10" .u64 Lib.pow10Tab) :
    Calls Tryz.prog 106 #[.string s, .string t] w (Bret (opR gcdI (bytes s) (bytes t)) w) := by
  unfold opR
  by_cases h : errBoth (bytes s) (bytes t) = 0
  · rw [if_pos h]
    obtain ⟨h1, h2⟩ := errBoth_zero h
    exact gcdZ s t _ _ w (str_of_err h1) (str_of_err h2) htab
  · rw [if_neg h]
    exact bigGcd_err s t w hs ht h
theorem fdiv_len {s t : ByteArray} {x y : Int} (hs : Str s x) (hy : y ≠ 0) : Str (str (Lib.itoa (x.fdiv y))) (x.fdiv y) :=
  str_itoa (Nat.le_trans (div_len x y (fdiv_le x y hy)) hs.len)
set_option maxHeartbeats 2000000 in
theorem bigLcmR (s t : ByteArray) (w : World) (hs : s.size ≤ 9223372036854775807) (ht : t.size ≤ 9223372036854775807) (htab : Lib.TabIs Tryz.prog w "internal/strconv.uint64pow10" .u64 Lib.pow10Tab) :
    Calls Tryz.prog 86 #[.string s, .string t] w (Bret (opR lcmI (bytes s) (bytes t)) w) := by
  have hT := Lib.tabBelow_of_tabIs htab
  have C1 : ∀ W : World, Below w.heap.size w W → Calls Tryz.prog 106 #[.string s, .string t] W (Bret (opR gcdI (bytes s) (bytes t)) W) := fun W hW => bigGcdR s t W hs ht (hT.on hW).here
  unfold opR at *
  by_cases h : errBoth (bytes s) (bytes t) = 0
  · rw [if_pos h] at C1 ⊢
    obtain ⟨h1, h2⟩ := errBoth_zero h
    have q1 := str_of_err h1; have q2 := str_of_err h2
    generalize valZ (bytes s) = x at *
    generalize valZ (bytes t) = y at *
    rw [resV_lit (gcd_fits q1 q2)] at C1
    by_cases hz : gcdI x y = 0
    · obtain ⟨rfl, rfl⟩ := gcdI_zero.1 hz
      have e : resV (lcmI 0 0) = .tuple #[.string ⟨#[48]⟩, .int .i64 0] := resV_lit' str_zero (by unfold lcmI; simp)
      rw [e]
      rw [hz, lit_str str_zero] at C1
      have K1 := Lib.hid C1; clear C1 hs ht htab hT h h1 h2 q1 q2 hz e
      go_enter Tryz.func86, Tryz.ntmps86
      go_wp2_with (go_at_call 106; refine (K1.out _ (Below.refl _ _)).mono ?_; rintro e w1 ⟨rfl, hb1⟩; refine Hid.out ?_)
      refine Lib.hid ?_
      go_wp2
      refine bodyPost_ret (by simp [results, Tryz.results86, go_sem]; rfl) rfl ?_
      exact ⟨rfl, hb1⟩
    · have q3 := gcd_fits q1 q2
      have hne := eq48 _ (q3.ne_zero hz)
      have hq := fdiv_len (t := t) q1 hz
      have C2 : ∀ W : World, Below w.heap.size w W → Calls Tryz.prog 107 #[.string s, .string (str (Lib.itoa (gcdI x y)))] W (Bret (.tuple #[.string (str (Lib.itoa (x.fdiv (gcdI x y)))), .int .i64 0]) W) := fun W hW => by
        have := quoZ s _ x (gcdI x y) W q1 q3 hz (hT.on hW).here
        rwa [resV_lit hq] at this
      have C3 : ∀ W : World, Below w.heap.size w W → Calls Tryz.prog 108 #[.string (str (Lib.itoa (x.fdiv (gcdI x y)))), .string t] W (Bret (resV (x.fdiv (gcdI x y) * y)) W) := fun W hW => mulZ _ t _ y W hq q2 (hT.on hW).here
      by_cases hf : 4096 < (Lib.decDigits (x.fdiv (gcdI x y) * y).natAbs).length
      · rw [resV_long hf] at C3
        have e : resV (lcmI x y) = .tuple #[.string ⟨#[]⟩, .int .i64 10] := by
          refine resV_long ?_
          unfold lcmI
          rwa [Int.natAbs_natCast]
        rw [e]
        generalize str (Lib.itoa (x.fdiv (gcdI x y))) = r2 at *
        generalize str (Lib.itoa (gcdI x y)) = r1 at *
        have K1 := Lib.hid C1; have K2 := Lib.hid C2; have K3 := Lib.hid C3
        clear C1 C2 C3 hs ht htab hT h h1 h2 q1 q2 q3 hz hq hf e
        go_enter Tryz.func86, Tryz.ntmps86
        go_wp2_with (go_at_call 106; refine (K1.out _ (Below.refl _ _)).mono ?_; rintro e w1 ⟨rfl, hb1⟩; refine Hid.out ?_)
        refine Lib.hid ?_
        go_wp2_with (go_at_call 107; refine (K2.out _ hb1).mono ?_; rintro e w2 ⟨rfl, hb2⟩; refine Hid.out ?_)
        have hB2 := Below.chain hb1 hb2; clear hb2 hb1
        refine Lib.hid ?_
        go_wp2_with (go_at_call 108; refine (K3.out _ hB2).mono ?_; rintro e w3 ⟨rfl, hb3⟩; refine Hid.out ?_)
        have hB3 := Below.chain hB2 hb3; clear hb3 hB2
        refine Lib.hid ?_
        go_wp2
        refine bodyPost_ret (by simp [results, Tryz.results86, go_sem]; rfl) rfl ?_
        exact ⟨rfl, hB3⟩
      · rw [resV_fits hf] at C3
        have q4 : Str (str (Lib.itoa (x.fdiv (gcdI x y) * y))) (x.fdiv (gcdI x y) * y) := str_itoa (Nat.le_of_not_lt hf)
        have C4 := fun W => absZ _ _ W q4
        have e : resV (lcmI x y) = .tuple #[.string (str (Lib.itoa (lcmI x y))), .int .i64 0] := resV_fits (by unfold lcmI; rwa [Int.natAbs_natCast])
        rw [e]
        unfold lcmI
        generalize str (Lib.itoa (((x.fdiv (gcdI x y)) * y).natAbs : Int)) = r4 at *
        generalize str (Lib.itoa (x.fdiv (gcdI x y) * y)) = r3 at *
        generalize str (Lib.itoa (x.fdiv (gcdI x y))) = r2 at *
        generalize str (Lib.itoa (gcdI x y)) = r1 at *
        have K1 := Lib.hid C1; have K2 := Lib.hid C2; have K3 := Lib.hid C3; have K4 := Lib.hid C4
        clear C1 C2 C3 C4 hs ht htab hT h h1 h2 q1 q2 q3 q4 hz hq hf e
        go_enter Tryz.func86, Tryz.ntmps86
        go_wp2_with (go_at_call 106; refine (K1.out _ (Below.refl _ _)).mono ?_; rintro e w1 ⟨rfl, hb1⟩; refine Hid.out ?_)
        refine Lib.hid ?_
        go_wp2_with (go_at_call 107; refine (K2.out _ hb1).mono ?_; rintro e w2 ⟨rfl, hb2⟩; refine Hid.out ?_)
        have hB2 := Below.chain hb1 hb2; clear hb2 hb1
        refine Lib.hid ?_
        go_wp2_with (go_at_call 108; refine (K3.out _ hB2).mono ?_; rintro e w3 ⟨rfl, hb3⟩; refine Hid.out ?_)
        have hB3 := Below.chain hB2 hb3; clear hb3 hB2
        refine Lib.hid ?_
        go_wp2_with (go_at_call 109; refine (K4.out _).mono ?_; rintro e w4 ⟨rfl, h⟩; subst h; refine Hid.out ?_)
        refine Lib.hid ?_
        go_wp2
        refine bodyPost_ret (by simp [results, Tryz.results86, go_sem]; rfl) rfl ?_
        exact ⟨rfl, hB3⟩
  · rw [if_neg h] at C1 ⊢
    have hc := errBoth_cases (bytes s) (bytes t)
    unfold errV at *
    generalize errBoth (bytes s) (bytes t) = c at *
    have K1 := Lib.hid C1; clear C1 hs ht htab hT
    rcases hc with rfl | rfl | rfl
    · exact absurd rfl h
    all_goals
      clear h
      go_enter Tryz.func86, Tryz.ntmps86
      go_wp2_with (go_at_call 106; refine (K1.out _ (Below.refl _ _)).mono ?_; rintro e w1 ⟨rfl, hb1⟩; refine Hid.out ?_)
      refine Lib.hid ?_
      go_wp2
      refine bodyPost_ret (by simp [results, Tryz.results86, go_sem]; rfl) rfl ?_
      exact ⟨rfl, hb1⟩
theorem eqLit (s : ByteArray) (l : List UInt8) (h : bytes s ≠ l) : (s.toList == l) = false := by
  rw [beq_eq_false_iff_ne]
  intro h1
  exact h (h1 ▸ (ByteArray.toList_eq s).symm)
theorem itoa_1 : Lib.itoa 1 = [49] := by decide +kernel
theorem refDigitsI (z : Int) (w : World) (h : (Lib.decDigits z.natAbs).length ≤ 1000000) :
    Calls Tryz.prog 63 #[.string (str (Lib.itoa z))] w fun e w' => e = .returned (.int .i64 ((Lib.decDigits z.natAbs).length : Nat)) ∧ w' = w := by
  have := refDigits_any (str (Lib.itoa z)) w (txt_size (txt_str z)) (by have := itoa_len z; omega)
  rwa [bytes_str, digL_itoa] at this
end Go.Proofs.YtjobmkdaaionlaaGreatDoor
