import Derived.Test.YtbadibbdoljjhaaGreatDoorBase18
import Derived.Test.YtbadibbdoljjhaaGreatDoorBase15

set_option linter.unusedVariables false
/-
  The reference: order of digits, Order, Checks, Compare.
-/
namespace Go.Proofs.YtbadibbdoljjhaaGreatDoor
open Go Go.Proofs Go.RowKit

theorem dcmp_eq (x y : Nat) (he : (nl x).length = (nl y).length) (h : ∀ j, j < (nl x).length → (nl x).getD j 0 = (nl y).getD j 0) : cmpN x y = 0 := by
  have : nl x = nl y := by
    refine List.ext_getElem he fun j h1 h2 => ?_
    have := h j h1
    rwa [getD_lt _ _ h1, getD_lt _ _ h2] at this
  have e : x = y := by rw [← dv_limbs x, this, dv_limbs]
  subst e; simp [cmpN]

theorem dcmp_top (x y : Nat) (he : (nl x).length = (nl y).length) (i : Nat) (hi : i < (nl x).length)
    (h : ∀ j, i < j → j < (nl x).length → (nl x).getD j 0 = (nl y).getD j 0) (hne : (nl x).getD i 0 ≠ (nl y).getD i 0) :
    cmpN x y = if (nl x).getD i 0 < (nl y).getD i 0 then -1 else 1 := by
  have hd : (nl x).drop (i + 1) = (nl y).drop (i + 1) := by
    refine List.ext_getElem (by simp [he]) fun j h1 h2 => ?_
    simp only [List.getElem_drop]
    have h3 : i + 1 + j < (nl x).length := by simp at h1; omega
    have := h (i + 1 + j) (by omega) h3
    rwa [getD_lt _ _ h3, getD_lt _ _ (by omega)] at this
  rw [getD_lt _ _ hi, getD_lt _ _ (by omega)] at *
  unfold cmpN
  by_cases hl : (nl x)[i] < (nl y)[i]
  · have := dv_lt_of_top (nl_small x) he i hi hd hl
    rw [dv_limbs, dv_limbs] at this
    rw [if_pos this, if_pos hl]
  · have := dv_lt_of_top (nl_small y) he.symm i (by omega) hd.symm (by omega)
    rw [dv_limbs, dv_limbs] at this
    rw [if_neg (by omega), if_neg (by omega), if_neg hl]

theorem lt_of_nl_len {m n : Nat} (h : (nl m).length < (nl n).length) : m < n := dlt_of_limbs_length h

set_option maxHeartbeats 2000000 in
theorem refOrder_any (x y : Nat) (vx vy : Value) (w : World) (hx : DV w vx (nl x)) (hy : DV w vy (nl y)) :
    Calls Tryz.prog 162 #[vx, vy] w fun e w' => e = .returned (.int .i64 (cmpN x y)) ∧ Below w.heap.size w w' := by
  obtain ⟨ao, c, rfl, hx⟩ := hx
  obtain ⟨ap, c', rfl, hy⟩ := hy
  have h1 := hx.1; have h2 := hx.2.1; have h3 := hy.1; have h4 := hy.2.1
  have b1 : (nl x).length ≤ 9223372036854775807 := by omega
  have b2 : (nl y).length ≤ 9223372036854775807 := by omega
  clear h1 h2 h3 h4
  by_cases hlt : (nl x).length < (nl y).length
  · have hr : cmpN x y = -1 := by unfold cmpN; rw [if_pos (lt_of_nl_len hlt)]
    rw [hr]
    have t1 : (((nl x).length : Int) != ((nl y).length : Int)) = true := by simp; omega
    clear hx hy hr
    generalize (nl x).length = n at *
    generalize (nl y).length = m at *
    go_enter Tryz.func162, Tryz.ntmps162
    go_wp2
    go_ret
    exact ⟨rfl, Below.refl _ _⟩
  · by_cases hgt : (nl y).length < (nl x).length
    · have hr : cmpN x y = 1 := by have := lt_of_nl_len hgt; unfold cmpN; rw [if_neg (by omega), if_neg (by omega)]
      rw [hr]
      have t1 : (((nl x).length : Int) != ((nl y).length : Int)) = true := by simp; omega
      clear hx hy hr
      generalize (nl x).length = n at *
      generalize (nl y).length = m at *
      go_enter Tryz.func162, Tryz.ntmps162
      go_wp2
      go_ret
      exact ⟨rfl, Below.refl _ _⟩
    · have he : (nl x).length = (nl y).length := by omega
      have hz := dcmp_eq x y he
      have ht := dcmp_top x y he
      by_cases hn0 : nl x = []
      · have hr := hz (fun j hj => by rw [hn0] at hj; simp at hj)
        rw [hr]
        rw [hn0] at he ⊢
        rw [← he]
        have hnil : ([] : List Nat).length = 0 := rfl
        rw [hnil]
        clear hx hy hz ht hr he hlt hgt b1 b2 hn0
        go_enter Tryz.func162, Tryz.ntmps162
        go_wp2_with fail
        go_rounds 1
        go_ret
        exact ⟨rfl, Below.refl _ _⟩
      · have hn0' : nl y ≠ [] := fun h => hn0 (List.length_eq_zero_iff.1 (by rw [he, h]; rfl))
        obtain ⟨d, hd, hdb, hxc⟩ := hx.open (nl_small x)
        obtain ⟨f, hf, hfb, hyc⟩ := hy.open (nl_small y)
        obtain ⟨b, off, rfl, hb, hxc⟩ := hxc.resolve_left hn0
        obtain ⟨b', off', rfl, hb', hyc⟩ := hyc.resolve_left hn0'
        rw [← he] at hf hyc ⊢
        have hZ : (∀ j, j < (nl x).length → d j = f j) → cmpN x y = 0 := fun h => hz fun j hj => by
          have := h j hj; rw [hd j hj, hf j hj] at this; exact Int.ofNat.inj this
        have hT : ∀ i, i < (nl x).length → (∀ j, i < j → j < (nl x).length → d j = f j) → d i ≠ f i → cmpN x y = if d i < f i then -1 else 1 := fun i hi h hne => by
          rw [ht i hi (fun j h1 h2 => by have := h j h1 h2; rw [hd j h2, hf j h2] at this; exact Int.ofNat.inj this) (fun e => hne (by rw [hd i hi, hf i hi, e])), hd i hi, hf i hi]
          simp only [Int.ofNat_lt]
        clear hd hf hx hy hz ht hdb hfb he hlt hgt b2 hn0 hn0'
        generalize (nl x).length = n at *
        generalize cmpN x y = r at *
        have HZ := Lib.hid hZ; have HT := Lib.hid hT; have HXC := Lib.hid hxc; have HYC := Lib.hid hyc
        clear hxc hyc hZ hT
        go_enter Tryz.func162, Tryz.ntmps162
        go_wp2_with fail
        go_loopw [5] (fun i wr => ∃ k : Int, -1 ≤ k ∧ k < n ∧ i = .int .i64 k ∧ (∀ j : Nat, k < j → j < n → d j = f j) ∧ Below w.heap.size w wr) (fun i _ => (intOf i + 1).toNat)
        case atStart => exact ⟨(n : Int) - 1, by omega, by omega, rfl, fun j h1 h2 => by omega, Below.refl _ _⟩
        case round =>
          obtain ⟨k, hk1, hk2, rfl, heq, hbw⟩ := hrel
          have HEQ := Lib.hid heq; clear heq
          by_cases hk : k = -1
          · subst hk
            go_wp2
            go_ret
            exact ⟨ret_int (HZ.out fun j hj => HEQ.out j (by omega) hj).symm, hbw⟩
          · obtain ⟨j, rfl⟩ := Int.eq_ofNat_of_zero_le (show 0 ≤ k by omega)
            have hj : j < n := by omega
            have c3 : wr.cell? ⟨b, off + j, none⟩ = some (.int .i64 (d j)) := (hbw.cell (p := ⟨b, off + j, none⟩) hb).trans (HXC.out j hj)
            have c4 : wr.cell? ⟨b', off' + j, none⟩ = some (.int .i64 (f j)) := (hbw.cell (p := ⟨b', off' + j, none⟩) hb').trans (HYC.out j hj)
            by_cases hdf : d j = f j
            · have hb1 : (d j != f j) = false := by simp [hdf]
              have HDF := Lib.hid hdf; clear hdf
              go_wp2
              go_quiet (fail)
              go_wp2
              go_roundw
              case rel => exact ⟨(j : Int) - 1, by omega, by omega, rfl, fun i h1 h2 => by
                by_cases e : i = j
                · rw [e]; exact HDF.out
                · exact HEQ.out i (by omega) h2, hbw.trans (below_drewN (Below.refl _ _) _)⟩
              case measure => simp [intOf]
            · have hb1 : (d j != f j) = true := by simp [hdf]
              have hr := HT.out j hj (fun i h1 h2 => HEQ.out i (by omega) h2) hdf
              have HR := Lib.hid hr; clear hr hdf
              by_cases hlt : d j < f j
              · have hdl : decide (d j < f j) = true := by simp [hlt]
                go_wp2
                go_quiet (fail)
                go_wp2
                go_quiet (fail)
                go_wp2
                go_ret
                refine ⟨ret_int ?_, hbw.trans (below_drewN (below_drewN (Below.refl _ _) _) _)⟩
                rw [HR.out, if_pos hlt]
              · have hdl : decide (d j < f j) = false := by simp [hlt]
                go_wp2
                go_quiet (fail)
                go_wp2
                go_quiet (fail)
                go_wp2
                go_ret
                refine ⟨ret_int ?_, hbw.trans (below_drewN (below_drewN (Below.refl _ _) _) _)⟩
                rw [HR.out, if_neg (by omega)]

theorem cmpN_cases (x y : Nat) : cmpN x y = -1 ∨ cmpN x y = 0 ∨ cmpN x y = 1 := by unfold cmpN; (repeat' split) <;> simp
theorem sgn_cases (z : Int) : (cmpI z 0 = -1 ∧ z < 0) ∨ (cmpI z 0 = 0 ∧ z = 0) ∨ (cmpI z 0 = 1 ∧ 0 < z) := by
  unfold cmpI
  rcases Int.lt_trichotomy z 0 with h | h | h
  · exact .inl ⟨if_pos h, h⟩
  · exact .inr (.inl ⟨by rw [if_neg (by omega), if_pos h], h⟩)
  · exact .inr (.inr ⟨by rw [if_neg (by omega), if_neg (by omega)], h⟩)
theorem cmpI_neg {x y : Int} (hx : x < 0) (hy : y < 0) : cmpI x y = -cmpN x.natAbs y.natAbs := by
  unfold cmpI cmpN; (repeat' split) <;> omega
theorem cmpI_pos {x y : Int} (hx : 0 ≤ x) (hy : 0 ≤ y) : cmpI x y = cmpN x.natAbs y.natAbs := by
  unfold cmpI cmpN; (repeat' split) <;> omega
theorem cmpI_lt {x y : Int} (h : x < y) : cmpI x y = -1 := by unfold cmpI; rw [if_pos h]
theorem cmpI_gt {x y : Int} (h : y < x) : cmpI x y = 1 := by unfold cmpI; rw [if_neg (by omega), if_neg (by omega)]

theorem dlen_bound {s : ByteArray} {z : Int} (h : bytes s = Lib.itoa z) (hs : s.size ≤ 1000000000000) : (dgs z.natAbs).length ≤ 1000000000000 := by
  rw [dgs_length]
  have := txt_len h
  omega

set_option maxHeartbeats 4000000 in
theorem refOrderI (s t : ByteArray) (x y : Int) (w : World) (hs : bytes s = Lib.itoa x) (ht : bytes t = Lib.itoa y) (hls : s.size ≤ 1000000000000) (hlt : t.size ≤ 1000000000000) :
    Calls Tryz.prog 110 #[.string s, .string t] w fun e w' => e = .returned (.int .i64 (cmpI x y)) ∧ Below w.heap.size w w' := by
  have S1 := fun W => refSign_txt s x W hs
  have S2 := fun W => refSign_txt t y W ht
  have D1 := fun W => refDigits_txt s x W hs hls
  have D2 := fun W => refDigits_txt t y W ht hlt
  have U1 : ∀ v W, DV W v (dgs x.natAbs) → Calls Tryz.prog 149 #[v] W fun e w' => ∃ v', e = .returned v' ∧ DV W v' (nl x.natAbs) ∧ w' = W := fun v W hv => by
    have := cut_any _ v W hv (dgs_dg _) (dlen_bound hs hls)
    rwa [dv_dgs] at this
  have U2 : ∀ v W, DV W v (dgs y.natAbs) → Calls Tryz.prog 149 #[v] W fun e w' => ∃ v', e = .returned v' ∧ DV W v' (nl y.natAbs) ∧ w' = W := fun v W hv => by
    have := cut_any _ v W hv (dgs_dg _) (dlen_bound ht hlt)
    rwa [dv_dgs] at this
  have R := fun vx vy W hx hy => refOrder_any x.natAbs y.natAbs vx vy W hx hy
  have hcN := cmpN_cases x.natAbs y.natAbs
  have h1 := sgn_cases x
  have h2 := sgn_cases y
  have e1 : x < 0 → y < 0 → cmpI x y = -cmpN x.natAbs y.natAbs := cmpI_neg
  have e2 : 0 ≤ x → 0 ≤ y → cmpI x y = cmpN x.natAbs y.natAbs := cmpI_pos
  have e3 : x < y → cmpI x y = -1 := cmpI_lt
  have e4 : y < x → cmpI x y = 1 := cmpI_gt
  have hc0 : x = 0 → y = 0 → cmpN x.natAbs y.natAbs = 0 := fun a b => by subst a; subst b; rfl
  generalize cmpN x.natAbs y.natAbs = r at *
  generalize cmpI x y = q at *
  generalize cmpI x 0 = sx at *
  generalize cmpI y 0 = sy at *
  have hr1 : -1 ≤ r := by omega
  have hr2 : r ≤ 1 := by omega
  have K1 := Lib.hid S1; have K2 := Lib.hid S2; have K3 := Lib.hid D1; have K4 := Lib.hid D2; have K5 := Lib.hid U1; have K6 := Lib.hid U2; have K7 := Lib.hid R
  clear S1 S2 D1 D2 U1 U2 R hs ht hls hlt hcN
  rcases h1 with ⟨rfl, h1⟩ | ⟨rfl, h1⟩ | ⟨rfl, h1⟩ <;> rcases h2 with ⟨rfl, h2⟩ | ⟨rfl, h2⟩ | ⟨rfl, h2⟩
  case' inl.inl => (have hq : -r = q := (e1 h1 h2).symm)
  case' inl.inr.inl => (have hq : -1 = q := (e3 (by omega)).symm)
  case' inl.inr.inr => (have hq : -1 = q := (e3 (by omega)).symm)
  case' inr.inl.inl => (have hq : 1 = q := (e4 (by omega)).symm)
  case' inr.inl.inr.inl => (have hq : r = q := (e2 (by omega) (by omega)).symm; have hr0 : r = 0 := hc0 h1 h2)
  case' inr.inl.inr.inr => (have hq : -1 = q := (e3 (by omega)).symm)
  case' inr.inr.inl => (have hq : 1 = q := (e4 (by omega)).symm)
  case' inr.inr.inr.inl => (have hq : 1 = q := (e4 (by omega)).symm)
  case' inr.inr.inr.inr => (have hq : r = q := (e2 (by omega) (by omega)).symm)
  all_goals
    clear e1 e2 e3 e4 hc0 h1 h2
    try subst hr0
    subst hq
    go_enter Tryz.func110, Tryz.ntmps110
    go_wp2_with (go_at_call 156; refine (K1.out _).mono ?_; rintro e w1 ⟨rfl, rfl⟩; refine Hid.out ?_)
    refine Lib.hid ?_
    go_wp2_with (go_at_call 156; refine (K2.out _).mono ?_; rintro e w1 ⟨rfl, rfl⟩; refine Hid.out ?_)
    refine Lib.hid ?_
    first
      | (go_wp2
         go_ret
         exact ⟨rfl, Below.refl _ _⟩)
      | (go_wp2_with (go_at_call 145; refine (K3.out _).mono ?_; rintro e w1 ⟨v1, rfl, hv1, hb1⟩; refine Hid.out ?_)
         refine Lib.hid ?_
         go_wp2_with (go_at_call 149; refine (K5.out _ _ hv1).mono ?_; rintro e w2 ⟨v2, rfl, hv2, h⟩; subst h; refine Hid.out ?_)
         refine Lib.hid ?_
         go_wp2_with (go_at_call 145; refine (K4.out _).mono ?_; rintro e w3 ⟨v3, rfl, hv3, hb3⟩; refine Hid.out ?_)
         have hv2' := hv2.mono hb3
         refine Lib.hid ?_
         go_wp2_with (go_at_call 149; refine (K6.out _ _ hv3).mono ?_; rintro e w4 ⟨v4, rfl, hv4, h⟩; subst h; refine Hid.out ?_)
         refine Lib.hid ?_
         go_wp2_with (go_at_call 162; refine (K7.out _ _ _ hv2' hv4).mono ?_; rintro e w5 ⟨rfl, hb5⟩; refine Hid.out ?_)
         refine Lib.hid ?_
         go_wp2
         go_ret
         exact ⟨rfl, Below.chain hb1 (Below.chain hb3 hb5)⟩)

theorem refChecks_any (s t : ByteArray) (w : World) (hs : s.size ≤ 9223372036854775807) (ht : t.size ≤ 9223372036854775807) :
    Calls Tryz.prog 84 #[.string s, .string t] w fun e w' => e = .returned (.int .i64 (errBoth (bytes s) (bytes t) : Nat)) ∧ w' = w := by
  have C1 := fun W => refCheck_any s W hs
  have C2 := fun W => refCheck_any t W ht
  have h := errOf_cases (bytes s)
  unfold errBoth
  generalize errOf (bytes s) = a at *
  generalize errOf (bytes t) = b at *
  have K1 := Lib.hid C1; have K2 := Lib.hid C2; clear C1 C2
  rcases h with rfl | rfl | rfl
  · rw [if_pos rfl]
    go_enter Tryz.func84, Tryz.ntmps84
    go_wp2_with (go_at_call 55; refine (K1.out _).mono ?_; rintro e w1 ⟨rfl, rfl⟩; refine Hid.out ?_)
    refine Lib.hid ?_
    go_wp2_with (go_at_call 55; refine (K2.out _).mono ?_; rintro e w1 ⟨rfl, rfl⟩; refine Hid.out ?_)
    refine Lib.hid ?_
    go_wp2
    go_ret
    exact ⟨rfl, rfl⟩
  all_goals
    rw [if_neg (by decide)]
    go_enter Tryz.func84, Tryz.ntmps84
    go_wp2_with (go_at_call 55; refine (K1.out _).mono ?_; rintro e w1 ⟨rfl, rfl⟩; refine Hid.out ?_)
    refine Lib.hid ?_
    go_wp2
    go_ret
    exact ⟨rfl, rfl⟩

/-- Without an error both are notations. -/
theorem txt_of_canon {s : ByteArray} (h : canonB (bytes s) = true) : bytes s = Lib.itoa (valZ (bytes s)) := itoa_valZ h
theorem canon_of_err {s : ByteArray} (h : errOf (bytes s) = 0) : canonB (bytes s) = true := by
  unfold errOf at h
  cases hc : canonB (bytes s)
  · rw [hc] at h; simp at h
  · rfl
theorem errBoth_zero {a b : List UInt8} (h : errBoth a b = 0) : errOf a = 0 ∧ errOf b = 0 := by
  unfold errBoth at h
  by_cases h1 : errOf a = 0
  · rw [if_pos h1] at h; exact ⟨h1, h⟩
  · rw [if_neg h1] at h; exact absurd h h1

end Go.Proofs.YtbadibbdoljjhaaGreatDoor

/-
  The reference: Whole.
-/
namespace Go.Proofs.YtbadibbdoljjhaaGreatDoor
open Go Go.Proofs Go.RowKit

def fz (u : Nat) : List UInt8 := if u = 0 then [] else Lib.decDigits u
theorem fz_step {u : Nat} (h : u ≠ 0) : fz u = fz (u / 10) ++ [UInt8.ofNat (48 + u % 10)] := by
  unfold fz
  rw [if_neg h]
  by_cases h1 : u < 10
  · rw [if_pos (by omega), Lib.decDigits, dif_pos h1, Nat.mod_eq_of_lt h1]; rfl
  · rw [if_neg (by omega)]
    conv => lhs; rw [Lib.decDigits, dif_neg h1]
/-- The digit of a number below ten. -/
def digitC (d : Nat) : UInt8 := UInt8.ofNat (48 + d)
theorem ten_at : ∀ d, d < 10 → (⟨#[48, 49, 50, 51, 52, 53, 54, 55, 56, 57]⟩ : ByteArray).extract d (d + 1) = str [digitC d] := by decide +kernel
theorem str_append (a b : List UInt8) : str a ++ str b = str (a ++ b) := by
  apply ByteArray.ext; apply Array.ext'; simp [str]
theorem str_cons (c : UInt8) (o : ByteArray) : str [c] ++ o = str (c :: bytes o) := by
  conv => lhs; rw [← str_bytes o]
  rw [str_append]; rfl
theorem max_mod_pos (u : Nat) : max ((u : Int) % 10) (-((u : Int) % 10)) = ((u % 10 : Nat) : Int) := by omega
theorem max_mod_neg (u : Nat) : max (-((u : Int) % 10)) ((u : Int) % 10) = ((u % 10 : Nat) : Int) := by omega

theorem whole_text (u : Nat) (o : ByteArray) (l : List UInt8) (hu : u ≠ 0) (h : fz u ++ bytes o = l) : fz (u / 10) ++ bytes (str [digitC (u % 10)] ++ o) = l := by
  rw [str_cons, bytes_str, ← h, fz_step hu, List.append_assoc]; rfl

set_option maxHeartbeats 2000000 in
theorem whole_pos (n : Nat) (w : World) (h0 : 0 < n) (h1 : n < 9223372036854775808) :
    Calls Tryz.prog 141 #[.int .i64 n] w fun e w' => e = .returned (.string (str (Lib.decDigits n))) ∧ w' = w := by
  have t0 : ((n : Int) == 0) = false := by rw [beq_eq_false_iff_ne]; omega
  have hl := decDigits_length_le n 19 (by decide) (by omega)
  generalize hL : Lib.decDigits n = L at *
  obtain ⟨R, hR⟩ : ∃ R, R = str L := ⟨_, rfl⟩
  rw [← hR]
  have HL := Lib.hid hL; have HR := Lib.hid hR; clear hL hR
  go_enter Tryz.func141, Tryz.ntmps141
  go_wp2_with fail
  go_loop [3, 4] (fun sv mv => ∃ (u : Nat) (o : ByteArray), u ≤ n ∧ mv = .int .i64 u ∧ sv = .string o ∧ fz u ++ bytes o = L) (fun _ mv => (intOf mv).toNat)
  case atStart => exact ⟨n, _, Nat.le_refl _, rfl, rfl, by unfold fz; rw [if_neg (by omega), HL.out]; simp [bytes]⟩
  case round =>
    obtain ⟨u, o, hu, rfl, rfl, hd⟩ := hrel
    have ho : o.size ≤ 19 := by have := congrArg List.length hd; rw [List.length_append, bytes_length] at this; omega
    have HD := Lib.hid hd; clear hd
    by_cases hu0 : u = 0
    · subst hu0
      have he : o = R := by rw [HR.out, ← str_bytes o, ← HD.out]; rfl
      subst he
      clear HD HR
      go_wp2
      go_ret
      exact ⟨rfl, rfl⟩
    · have hu1 : ((u : Int) != 0) = true := by simp; omega
      have hu2 : 0 < u := by omega
      have hm := max_mod_pos u
      have hlt : u % 10 < 10 := Nat.mod_lt _ (by decide)
      have hx := ten_at (u % 10) hlt
      have HN := Lib.hid (whole_text u o L hu0 HD.out)
      clear hu0
      generalize hdd : u % 10 = d at *
      have HDD := Lib.hid hdd; clear hdd
      have hs : (str [digitC d]).size = 1 := rfl
      go_wp2
      go_round
      case rel => exact ⟨u / 10, _, by omega, by go_num, rfl, HN.out⟩
      case measure => simp [intOf]; omega
set_option maxHeartbeats 2000000 in
theorem whole_neg (n : Nat) (w : World) (h0 : 0 < n) (h1 : n ≤ 9223372036854775808) :
    Calls Tryz.prog 141 #[.int .i64 (-(n : Int))] w fun e w' => e = .returned (.string (str (45 :: Lib.decDigits n))) ∧ w' = w := by
  have t0 : ((-(n : Int)) == 0) = false := by rw [beq_eq_false_iff_ne]; omega
  have hl := decDigits_length_le n 19 (by decide) (by omega)
  generalize hL : Lib.decDigits n = L at *
  obtain ⟨R, hR⟩ : ∃ R, R = str (45 :: L) := ⟨_, rfl⟩
  rw [← hR]
  have HL := Lib.hid hL; have HR := Lib.hid hR; clear hL hR
  go_enter Tryz.func141, Tryz.ntmps141
  go_wp2_with fail
  go_loop [3, 4] (fun sv mv => ∃ (u : Nat) (o : ByteArray), u ≤ n ∧ mv = .int .i64 (-(u : Int)) ∧ sv = .string o ∧ fz u ++ bytes o = L) (fun _ mv => (-(intOf mv)).toNat)
  case atStart => exact ⟨n, _, Nat.le_refl _, rfl, rfl, by unfold fz; rw [if_neg (by omega), HL.out]; simp [bytes]⟩
  case round =>
    obtain ⟨u, o, hu, rfl, rfl, hd⟩ := hrel
    have ho : o.size ≤ 19 := by have := congrArg List.length hd; rw [List.length_append, bytes_length] at this; omega
    have HD := Lib.hid hd; clear hd
    by_cases hu0 : u = 0
    · subst hu0
      have he : ⟨#[45]⟩ ++ o = R := by
        have := str_cons 45 o
        rw [HR.out, ← HD.out]
        exact this
      have HE := Lib.hid he; clear HD HR he
      go_wp2
      go_ret
      exact ⟨by rw [← HE.out]; rfl, rfl⟩
    · have hu1 : ((-(u : Int)) != 0) = true := by simp; omega
      have hu2 : 0 < u := by omega
      have hm := max_mod_neg u
      have hlt : u % 10 < 10 := Nat.mod_lt _ (by decide)
      have hx := ten_at (u % 10) hlt
      have HN := Lib.hid (whole_text u o L hu0 HD.out)
      clear hu0
      generalize hdd : u % 10 = d at *
      have HDD := Lib.hid hdd; clear hdd
      have hs : (str [digitC d]).size = 1 := rfl
      go_wp2
      go_round
      case rel => exact ⟨u / 10, _, by omega, by go_num, rfl, HN.out⟩
      case measure => simp [intOf]; omega

theorem whole_any (n : Int) (w : World) (h0 : -9223372036854775808 ≤ n) (h1 : n ≤ 9223372036854775807) :
    Calls Tryz.prog 141 #[.int .i64 n] w fun e w' => e = .returned (.string (str (Lib.itoa n))) ∧ w' = w := by
  rcases Int.lt_trichotomy n 0 with h | h | h
  · obtain ⟨m, hm⟩ : ∃ m : Nat, m = n.natAbs := ⟨_, rfl⟩
    have e : n = -(m : Int) := by omega
    rw [itoa_neg h, ← hm, e]
    exact whole_neg m w (by omega) (by omega)
  · subst h
    have hz : str (Lib.itoa 0) = ⟨#[48]⟩ := by rw [itoa_nonneg (by omega)]; show str (Lib.decDigits 0) = _; rw [dec0']; rfl
    rw [hz]
    go_enter Tryz.func141, Tryz.ntmps141
    go_wp2
    go_ret
    exact ⟨rfl, rfl⟩
  · obtain ⟨m, hm⟩ : ∃ m : Nat, m = n.natAbs := ⟨_, rfl⟩
    have e : n = (m : Int) := by omega
    rw [itoa_nonneg (by omega), ← hm, e]
    exact whole_pos m w (by omega) (by omega)

end Go.Proofs.YtbadibbdoljjhaaGreatDoor

/-
  The laws' right.
-/
namespace Go.Proofs.YtbadibbdoljjhaaGreatDoor
open Go Go.Proofs Go.RowKit

/-- A string that Check passes is its integer's notation. -/
theorem str_of_err {s : ByteArray} (h : errOf (bytes s) = 0) : Str s (valZ (bytes s)) := by
  unfold errOf at h
  cases hc : canonB (bytes s)
  · rw [hc] at h; simp at h
  · rw [hc, if_pos rfl] at h
    refine str_lit hc rfl ?_
    by_cases hl : 4096 < (digL (bytes s)).length
    · rw [if_pos hl] at h; cases h
    · omega
end Go.Proofs.YtbadibbdoljjhaaGreatDoor

/-
  The reference: Sign, Magnitude, Negated, short.
-/
namespace Go.Proofs.YtbadibbdoljjhaaGreatDoor
open Go Go.Proofs Go.RowKit

theorem Str.pos {s : ByteArray} {x : Int} (h : Str s x) : 0 < s.size := by
  rcases Nat.eq_zero_or_pos s.size with h0 | h0
  · exfalso
    have h1 : bytes s = [] := List.length_eq_zero_iff.1 h0
    have h2 := canonB_itoa x
    rw [← h.text, h1] at h2
    exact absurd h2 (by decide)
  · exact h0
theorem Str.first {s : ByteArray} {x : Int} (h : Str s x) : decide (byteAt s 0 = 45) = decide (x < 0) := by
  rw [← negB_itoa x, ← h.text]
  have hp := h.pos
  have hl : (bytes s).length = s.size := rfl
  match hb : bytes s, hl with
  | [], hl => simp at hl; omega
  | c :: t, hl =>
    have e0 := byte0 hb
    rw [e0]
    unfold negB Lib.hasPrefix
    rw [Bool.eq_iff_iff, decide_eq_true_eq]
    simp only [List.isPrefixOf, Bool.and_true, beq_iff_eq]
    exact ⟨fun h => (UInt8.toNat_inj.1 (by rw [h]; rfl)).symm, fun h => by rw [← h]; rfl⟩

theorem refSign_any (s : ByteArray) (x : Int) (w : World) (hs : Str s x) :
    Calls Tryz.prog 156 #[.string s] w fun e w' => e = .returned (.int .i64 (cmpI x 0)) ∧ w' = w := by
  by_cases h0 : x = 0
  · subst h0
    have hz : s = ⟨#[48]⟩ := by have h1 := lit_str hs; have h2 := lit_str str_zero; exact h1.symm.trans h2
    subst hz
    clear hs
    go_enter Tryz.func156, Tryz.ntmps156
    go_wp2
    go_ret
    exact ⟨rfl, rfl⟩
  · have hd := eq48 s (hs.ne_zero h0)
    have C := fun W => negative_any s W hs.pos
    rw [hs.first] at C
    by_cases hx : x < 0
    · rw [decide_eq_true hx] at C
      have hc : cmpI x 0 = -1 := by unfold cmpI; rw [if_pos hx]
      rw [hc]
      have KC := Lib.hid C; clear C hs h0 hx hc
      go_enter Tryz.func156, Tryz.ntmps156
      go_wp2_with (go_at_call 140; refine (KC.out _).mono ?_; rintro e w1 ⟨rfl, h⟩; subst h; refine Hid.out ?_)
      refine Lib.hid ?_
      go_wp2
      go_ret
      exact ⟨rfl, rfl⟩
    · rw [decide_eq_false hx] at C
      have hc : cmpI x 0 = 1 := by unfold cmpI; rw [if_neg hx, if_neg h0]
      rw [hc]
      have KC := Lib.hid C; clear C hs h0 hx hc
      go_enter Tryz.func156, Tryz.ntmps156
      go_wp2_with (go_at_call 140; refine (KC.out _).mono ?_; rintro e w1 ⟨rfl, h⟩; subst h; refine Hid.out ?_)
      refine Lib.hid ?_
      go_wp2
      go_ret
      exact ⟨rfl, rfl⟩

theorem tail_str {s : ByteArray} {x : Int} (hs : Str s x) (hx : x < 0) : s.extract 1 s.size = str (Lib.decDigits x.natAbs) := by
  have h := hs.text
  rw [itoa_neg hx] at h
  apply ByteArray.ext
  apply Array.ext'
  rw [ByteArray.data_extract, Array.toList_extract]
  have hl : s.size = (bytes s).length := rfl
  rw [hl]
  unfold bytes at *
  rw [h]
  simp [str, List.extract]

theorem refMagnitude_any (s : ByteArray) (x : Int) (w : World) (hs : Str s x) :
    Calls Tryz.prog 87 #[.string s] w fun e w' => e = .returned (.string (str (Lib.itoa (x.natAbs : Int)))) ∧ w' = w := by
  have C := fun W => negative_any s W hs.pos
  rw [hs.first] at C
  have hp := hs.pos
  have hsz := hs.size
  by_cases hx : x < 0
  · rw [decide_eq_true hx] at C
    have KC := Lib.hid C; have HS := Lib.hid hs; clear C hs
    go_enter Tryz.func87, Tryz.ntmps87
    go_wp2_with (go_at_call 140; refine (KC.out _).mono ?_; rintro e w1 ⟨rfl, h⟩; subst h; refine Hid.out ?_)
    refine Lib.hid ?_
    go_wp2
    go_ret
    refine ⟨?_, rfl⟩
    show Ending.returned (.string (s.extract 1 s.size)) = _
    rw [tail_str HS.out hx, itoa_nonneg (by omega), Int.natAbs_natCast]
  · rw [decide_eq_false hx] at C
    have e : str (Lib.itoa (x.natAbs : Int)) = s := by rw [show (x.natAbs : Int) = x by omega]; exact lit_str hs
    rw [e]
    have KC := Lib.hid C; clear C hs e hx
    go_enter Tryz.func87, Tryz.ntmps87
    go_wp2_with (go_at_call 140; refine (KC.out _).mono ?_; rintro e w1 ⟨rfl, h⟩; subst h; refine Hid.out ?_)
    refine Lib.hid ?_
    go_wp2
    go_ret
    exact ⟨rfl, rfl⟩

theorem refNegated_any (s : ByteArray) (x : Int) (w : World) (hs : Str s x) :
    Calls Tryz.prog 161 #[.string s] w fun e w' => e = .returned (.string (str (Lib.itoa (-x)))) ∧ w' = w := by
  have hp := hs.pos
  have hsz := hs.size
  by_cases h0 : x = 0
  · subst h0
    have hz : s = ⟨#[48]⟩ := by have h1 := lit_str hs; have h2 := lit_str str_zero; exact h1.symm.trans h2
    subst hz
    have e : str (Lib.itoa (-0)) = ⟨#[48]⟩ := lit_str str_zero
    rw [e]
    clear hs e
    go_enter Tryz.func161, Tryz.ntmps161
    go_wp2
    go_ret
    exact ⟨rfl, rfl⟩
  · have hd := eq48 s (hs.ne_zero h0)
    have C := fun W => negative_any s W hs.pos
    rw [hs.first] at C
    by_cases hx : x < 0
    · rw [decide_eq_true hx] at C
      have KC := Lib.hid C; have HS := Lib.hid hs; clear C hs
      go_enter Tryz.func161, Tryz.ntmps161
      go_wp2_with (go_at_call 140; refine (KC.out _).mono ?_; rintro e w1 ⟨rfl, h⟩; subst h; refine Hid.out ?_)
      refine Lib.hid ?_
      go_wp2
      go_ret
      refine ⟨?_, rfl⟩
      show Ending.returned (.string (s.extract 1 s.size)) = _
      rw [tail_str HS.out hx, itoa_nonneg (by omega), Int.natAbs_neg]
    · rw [decide_eq_false hx] at C
      have e1 : str (Lib.itoa (-x)) = ⟨#[45]⟩ ++ s := by
        have h := hs.text
        rw [itoa_nonneg hx] at h
        rw [itoa_neg (by omega), Int.natAbs_neg, ← h]
        apply ByteArray.ext
        apply Array.ext'
        simp [str, bytes]
      rw [e1]
      have KC := Lib.hid C; clear C hs hx e1 h0
      go_enter Tryz.func161, Tryz.ntmps161
      go_wp2_with (go_at_call 140; refine (KC.out _).mono ?_; rintro e w1 ⟨rfl, h⟩; subst h; refine Hid.out ?_)
      refine Lib.hid ?_
      go_wp2
      go_ret
      exact ⟨rfl, rfl⟩

theorem short_any (s : ByteArray) (n : Nat) (hn : n ≤ 1000000) (x : Int) (w : World) (hs : Str s x) :
    Calls Tryz.prog 146 #[.string s, .int .i64 n] w fun e w' => e = .returned (.bool (decide ((Lib.decDigits x.natAbs).length ≤ n))) ∧ w' = w := by
  have hsz := hs.size
  have C := fun W => refDigits_any s W hs.pos (by omega)
  rw [hs.text, digL_itoa] at C
  have hl := hs.len
  generalize (Lib.decDigits x.natAbs).length = m at *
  have KC := Lib.hid C; clear C hs
  go_enter Tryz.func146, Tryz.ntmps146
  go_wp2_with (go_at_call 118; refine (KC.out _).mono ?_; rintro e w1 ⟨rfl, h⟩; subst h; refine Hid.out ?_)
  refine Lib.hid ?_
  go_wp2
  go_ret
  exact ⟨ret_bool (by simp), rfl⟩
end Go.Proofs.YtbadibbdoljjhaaGreatDoor

/-
  The reference: number, short, Int, Small, Negated, Magnitude at any notation.
-/
namespace Go.Proofs.YtbadibbdoljjhaaGreatDoor
open Go Go.Proofs Go.RowKit

/-- The value of the digits before place k. -/
def nv (s : ByteArray) (p k : Nat) : Nat := dec (((bytes s).take k).drop p)
theorem nv_low (s : ByteArray) {p k : Nat} (h : k ≤ p) : nv s p k = 0 := by
  unfold nv
  rw [List.drop_of_length_le (by rw [List.length_take]; omega)]; rfl
theorem nv_step (s : ByteArray) {p k : Nat} (h : p ≤ k) (hk : k < s.size) : nv s p (k + 1) = 10 * nv s p k + (byteAt s k - 48) := by
  unfold nv byteAt
  have h' : k < (bytes s).length := hk
  rw [List.take_succ_eq_append_getElem h', List.drop_append_of_le_length (by rw [List.length_take]; omega), dec_snoc]
  simp [List.getD_eq_getElem?_getD, List.getElem?_eq_getElem h']
theorem nv_end (s : ByteArray) (p : Nat) : nv s p s.size = dec ((bytes s).drop p) := by
  unfold nv
  rw [List.take_of_length_le (by rw [bytes_length]; exact Nat.le_refl _)]
theorem nv_lt (s : ByteArray) {p k : Nat} (hd : ∀ j, p ≤ j → j < s.size → 48 ≤ byteAt s j ∧ byteAt s j ≤ 57) (hk : k ≤ s.size) (h17 : k ≤ p + 17) : nv s p k < 100000000000000000 := by
  induction k generalizing p with
  | zero => rw [nv_low s (by omega)]; decide
  | succ k ih =>
    unfold nv
    refine Nat.lt_of_lt_of_le (dec_lt ?_) (show 10 ^ _ ≤ _ from Nat.le_trans (Nat.pow_le_pow_right (by decide) (show _ ≤ 17 by rw [List.length_drop, List.length_take]; omega)) (by decide))
    intro c hc
    obtain ⟨i, hi, rfl⟩ := List.mem_iff_getElem.1 hc
    rw [List.length_drop, List.length_take, bytes_length] at hi
    have h2 := hd (p + i) (by omega) (by omega)
    rw [List.getElem_drop, List.getElem_take]
    exact (isDig_byte s (p + i) (by omega)).trans (by simp [h2.1, h2.2])

set_option maxHeartbeats 2000000 in
theorem number_any (s : ByteArray) (z : Int) (w : World) (h : bytes s = Lib.itoa z) (hlen : (Lib.decDigits z.natAbs).length ≤ 18) :
    Calls Tryz.prog 142 #[.string s] w fun e w' => e = .returned (.int .i64 z) ∧ w' = w := by
  have hdig := txt_dig h
  have hsz := txt_len h
  have h0 := txt_size h
  have hng := txt_neg h
  have CN := fun W => negative_any s W h0
  have hend := nv_end s (if z < 0 then 1 else 0)
  rw [txt_drop h, dec_decDigits] at hend
  rw [hng] at CN
  have hz : z.natAbs < 1000000000000000000 := by
    have h1 := dec_lt (allDig_decDigits z.natAbs)
    rw [dec_decDigits] at h1
    exact Nat.lt_of_lt_of_le h1 (Nat.le_trans (Nat.pow_le_pow_right (by decide) hlen) (by decide))
  obtain ⟨p, hp⟩ : ∃ p : Nat, p = if z < 0 then 1 else 0 := ⟨_, rfl⟩
  rw [← hp] at hdig hsz hend
  have h45 : z < 0 → byteAt s 0 = 45 := fun a => by rw [decide_eq_true a, decide_eq_true_eq] at hng; exact hng
  have hp1 : p ≤ 1 := by rw [hp]; split <;> omega
  have hp2 : p = 1 → byteAt s 0 = 45 := fun a => h45 (by rw [hp] at a; by_cases hz : z < 0; exact hz; rw [if_neg hz] at a; cases a)
  have hs18 : s.size ≤ p + 18 := by omega
  have hlt : ∀ k, k < s.size → nv s p k < 100000000000000000 := fun k hk => nv_lt s hdig (by omega) (by omega)
  have hst : ∀ k, p ≤ k → k < s.size → nv s p (k + 1) = 10 * nv s p k + (byteAt s k - 48) := fun k a b => nv_step s a b
  have hlo : ∀ k, k ≤ p → nv s p k = 0 := fun k a => nv_low s a
  have H1 := Lib.hid hdig; have H2 := Lib.hid hend; have H3 := Lib.hid hlt; have H4 := Lib.hid hst; have H5 := Lib.hid hlo; have H6 := Lib.hid hp2; have KC := Lib.hid CN; have HP := Lib.hid hp
  clear hdig hend hlt hst hlo hp2 CN h45 hng hp h hlen hsz
  go_enter Tryz.func142, Tryz.ntmps142
  go_wp2_with fail
  go_loop [3, 4] (fun nvv iv => ∃ k : Nat, k ≤ s.size ∧ iv = .int .i64 k ∧ nvv = .int .i64 (nv s p k : Nat)) (fun _ iv => s.size - (intOf iv).toNat)
  case atStart => exact ⟨0, Nat.zero_le _, rfl, by rw [H5.out 0 (Nat.zero_le _)]; rfl⟩
  case round =>
    obtain ⟨k, hk, rfl, rfl⟩ := hrel
    by_cases hks : k < s.size
    · have gk := byteAt_get s k hks
      by_cases hkp : k < p
      · have hk0 : k = 0 := by omega
        have hp1' : p = 1 := by omega
        subst hk0
        have hb := H6.out hp1'
        rw [hb] at gk
        have e1 := H5.out 0 (Nat.zero_le _)
        have e2 := H5.out 1 (by omega)
        have E1 := Lib.hid (e1.trans e2.symm)
        clear e1 e2 hb hkp hp1'
        generalize nv s p 0 = q at *
        go_wp2
        go_round
        case rel => exact ⟨1, by omega, rfl, by rw [E1.out]⟩
        case measure => simp [intOf]; omega
      · obtain ⟨hd1, hd2⟩ := H1.out k (by omega) hks
        have hst := H4.out k (by omega) hks
        have hl := H3.out k hks
        have HST := Lib.hid hst; clear hst
        generalize nv s p k = q at *
        generalize byteAt s k = b at *
        have hneq : ((b : Int) != 45) = true := by simp; omega
        go_wp2
        go_round
        case rel => exact ⟨k + 1, by omega, by go_num, by rw [HST.out]; go_num⟩
        case measure => simp [intOf]; omega
    · have hkn : k = s.size := by omega
      subst hkn
      have he := H2.out
      generalize nv s p s.size = q at *
      subst he
      by_cases hz0 : z < 0
      · rw [decide_eq_true hz0] at KC
        obtain ⟨m, hm⟩ : ∃ m : Nat, m = z.natAbs := ⟨_, rfl⟩
        have hzm : z = -(m : Int) := by omega
        rw [← hm] at hz ⊢
        have HZ := Lib.hid hzm; clear hzm hm hz0
        go_wp2_with (go_at_call 140; refine (KC.out _).mono ?_; rintro e w1 ⟨rfl, h⟩; subst h; refine Hid.out ?_)
        refine Lib.hid ?_
        go_wp2
        go_ret
        exact ⟨ret_int HZ.out.symm, rfl⟩
      · rw [decide_eq_false hz0] at KC
        obtain ⟨m, hm⟩ : ∃ m : Nat, m = z.natAbs := ⟨_, rfl⟩
        have hzm : z = (m : Int) := by omega
        rw [← hm] at hz ⊢
        have HZ := Lib.hid hzm; clear hzm hm hz0
        go_wp2_with (go_at_call 140; refine (KC.out _).mono ?_; rintro e w1 ⟨rfl, h⟩; subst h; refine Hid.out ?_)
        refine Lib.hid ?_
        go_wp2
        go_ret
        exact ⟨ret_int HZ.out.symm, rfl⟩

theorem shortT (s : ByteArray) (z : Int) (n : Nat) (w : World) (h : bytes s = Lib.itoa z) (hs : s.size ≤ 1000000000000) (_hn : n ≤ 1000000) :
    Calls Tryz.prog 146 #[.string s, .int .i64 n] w fun e w' => e = .returned (.bool (decide ((Lib.decDigits z.natAbs).length ≤ n))) ∧ w' = w := by
  have C := fun W => refDigits_any s W (txt_size h) (by omega)
  rw [h, digL_itoa] at C
  generalize (Lib.decDigits z.natAbs).length = d at *
  have KC := Lib.hid C; clear C
  go_enter Tryz.func146, Tryz.ntmps146
  go_wp2_with (go_at_call 118; refine (KC.out _).mono ?_; rintro e w1 ⟨rfl, h⟩; subst h; refine Hid.out ?_)
  refine Lib.hid ?_
  go_wp2
  go_ret
  first | exact ⟨rfl, rfl⟩ | exact ⟨ret_bool (by rw [Bool.eq_iff_iff]; simp), rfl⟩

/-- What Int returns. -/
def intV (z : Int) : Value := if 1048576 < z.natAbs then .tuple #[.int .i64 0, .bool false] else .tuple #[.int .i64 z, .bool true]

/-- What Small returns. -/
def smallV (l : List UInt8) : Value := if errOf l = 0 then (if 1048576 < (valZ l).natAbs then .tuple #[.int .i64 0, .int .i64 2] else .tuple #[.int .i64 (valZ l), .int .i64 0]) else .tuple #[.int .i64 0, .int .i64 (errOf l : Nat)]

end Go.Proofs.YtbadibbdoljjhaaGreatDoor

/-
  The reference: at, plus.
-/
namespace Go.Proofs.YtbadibbdoljjhaaGreatDoor
open Go Go.Proofs Go.RowKit

theorem DV.bound {w : World} {v : Value} {l : List Nat} (h : DV w v l) : l.length ≤ 9223372036854775807 := by
  obtain ⟨ao, c, rfl, hr⟩ := h
  exact Nat.le_trans hr.1 hr.2.1

theorem ownsRow_drewN {w : World} {B n size : Nat} {e : TypeId} {v : Value} {xs : List Value} (h : w.ownsRow B e size v n xs) (q : Nat) : (w.drewN q).ownsRow B e size v n xs := h

set_option maxHeartbeats 1000000 in
theorem at_any (l : List Nat) (v : Value) (i : Nat) (w : World) (hv : DV w v l) (_hi : i ≤ 9223372036854775807) :
    Calls Tryz.prog 227 #[v, .int .i64 i] w fun e w' => e = .returned (.int .i64 (l.getD i 0 : Nat)) ∧ w' = w := by
  have hb := hv.bound
  obtain ⟨ao, c, rfl, hr⟩ := hv
  by_cases h : i < l.length
  · obtain ⟨b, off, rfl⟩ := hr.addr (fun e => by rw [e] at h; simp at h)
    have hc := hr.get i h
    have h2 := hr.1; have h3 := hr.2.1
    generalize l.getD i 0 = d at *
    generalize l.length = n at *
    clear hr
    go_enter Tryz.func227, Tryz.ntmps227
    go_wp2
    go_ret
    exact ⟨rfl, rfl⟩
  · rw [getD_ge l i (by omega)]
    generalize l.length = n at *
    clear hr
    go_enter Tryz.func227, Tryz.ntmps227
    go_wp2
    go_ret
    exact ⟨rfl, rfl⟩

/-- What the loop of plus keeps: s the digits so far. -/
structure PlusInv (x y s : List Nat) (i c : Nat) : Prop where
  len : s.length = i
  dg : Dg s
  carry : c ≤ 1
  eq : dv s + c * 10 ^ i = dv (x.take i) + dv (y.take i)

theorem PlusInv.start (x y : List Nat) : PlusInv x y [] 0 0 := ⟨rfl, Dg.nil, by omega, by simp [dv]⟩
theorem PlusInv.step {x y s : List Nat} {i c : Nat} (h : PlusInv x y s i c) (hx : Dg x) (hy : Dg y) :
    PlusInv x y (s ++ [(c + (x.getD i 0 + y.getD i 0)) % 10]) (i + 1) ((c + (x.getD i 0 + y.getD i 0)) / 10) := by
  have h1 := hx.getD i; have h2 := hy.getD i; have h3 := h.carry
  refine ⟨by simp [h.len], h.dg.append (Dg.cons (Nat.mod_lt _ (by decide)) Dg.nil), by omega, ?_⟩
  rw [dv_append, h.len, dv_take_getD, dv_take_getD]
  have h4 := h.eq
  have h5 := Nat.div_add_mod (c + (x.getD i 0 + y.getD i 0)) 10
  generalize (c + (x.getD i 0 + y.getD i 0)) / 10 = q at *
  generalize (c + (x.getD i 0 + y.getD i 0)) % 10 = r at *
  rw [Nat.pow_succ]
  simp only [dv]
  generalize 10 ^ i = p at *
  have e1 : p * (r + 10 * 0) + q * (p * 10) = (10 * q + r) * p := by grind
  have e2 : (c + (x.getD i 0 + y.getD i 0)) * p = x.getD i 0 * p + c * p + y.getD i 0 * p := by grind
  rw [h5, e2] at e1
  omega
theorem PlusInv.done {x y s : List Nat} {i c : Nat} (h : PlusInv x y s (i + 1) c) (hx : Dg x) (hy : Dg y) (hlx : x.length ≤ i) (hly : y.length ≤ i) : dv s = dv x + dv y := by
  have h4 := h.eq
  rw [List.take_of_length_le (by omega), List.take_of_length_le (by omega)] at h4
  have h1 := dv_lt hx; have h2 := dv_lt hy
  have p1 : (10 : Nat) ^ x.length ≤ 10 ^ i := Nat.pow_le_pow_right (by decide) hlx
  have p2 : (10 : Nat) ^ y.length ≤ 10 ^ i := Nat.pow_le_pow_right (by decide) hly
  rw [Nat.pow_succ] at h4
  have h3 := h.carry
  have hc : c = 0 := by
    rcases Nat.eq_zero_or_pos c with h0 | h0
    · exact h0
    · exfalso
      have : c = 1 := by omega
      subst this
      generalize (10 : Nat) ^ i = p at *
      omega
  subst hc
  omega

theorem mod_cell (c x y : Nat) : dcellsOf [(c + (x + y)) % 10] = [.int .i64 (((c : Int) + ((x : Int) + (y : Int))) % 10)] := by
  show [Value.int .i64 (((c + (x + y)) % 10 : Nat) : Int)] = _
  rw [show (((c + (x + y)) % 10 : Nat) : Int) = ((c : Int) + ((x : Int) + (y : Int))) % 10 by omega]

set_option maxHeartbeats 4000000 in
theorem refPlus_any (X Y : List Nat) (vx vy : Value) (w : World) (hx : DV w vx X) (hy : DV w vy Y) (hX : Dg X) (hY : Dg Y) (hlx : X.length ≤ 1000000000) (hly : Y.length ≤ 1000000000) :
    Calls Tryz.prog 209 #[vx, vy] w (DRet (nl (dv X + dv Y)) w) := by
  obtain ⟨i0, hi, hz0, hz1, hz2⟩ := info_parts dinfoU32
  have A1 : ∀ i : Nat, i ≤ 9223372036854775807 → ∀ W, Below w.heap.size w W → Calls Tryz.prog 227 #[vx, .int .i64 i] W fun e w' => e = .returned (.int .i64 (X.getD i 0 : Nat)) ∧ w' = W := fun i hi W hW => at_any X vx i W (hx.mono hW) hi
  have A2 : ∀ i : Nat, i ≤ 9223372036854775807 → ∀ W, Below w.heap.size w W → Calls Tryz.prog 227 #[vy, .int .i64 i] W fun e w' => e = .returned (.int .i64 (Y.getD i 0 : Nat)) ∧ w' = W := fun i hi W hW => at_any Y vy i W (hy.mono hW) hi
  have hdX := fun i => hX.getD i
  have hdY := fun i => hY.getD i
  have hst : ∀ (s : List Nat) (i c : Nat), PlusInv X Y s i c → PlusInv X Y (s ++ [(c + (X.getD i 0 + Y.getD i 0)) % 10]) (i + 1) ((c + (X.getD i 0 + Y.getD i 0)) / 10) := fun s i c h => h.step hX hY
  have hdn : ∀ (s : List Nat) (i c : Nat), PlusInv X Y s (i + 1) c → X.length ≤ i → Y.length ≤ i → dv s = dv X + dv Y := fun s i c h a b => h.done hX hY a b
  have hs0 := PlusInv.start X Y
  obtain ⟨ao, cx, rfl, -⟩ := hx
  obtain ⟨ap, cy, rfl, -⟩ := hy
  have CC : ∀ (S : List Nat) (v : Value) (W : World), DV W v S → Dg S → S.length ≤ 1000000000000 → Calls Tryz.prog 149 #[v] W fun e w' => ∃ v', e = .returned v' ∧ DV W v' (nl (dv S)) ∧ w' = W := fun S v W h1 h2 h3 => cut_any S v W h1 h2 h3
  generalize X.length = n at *
  generalize Y.length = m at *
  obtain ⟨M, hM⟩ : ∃ M : Nat, M = max n m := ⟨_, rfl⟩
  have hM1 : n ≤ M := by omega
  have hM2 : m ≤ M := by omega
  have hM3 : M ≤ 1000000000 := by omega
  have hmx : max (n : Int) (m : Int) = (M : Int) := by omega
  have KA1 := Lib.hid A1; have KA2 := Lib.hid A2; have KX := Lib.hid hdX; have KY := Lib.hid hdY; have KST := Lib.hid hst; have KDN := Lib.hid hdn; have KS0 := Lib.hid hs0; have KC := Lib.hid CC
  have HM := Lib.hid hM; clear hM
  clear A1 A2 hdX hdY hst hdn hs0 CC hX hY
  go_enter Tryz.func209, Tryz.ntmps209
  go_wp2_with fail
  go_loopw [5, 6, 7] (fun v cv iv wr => ∃ (i c : Nat) (S : List Nat), i ≤ M + 1 ∧ iv = .int .i64 i ∧ cv = .int .i64 c ∧ PlusInv X Y S i c ∧ wr.ownsRow w.heap.size 3 1 v S.length (dcellsOf S) ∧ Below w.heap.size w wr) (fun _ _ iv _ => M + 1 - (intOf iv).toNat)
  case atStart => exact ⟨0, 0, [], by omega, rfl, rfl, KS0.out, World.ownsRow_nil _ _ _ _, Below.refl _ _⟩
  case round =>
    obtain ⟨i, c, S, hi1, rfl, rfl, hinv, hown, hbw⟩ := hrel
    have hc := hinv.carry
    have hln := hinv.len
    have HI := Lib.hid hinv; have HL := Lib.hid hln; clear hinv hln
    by_cases hlt : i < M + 1
    · have t1 : decide ((i : Int) < (M : Int) + 1) = true := decide_eq_true (by omega)
      have hx9 := KX.out i; have hy9 := KY.out i
      have a1 := KA1.out i (by omega); have a2 := KA2.out i (by omega)
      have hstp := KST.out S i c HI.out
      have hSl : S.length ≤ 1000000001 := by rw [HL.out]; omega
      generalize X.getD i 0 = xd at *
      generalize Y.getD i 0 = yd at *
      have A1 := Lib.hid a1; have A2 := Lib.hid a2; have HST := Lib.hid hstp
      clear a1 a2 hstp
      go_wp2_with (go_at_call 227; refine (A1.out _ hbw).mono ?_; rintro e w1 ⟨rfl, h⟩; subst h; refine Hid.out ?_)
      refine Lib.hid ?_
      go_wp2_with (go_at_call 227; refine (A2.out _ hbw).mono ?_; rintro e w1 ⟨rfl, h⟩; subst h; refine Hid.out ?_)
      refine Lib.hid ?_
      go_wp2_with (at_builtin; refine wpList_append_own _ rfl _ _ 130 rfl w.heap.size 3 i0 (.int .i64 0) 1 8 Tryz.underlying130 hi hz0 hz1 hz2 rfl (by decide) _ _ _ rfl (hown.alloc _) ⟨w1.heap.size, 0, none⟩ 1 1 [.int .i64 (((c : Int) + ((xd : Int) + (yd : Int))) % 10)] rfl rfl ?c1 ?c2 ?c3 ?c4 ?c5 ?_)
      case c1 => intro j u hj; match j, hj with | 0, hj => (simp at hj; subst hj; simp [Addr.add])
      case c2 => intro u hu; simp at hu; subst hu; rfl
      case c3 => unfold maxLen; omega
      case c4 => omega
      case c5 => have := hbw.size; simp; omega
      intro v' w2 hown' hgrow _
      go_wp2
      go_roundw
      case rel =>
        refine ⟨i + 1, (c + (xd + yd)) / 10, S ++ [(c + (xd + yd)) % 10], by omega, by go_num, by go_num, HST.out, ?_, ?_⟩
        · rw [dcellsOf_append, mod_cell, List.length_append]; exact hown'
        · exact hbw.trans (((Below.refl _ _).alloc (by have := hbw.size; omega) _).grown hgrow (by have := hbw.size; simp; omega) (fun k hk => ((hown.lt k hk)).1))
      case measure => simp [intOf]; omega
    · have hiM : i = M + 1 := by omega
      have t1 : decide ((i : Int) < (M : Int) + 1) = false := decide_eq_false (by omega)
      have HIM := Lib.hid hiM; clear hlt
      have hd := KDN.out S M c (by have := HI.out; rwa [hiM] at this) hM1 hM2
      have hg := HI.out.dg
      obtain ⟨ar, cr, rfl, hr⟩ := drow_of_owns hown
      have hc0 := KC.out S _ _ ⟨ar, cr, rfl, hr⟩ hg (by rw [HL.out]; omega)
      rw [hd] at hc0
      have K := Lib.hid hc0; have HB := Lib.hid hbw
      clear hd hg hr hc0 hown hbw hiM
      go_wp2_with (go_at_call 149; refine K.out.mono ?_; rintro e w1 ⟨v1, rfl, hv1, h⟩; subst h; refine Hid.out ?_)
      refine Lib.hid ?_
      go_wp2
      go_ret
      exact ⟨_, rfl, hv1, HB.out⟩
end Go.Proofs.YtbadibbdoljjhaaGreatDoor
