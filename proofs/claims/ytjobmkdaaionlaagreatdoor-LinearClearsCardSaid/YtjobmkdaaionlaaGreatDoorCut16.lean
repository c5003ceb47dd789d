import Derived.Test.YtjobmkdaaionlaaGreatDoorCut15
import Derived.Test.YtjobmkdaaionlaaGreatDoorCut8
import Derived.Test.YtjobmkdaaionlaaGreatDoorCut14
import Derived.Lib.Atoi
import Derived.Test.YtjobmkdaaionlaaGreatDoorCut1

set_option linter.unusedVariables false
/-
  The reference: Check, Few; the laws' few and right.
-/
namespace Go.Proofs.YtjobmkdaaionlaaGreatDoor
open Go Go.Proofs Go.RowKit
theorem negative_any (s : ByteArray) (w : World) (h0 : 0 < s.size) :
    Calls Tryz.prog 94 #[.string s] w fun e w' => e = .returned (.bool (decide (byteAt s 0 = 45))) ∧ w' = w := by
  have g0 := byteAt_get s 0 h0
  generalize byteAt s 0 = b at *
  go_enter Tryz.func94, Tryz.ntmps94
  go_wp2
  go_ret
  refine ⟨ret_bool ?_, rfl⟩
  rw [Bool.eq_iff_iff]
  simp only [beq_iff_eq, decide_eq_true_eq]
  omega
theorem digits_len {s : ByteArray} (h0 : 0 < s.size) : (digL (bytes s)).length = if byteAt s 0 = 45 then s.size - 1 else s.size := by
  have hl : (bytes s).length = s.size := rfl
  match hb : bytes s, hl with
  | [], hl => simp at hl; omega
  | c :: t, hl =>
    have e0 := byte0 hb
    by_cases hc : c = 45
    · subst hc
      rw [dig_cons, if_pos (by rw [e0]; rfl)]
      simp at hl; omega
    · have hne : ¬ byteAt s 0 = 45 := by rw [e0]; exact fun h => hc (UInt8.toNat_inj.1 (by rw [h]; rfl))
      have hneg : negB (c :: t) = false := by
        cases h : negB (c :: t)
        · rfl
        · exfalso
          unfold negB Lib.hasPrefix at h
          exact hc (by simpa using (by simpa [List.isPrefixOf] using h : 45 = c).symm)
      rw [if_neg hne]
      rcases neg_cases (c :: t) with ⟨h, -⟩ | ⟨-, h⟩
      · rw [hneg] at h; cases h
      · rw [h]; exact hl
theorem refDigits_any (s : ByteArray) (w : World) (h0 : 0 < s.size) (hs : s.size ≤ 9223372036854775807) :
    Calls Tryz.prog 63 #[.string s] w fun e w' => e = .returned (.int .i64 ((digL (bytes s)).length : Nat)) ∧ w' = w := by
  have C := fun W => negative_any s W h0
  rw [digits_len h0]
  by_cases h : byteAt s 0 = 45
  · rw [if_pos h]
    rw [decide_eq_true h] at C
    have KC := Lib.hid C; clear C h
    go_enter Tryz.func63, Tryz.ntmps63
    go_wp2_with (go_at_call 94; refine (KC.out _).mono ?_; rintro e w1 ⟨rfl, rfl⟩; refine Hid.out ?_)
    refine Lib.hid ?_
    go_wp2
    go_ret
    exact ⟨ret_int (by omega), rfl⟩
  · rw [if_neg h]
    rw [decide_eq_false h] at C
    have KC := Lib.hid C; clear C h
    go_enter Tryz.func63, Tryz.ntmps63
    go_wp2_with (go_at_call 94; refine (KC.out _).mono ?_; rintro e w1 ⟨rfl, rfl⟩; refine Hid.out ?_)
    refine Lib.hid ?_
    go_wp2
    go_ret
    exact ⟨rfl, rfl⟩
theorem refCheck_any (s : ByteArray) (w : World) (hs : s.size ≤ 9223372036854775807) :
    Calls Tryz.prog 101 #[.string s] w fun e w' => e = .returned (.int .i64 (errOf (bytes s) : Nat)) ∧ w' = w := by
  have C1 := fun W => form_any s W hs
  have C2 : canonB (bytes s) = true → ∀ W, Calls Tryz.prog 63 #[.string s] W fun e w' => e = .returned (.int .i64 ((digL (bytes s)).length : Nat)) ∧ w' = W := fun hc W => refDigits_any s W (by
    rcases Nat.eq_zero_or_pos s.size with h | h
    · exfalso
      rw [List.length_eq_zero_iff.1 (show (bytes s).length = 0 from h)] at hc
      exact absurd hc (by decide)
    · exact h) hs
  have he : errOf (bytes s) = if canonB (bytes s) = true then (if 4096 < (digL (bytes s)).length then 10 else 0) else 3 := rfl
  rw [he]
  cases hc : canonB (bytes s)
  · rw [hc] at C1
    have K1 := Lib.hid C1; clear C1 C2 he hc
    rw [if_neg (by simp)]
    go_enter Tryz.func101, Tryz.ntmps101
    go_wp2_with (go_at_call 136; refine (K1.out _).mono ?_; rintro e w1 ⟨rfl, rfl⟩; refine Hid.out ?_)
    refine Lib.hid ?_
    go_wp2
    go_ret
    exact ⟨rfl, rfl⟩
  · rw [hc] at C1
    have C2' := C2 hc
    have K1 := Lib.hid C1; have K2 := Lib.hid C2'; clear C1 C2 C2' he hc
    rw [if_pos rfl]
    generalize (digL (bytes s)).length = n at *
    by_cases hn : 4096 < n
    · rw [if_pos hn]
      go_enter Tryz.func101, Tryz.ntmps101
      go_wp2_with (go_at_call 136; refine (K1.out _).mono ?_; rintro e w1 ⟨rfl, rfl⟩; refine Hid.out ?_)
      refine Lib.hid ?_
      go_wp2_with (go_at_call 63; refine (K2.out _).mono ?_; rintro e w1 ⟨rfl, rfl⟩; refine Hid.out ?_)
      refine Lib.hid ?_
      go_wp2
      go_ret
      exact ⟨rfl, rfl⟩
    · rw [if_neg hn]
      go_enter Tryz.func101, Tryz.ntmps101
      go_wp2_with (go_at_call 136; refine (K1.out _).mono ?_; rintro e w1 ⟨rfl, rfl⟩; refine Hid.out ?_)
      refine Lib.hid ?_
      go_wp2_with (go_at_call 63; refine (K2.out _).mono ?_; rintro e w1 ⟨rfl, rfl⟩; refine Hid.out ?_)
      refine Lib.hid ?_
      go_wp2
      go_ret
      exact ⟨rfl, rfl⟩
def StrsAt (w : World) (b : Nat) (ss : List ByteArray) : Prop := ∀ j, (h : j < ss.length) → w.cell? ⟨b, j, none⟩ = some (.string (ss[j]'h))
theorem take_all_succ (p : ByteArray → Bool) (l : List ByteArray) (k : Nat) (h : k < l.length) : (l.take (k + 1)).all p = ((l.take k).all p && p l[k]) := by
  rw [List.take_succ_eq_append_getElem h, List.all_append]; simp
theorem take_all_false (p : ByteArray → Bool) (l : List ByteArray) (k : Nat) (h : k < l.length) (hp : p l[k] = false) : l.all p = false := by
  cases h3 : l.all p
  · rfl
  · rw [List.all_eq_true] at h3
    rw [h3 _ (List.getElem_mem h)] at hp
    cases hp
theorem txt_size {s : ByteArray} {z : Int} (h : bytes s = Lib.itoa z) : 0 < s.size := by
  rw [← bytes_length, h]
  by_cases hz : z < 0
  · rw [itoa_neg hz]; simp
  · rw [itoa_nonneg hz]; exact List.length_pos_iff.2 (decDigits_ne_nil _)
theorem txt_neg {s : ByteArray} {z : Int} (h : bytes s = Lib.itoa z) : decide (byteAt s 0 = 45) = decide (z < 0) := by
  by_cases hz : z < 0
  · rw [itoa_neg hz] at h
    rw [byte0 h, decide_eq_true hz]; rfl
  · rw [itoa_nonneg hz] at h
    rw [decide_eq_false hz, decide_eq_false_iff_not]
    match hd : Lib.decDigits z.natAbs with
    | [] => exact absurd hd (decDigits_ne_nil _)
    | c :: t =>
      rw [hd] at h
      rw [byte0 h]
      have := isDig_iff.1 (allDig_decDigits z.natAbs c (by rw [hd]; simp))
      omega
theorem txt_zero {s : ByteArray} {z : Int} (h : bytes s = Lib.itoa z) (hz : z ≠ 0) : s ≠ ⟨#[48]⟩ := by
  intro e
  subst e
  have h2 : bytes ⟨#[48]⟩ = Lib.itoa 0 := by rw [itoa_nonneg (by omega)]; exact dec0'.symm
  exact hz (itoa_inj (h.symm.trans h2))
theorem txt_is_zero {s : ByteArray} (h : bytes s = Lib.itoa 0) : s = ⟨#[48]⟩ := by
  have h2 : bytes ⟨#[48]⟩ = Lib.itoa 0 := by rw [itoa_nonneg (by omega)]; exact dec0'.symm
  rw [← str_bytes s, h, ← h2, str_bytes]
theorem txt_len {s : ByteArray} {z : Int} (h : bytes s = Lib.itoa z) : s.size = (if z < 0 then 1 else 0) + (Lib.decDigits z.natAbs).length := by
  rw [← bytes_length, h]
  by_cases hz : z < 0
  · rw [itoa_neg hz, if_pos hz]; simp; omega
  · rw [itoa_nonneg hz, if_neg hz]; omega
theorem txt_drop {s : ByteArray} {z : Int} (h : bytes s = Lib.itoa z) : (bytes s).drop (if z < 0 then 1 else 0) = Lib.decDigits z.natAbs := by
  rw [h]
  by_cases hz : z < 0
  · rw [itoa_neg hz, if_pos hz]; rfl
  · rw [itoa_nonneg hz, if_neg hz]; rfl
theorem txt_dig {s : ByteArray} {z : Int} (h : bytes s = Lib.itoa z) (j : Nat) (h1 : (if z < 0 then 1 else 0) ≤ j) (h2 : j < s.size) : 48 ≤ byteAt s j ∧ byteAt s j ≤ 57 := by
  have h3 := txt_drop h
  generalize (if z < 0 then 1 else 0) = p at *
  have hlt : j - p < ((bytes s).drop p).length := by rw [List.length_drop, bytes_length]; omega
  have h4 : ((bytes s).drop p)[j - p] ∈ Lib.decDigits z.natAbs := by rw [← h3]; exact List.getElem_mem hlt
  rw [List.getElem_drop] at h4
  have h5 := isDig_iff.1 (allDig_decDigits _ _ h4)
  have e : p + (j - p) = j := by omega
  simp only [e] at h5
  unfold byteAt
  rw [List.getD_eq_getElem?_getD, List.getElem?_eq_getElem (by rw [bytes_length]; exact h2)]
  exact h5
theorem refDigits_txt (s : ByteArray) (z : Int) (w : World) (h : bytes s = Lib.itoa z) (hs : s.size ≤ 1000000000000) :
    Calls Tryz.prog 118 #[.string s] w (DRet (dgs z.natAbs) w) := by
  have e : dgOf s (if z < 0 then 1 else 0) = dgs z.natAbs := by unfold dgOf dgs; rw [txt_drop h]
  rw [← e]
  have h1 := txt_neg h
  have h0 := txt_size h
  refine refDigits0_any s _ w hs (by split <;> omega) (fun j a b => txt_dig h j a b) ?_
  by_cases hz : z < 0
  · rw [if_pos hz]; right
    rw [decide_eq_true hz, decide_eq_true_eq] at h1
    exact ⟨rfl, h1⟩
  · rw [if_neg hz]; left; rfl
set_option maxHeartbeats 1000000 in
theorem cut_any (l : List Nat) (v : Value) (w : World) (hv : DV w v l) (hs : Dg l) (hb : l.length ≤ 1000000000000) :
    Calls Tryz.prog 117 #[v] w fun e w' => ∃ v', e = .returned v' ∧ DV w v' (nl (dv l)) ∧ w' = w := by
  obtain ⟨ao, c, rfl, hr⟩ := hv
  have hkl := keep_le l
  have hres : ∀ r, r = keep l → DV w (.slice ao r c) (nl (dv l)) := fun r hr' => by
    subst hr'
    have hl : (nl (dv l)).length = keep l := by rw [← dtake_keep hs]; simp; omega
    refine ⟨ao, c, by rw [hl], ?_⟩
    rw [← dtake_keep hs]; exact hr.take _ hkl
  have h1 := hr.1; have h2 := hr.2.1
  have hzero : keep (l.take 0) = keep l → keep l = 0 := fun h => by rw [← h]; rfl
  have hk0 : keep (l.take l.length) = keep l := by rw [List.take_length]
  by_cases hne : l = []
  · subst hne
    have hR := hres 0 rfl
    have HR := Lib.hid hR
    clear hR hres hkl h1 hzero hk0 hr hs hb
    have hnil : ([] : List Nat).length = 0 := rfl
    rw [hnil]
    go_enter Tryz.func117, Tryz.ntmps117
    go_wp2_with fail
    go_rounds 1
    go_ret
    exact ⟨_, rfl, HR.out, rfl⟩
  · obtain ⟨d, hd, hdb, hxc⟩ := hr.open hs
    obtain ⟨b, off, rfl, hb', hxc⟩ := hxc.resolve_left hne
    have hstep : ∀ k, k < l.length → keep (l.take (k + 1)) = keep l → d k = 0 → keep (l.take k) = keep l := fun k hk h h0 => keep_take hk (by have := hd k hk; omega) h
    have hlast : ∀ k, k < l.length → keep (l.take (k + 1)) = keep l → d k ≠ 0 → keep l = k + 1 := fun k hk h h0 => keep_last hk (by have := hd k hk; omega) h
    generalize hK : (fun k => keep (l.take k) = keep l) = K
    have hK' : ∀ k, (keep (l.take k) = keep l) = K k := fun k => congrFun hK k
    simp only [hK'] at hk0 hstep hlast hzero
    clear hK hK' hd hr hs hne
    generalize keep l = r at *
    generalize nl (dv l) = RL at *
    generalize l.length = n at *
    have HS := Lib.hid hstep; have HL := Lib.hid hlast; have HZ := Lib.hid hzero; have HK := Lib.hid hk0; have HX := Lib.hid hxc; have HRES := Lib.hid hres
    clear hstep hlast hzero hk0 hxc hdb hres
    go_enter Tryz.func117, Tryz.ntmps117
    go_wp2_with fail
    go_loop [3] (fun v => ∃ k : Nat, k ≤ n ∧ v = .int .i64 k ∧ K k) (fun v => (intOf v).toNat)
    case atStart => exact ⟨n, Nat.le_refl _, rfl, HK.out⟩
    case round =>
      obtain ⟨k, hk, rfl, hKk⟩ := hrel
      have HKk := Lib.hid hKk; clear hKk
      rcases Nat.eq_zero_or_pos k with rfl | hk1
      · have hr0 : r = 0 := HZ.out HKk.out
        subst hr0
        have HR := Lib.hid (HRES.out 0 rfl); clear HRES
        go_wp2
        go_ret
        exact ⟨_, rfl, HR.out, rfl⟩
      · obtain ⟨j, rfl⟩ : ∃ j, k = j + 1 := ⟨k - 1, by omega⟩
        have c1 : w.cell? ⟨b, off + j, none⟩ = some (.int .i64 (d j)) := HX.out j (by omega)
        by_cases h0 : d j = 0
        · have hz : (d j == 0) = true := by simp [h0]
          have H0 := Lib.hid h0; clear h0
          go_wp2
          go_round
          case rel => exact ⟨j, by omega, by go_num, HS.out j (by omega) HKk.out H0.out⟩
          case measure => simp [intOf]
        · have hz : (d j == 0) = false := by simp [h0]
          have hr1 : r = j + 1 := HL.out j (by omega) HKk.out h0
          subst hr1
          have HR := Lib.hid (HRES.out (j + 1) rfl); clear HRES h0
          go_wp2
          go_ret
          exact ⟨_, rfl, HR.out, rfl⟩
theorem refSign_txt (s : ByteArray) (z : Int) (w : World) (h : bytes s = Lib.itoa z) :
    Calls Tryz.prog 124 #[.string s] w fun e w' => e = .returned (.int .i64 (cmpI z 0)) ∧ w' = w := by
  have C := fun W => negative_any s W (txt_size h)
  rw [txt_neg h] at C
  by_cases hz : z = 0
  · subst hz
    have := txt_is_zero h
    subst this
    clear C h
    go_enter Tryz.func124, Tryz.ntmps124
    go_wp2
    go_ret
    exact ⟨rfl, rfl⟩
  · have hd := eq48 s (txt_zero h hz)
    by_cases hn : z < 0
    · have hr : cmpI z 0 = -1 := by unfold cmpI; rw [if_pos hn]
      rw [decide_eq_true hn] at C
      rw [hr]
      have KC := Lib.hid C; clear C h hz hr hn
      go_enter Tryz.func124, Tryz.ntmps124
      go_wp2_with (go_at_call 94; refine (KC.out _).mono ?_; rintro e w1 ⟨rfl, rfl⟩; refine Hid.out ?_)
      refine Lib.hid ?_
      go_wp2
      go_ret
      exact ⟨rfl, rfl⟩
    · have hr : cmpI z 0 = 1 := by unfold cmpI; rw [if_neg hn, if_neg hz]
      rw [decide_eq_false hn] at C
      rw [hr]
      have KC := Lib.hid C; clear C h hz hr hn
      go_enter Tryz.func124, Tryz.ntmps124
      go_wp2_with (go_at_call 94; refine (KC.out _).mono ?_; rintro e w1 ⟨rfl, rfl⟩; refine Hid.out ?_)
      refine Lib.hid ?_
      go_wp2
      go_ret
      exact ⟨rfl, rfl⟩
theorem dcmp_eq (x y : Nat) (he : (nl x).length = (nl y).length) (h : ∀ j, j < (nl x).length → (nl x).getD j 0 = (nl y).getD j 0) : cmpN x y = 0 := by
  have : nl x = nl y := by
    refine List.ext_getElem he fun j h1 h2 => ?_
    have := h j h1
    rwa [getD_lt _ _ h1, getD_lt _ _ h2] at this
  have e : x = y := by rw [← dv_limbs x, this, dv_limbs]
  subst e; simp [cmpN]
theorem dcmp_top (x y : Nat) (he : (nl x).length = (nl y).length) (i : Nat) (hi : i < (nl x).length)
    (h : ∀ j, i < j → j < (nl x).length → (nl x).getD j 0 = (nl y).getD j 0) (hne : (nl x).getD i 0 ≠ (nl y).getD i 0) :
    cmpN x y = if (nl x).getD i 0 < (nl y).getD i 0 then -1 else 1 := by
  have hd : (nl x).drop (i + 1) = (nl y).drop (i + 1) := by
    refine List.ext_getElem (by simp [he]) fun j h1 h2 => ?_
    simp only [List.getElem_drop]
    have h3 : i + 1 + j < (nl x).length := by simp at h1; omega
    have := h (i + 1 + j) (by omega) h3
    rwa [getD_lt _ _ h3, getD_lt _ _ (by omega)] at this
  rw [getD_lt _ _ hi, getD_lt _ _ (by omega)] at *
  unfold cmpN
  by_cases hl : (nl x)[i] < (nl y)[i]
  · have := dv_lt_of_top (nl_small x) he i hi hd hl
    rw [dv_limbs, dv_limbs] at this
    rw [if_pos this, if_pos hl]
  · have := dv_lt_of_top (nl_small y) he.symm i (by omega) hd.symm (by omega)
    rw [dv_limbs, dv_limbs] at this
    rw [if_neg (by omega), if_neg (by omega), if_neg hl]
theorem lt_of_nl_len {m n : Nat} (h : (nl m).length < (nl n).length) : m < n := dlt_of_limbs_length h
set_option maxHeartbeats 2000000 in
theorem refOrder_any (x y : Nat) (vx vy : Value) (w : World) (hx : DV w vx (nl x)) (hy : DV w vy (nl y)) :
    Calls Tryz.prog 137 #[vx, vy] w fun e w' => e = .returned (.int .i64 (cmpN x y)) ∧ Below w.heap.size w w' := by
  obtain ⟨ao, c, rfl, hx⟩ := hx
  obtain ⟨ap, c', rfl, hy⟩ := hy
  have h1 := hx.1; have h2 := hx.2.1; have h3 := hy.1; have h4 := hy.2.1
  have b1 : (nl x).length ≤ 9223372036854775807 := by omega
  have b2 : (nl y).length ≤ 9223372036854775807 := by omega
  clear h1 h2 h3 h4
  by_cases hlt : (nl x).length < (nl y).length
  · have hr : cmpN x y = -1 := by unfold cmpN; rw [if_pos (lt_of_nl_len hlt)]
    rw [hr]
    have t1 : (((nl x).length : Int) != ((nl y).length : Int)) = true := by simp; omega
    clear hx hy hr
    generalize (nl x).length = n at *
    generalize (nl y).length = m at *
    go_enter Tryz.func137, Tryz.ntmps137
    go_wp2
    go_ret
    exact ⟨rfl, Below.refl _ _⟩
  · by_cases hgt : (nl y).length < (nl x).length
    · have hr : cmpN x y = 1 := by have := lt_of_nl_len hgt; unfold cmpN; rw [if_neg (by omega), if_neg (by omega)]
      rw [hr]
      have t1 : (((nl x).length : Int) != ((nl y).length : Int)) = true := by simp; omega
      clear hx hy hr
      generalize (nl x).length = n at *
      generalize (nl y).length = m at *
      go_enter Tryz.func137, Tryz.ntmps137
      go_wp2
      go_ret
      exact ⟨rfl, Below.refl _ _⟩
    · have he : (nl x).length = (nl y).length := by omega
      have hz := dcmp_eq x y he
      have ht := dcmp_top x y he
      by_cases hn0 : nl x = []
      · have hr := hz (fun j hj => by rw [hn0] at hj; simp at hj)
        rw [hr]
        rw [hn0] at he ⊢
        rw [← he]
        have hnil : ([] : List Nat).length = 0 := rfl
        rw [hnil]
        clear hx hy hz ht hr he hlt hgt b1 b2 hn0
        go_enter Tryz.func137, Tryz.ntmps137
        go_wp2_with fail
        go_rounds 1
        go_ret
        exact ⟨rfl, Below.refl _ _⟩
      · have hn0' : nl y ≠ [] := fun h => hn0 (List.length_eq_zero_iff.1 (by rw [he, h]; rfl))
        obtain ⟨d, hd, hdb, hxc⟩ := hx.open (nl_small x)
        obtain ⟨f, hf, hfb, hyc⟩ := hy.open (nl_small y)
        obtain ⟨b, off, rfl, hb, hxc⟩ := hxc.resolve_left hn0
        obtain ⟨b', off', rfl, hb', hyc⟩ := hyc.resolve_left hn0'
        rw [← he] at hf hyc ⊢
        have hZ : (∀ j, j < (nl x).length → d j = f j) → cmpN x y = 0 := fun h => hz fun j hj => by
          have := h j hj; rw [hd j hj, hf j hj] at this; exact Int.ofNat.inj this
        have hT : ∀ i, i < (nl x).length → (∀ j, i < j → j < (nl x).length → d j = f j) → d i ≠ f i → cmpN x y = if d i < f i then -1 else 1 := fun i hi h hne => by
          rw [ht i hi (fun j h1 h2 => by have := h j h1 h2; rw [hd j h2, hf j h2] at this; exact Int.ofNat.inj this) (fun e => hne (by rw [hd i hi, hf i hi, e])), hd i hi, hf i hi]
          simp only [Int.ofNat_lt]
        clear hd hf hx hy hz ht hdb hfb he hlt hgt b2 hn0 hn0'
        generalize (nl x).length = n at *
        generalize cmpN x y = r at *
        have HZ := Lib.hid hZ; have HT := Lib.hid hT; have HXC := Lib.hid hxc; have HYC := Lib.hid hyc
        clear hxc hyc hZ hT
        go_enter Tryz.func137, Tryz.ntmps137
        go_wp2_with fail
        go_loopw [5] (fun i wr => ∃ k : Int, -1 ≤ k ∧ k < n ∧ i = .int .i64 k ∧ (∀ j : Nat, k < j → j < n → d j = f j) ∧ Below w.heap.size w wr) (fun i _ => (intOf i + 1).toNat)
        case atStart => exact ⟨(n : Int) - 1, by omega, by omega, rfl, fun j h1 h2 => by omega, Below.refl _ _⟩
        case round =>
          obtain ⟨k, hk1, hk2, rfl, heq, hbw⟩ := hrel
          have HEQ := Lib.hid heq; clear heq
          by_cases hk : k = -1
          · subst hk
            go_wp2
            go_ret
            exact ⟨ret_int (HZ.out fun j hj => HEQ.out j (by omega) hj).symm, hbw⟩
          · obtain ⟨j, rfl⟩ := Int.eq_ofNat_of_zero_le (show 0 ≤ k by omega)
            have hj : j < n := by omega
            have c3 : wr.cell? ⟨b, off + j, none⟩ = some (.int .i64 (d j)) := (hbw.cell (p := ⟨b, off + j, none⟩) hb).trans (HXC.out j hj)
            have c4 : wr.cell? ⟨b', off' + j, none⟩ = some (.int .i64 (f j)) := (hbw.cell (p := ⟨b', off' + j, none⟩) hb').trans (HYC.out j hj)
            by_cases hdf : d j = f j
            · have hb1 : (d j != f j) = false := by simp [hdf]
              have HDF := Lib.hid hdf; clear hdf
              go_wp2
              go_quiet (fail)
              go_wp2
              go_roundw
              case rel => exact ⟨(j : Int) - 1, by omega, by omega, rfl, fun i h1 h2 => by
                by_cases e : i = j
                · rw [e]; exact HDF.out
                · exact HEQ.out i (by omega) h2, hbw.trans (below_drewN (Below.refl _ _) _)⟩
              case measure => simp [intOf]
            · have hb1 : (d j != f j) = true := by simp [hdf]
              have hr := HT.out j hj (fun i h1 h2 => HEQ.out i (by omega) h2) hdf
              have HR := Lib.hid hr; clear hr hdf
              by_cases hlt : d j < f j
              · have hdl : decide (d j < f j) = true := by simp [hlt]
                go_wp2
                go_quiet (fail)
                go_wp2
                go_quiet (fail)
                go_wp2
                go_ret
                refine ⟨ret_int ?_, hbw.trans (below_drewN (below_drewN (Below.refl _ _) _) _)⟩
                rw [HR.out, if_pos hlt]
              · have hdl : decide (d j < f j) = false := by simp [hlt]
                go_wp2
                go_quiet (fail)
                go_wp2
                go_quiet (fail)
                go_wp2
                go_ret
                refine ⟨ret_int ?_, hbw.trans (below_drewN (below_drewN (Below.refl _ _) _) _)⟩
                rw [HR.out, if_neg (by omega)]
theorem cmpN_cases (x y : Nat) : cmpN x y = -1 ∨ cmpN x y = 0 ∨ cmpN x y = 1 := by unfold cmpN; (repeat' split) <;> simp
theorem sgn_cases (z : Int) : (cmpI z 0 = -1 ∧ z < 0) ∨ (cmpI z 0 = 0 ∧ z = 0) ∨ (cmpI z 0 = 1 ∧ 0 < z) := by
  unfold cmpI
  rcases Int.lt_trichotomy z 0 with h | h | h
  · exact .inl ⟨if_pos h, h⟩
  · exact .inr (.inl ⟨by rw [if_neg (by omega), if_pos h], h⟩)
  · exact .inr (.inr ⟨by rw [if_neg (by omega), if_neg (by omega)], h⟩)
theorem cmpI_neg {x y : Int} (hx : x < 0) (hy : y < 0) : cmpI x y = -cmpN x.natAbs y.natAbs := by
  unfold cmpI cmpN; (repeat' split) <;> omega
theorem cmpI_pos {x y : Int} (hx : 0 ≤ x) (hy : 0 ≤ y) : cmpI x y = cmpN x.natAbs y.natAbs := by
  unfold cmpI cmpN; (repeat' split) <;> omega
theorem cmpI_lt {x y : Int} (h : x < y) : cmpI x y = -1 := by unfold cmpI; rw [if_pos h]
theorem cmpI_gt {x y : Int} (h : y < x) : cmpI x y = 1 := by unfold cmpI; rw [if_neg (by omega), if_neg (by omega)]
theorem dlen_bound {s : ByteArray} {z : Int} (h : bytes s = Lib.itoa z) (hs : s.size ≤ 1000000000000) : (dgs z.natAbs).length ≤ 1000000000000 := by
  rw [dgs_length]
  have := txt_len h
  omega
set_option maxHeartbeats 4000000 in
theorem refOrderI (s t : ByteArray) (x y : Int) (w : World) (hs : bytes s = Lib.itoa x) (ht : bytes t = Lib.itoa y) (hls : s.size ≤ 1000000000000) (hlt : t.size ≤ 1000000000000) :
    Calls Tryz.prog 102 #[.string s, .string t] w fun e w' => e = .returned (.int .i64 (cmpI x y)) ∧ Below w.heap.size w w' := by
  have S1 := fun W => refSign_txt s x W hs
  have S2 := fun W => refSign_txt t y W ht
  have D1 := fun W => refDigits_txt s x W hs hls
  have D2 := fun W => refDigits_txt t y W ht hlt
  have U1 : ∀ v W, DV W v (dgs x.natAbs) → Calls Tryz.prog 117 #[v] W fun e w' => ∃ v', e = .returned v' ∧ DV W v' (nl x.natAbs) ∧ w' = W := fun v W hv => by
    have := cut_any _ v W hv (dgs_dg _) (dlen_bound hs hls)
    rwa [dv_dgs] at this
  have U2 : ∀ v W, DV W v (dgs y.natAbs) → Calls Tryz.prog 117 #[v] W fun e w' => ∃ v', e = .returned v' ∧ DV W v' (nl y.natAbs) ∧ w' = W := fun v W hv => by
    have := cut_any _ v W hv (dgs_dg _) (dlen_bound ht hlt)
    rwa [dv_dgs] at this
  have R := fun vx vy W hx hy => refOrder_any x.natAbs y.natAbs vx vy W hx hy
  have hcN := cmpN_cases x.natAbs y.natAbs
  have h1 := sgn_cases x
  have h2 := sgn_cases y
  have e1 : x < 0 → y < 0 → cmpI x y = -cmpN x.natAbs y.natAbs := cmpI_neg
  have e2 : 0 ≤ x → 0 ≤ y → cmpI x y = cmpN x.natAbs y.natAbs := cmpI_pos
  have e3 : x < y → cmpI x y = -1 := cmpI_lt
  have e4 : y < x → cmpI x y = 1 := cmpI_gt
  have hc0 : x = 0 → y = 0 → cmpN x.natAbs y.natAbs = 0 := fun a b => by subst a; subst b; rfl
  generalize cmpN x.natAbs y.natAbs = r at *
  generalize cmpI x y = q at *
  generalize cmpI x 0 = sx at *
  generalize cmpI y 0 = sy at *
  have hr1 : -1 ≤ r := by omega
  have hr2 : r ≤ 1 := by omega
  have K1 := Lib.hid S1; have K2 := Lib.hid S2; have K3 := Lib.hid D1; have K4 := Lib.hid D2; have K5 := Lib.hid U1; have K6 := Lib.hid U2; have K7 := Lib.hid R
  clear S1 S2 D1 D2 U1 U2 R hs ht hls hlt hcN
  rcases h1 with ⟨rfl, h1⟩ | ⟨rfl, h1⟩ | ⟨rfl, h1⟩ <;> rcases h2 with ⟨rfl, h2⟩ | ⟨rfl, h2⟩ | ⟨rfl, h2⟩
  case' inl.inl => (have hq : -r = q := (e1 h1 h2).symm)
  case' inl.inr.inl => (have hq : -1 = q := (e3 (by omega)).symm)
  case' inl.inr.inr => (have hq : -1 = q := (e3 (by omega)).symm)
  case' inr.inl.inl => (have hq : 1 = q := (e4 (by omega)).symm)
  case' inr.inl.inr.inl => (have hq : r = q := (e2 (by omega) (by omega)).symm; have hr0 : r = 0 := hc0 h1 h2)
  case' inr.inl.inr.inr => (have hq : -1 = q := (e3 (by omega)).symm)
  case' inr.inr.inl => (have hq : 1 = q := (e4 (by omega)).symm)
  case' inr.inr.inr.inl => (have hq : 1 = q := (e4 (by omega)).symm)
  case' inr.inr.inr.inr => (have hq : r = q := (e2 (by omega) (by omega)).symm)
  all_goals
    clear e1 e2 e3 e4 hc0 h1 h2
    try subst hr0
    subst hq
    go_enter Tryz.func102, Tryz.ntmps102
    go_wp2_with (go_at_call 124; refine (K1.out _).mono ?_; rintro e w1 ⟨rfl, rfl⟩; refine Hid.out ?_)
    refine Lib.hid ?_
    go_wp2_with (go_at_call 124; refine (K2.out _).mono ?_; rintro e w1 ⟨rfl, rfl⟩; refine Hid.out ?_)
    refine Lib.hid ?_
    first
      | (go_wp2
         go_ret
         exact ⟨rfl, Below.refl _ _⟩)
      | (go_wp2_with (go_at_call 118; refine (K3.out _).mono ?_; rintro e w1 ⟨v1, rfl, hv1, hb1⟩; refine Hid.out ?_)
         refine Lib.hid ?_
         go_wp2_with (go_at_call 117; refine (K5.out _ _ hv1).mono ?_; rintro e w2 ⟨v2, rfl, hv2, h⟩; subst h; refine Hid.out ?_)
         refine Lib.hid ?_
         go_wp2_with (go_at_call 118; refine (K4.out _).mono ?_; rintro e w3 ⟨v3, rfl, hv3, hb3⟩; refine Hid.out ?_)
         have hv2' := hv2.mono hb3
         refine Lib.hid ?_
         go_wp2_with (go_at_call 117; refine (K6.out _ _ hv3).mono ?_; rintro e w4 ⟨v4, rfl, hv4, h⟩; subst h; refine Hid.out ?_)
         refine Lib.hid ?_
         go_wp2_with (go_at_call 137; refine (K7.out _ _ _ hv2' hv4).mono ?_; rintro e w5 ⟨rfl, hb5⟩; refine Hid.out ?_)
         refine Lib.hid ?_
         go_wp2
         go_ret
         exact ⟨rfl, Below.chain hb1 (Below.chain hb3 hb5)⟩)
theorem errBoth_zero {a b : List UInt8} (h : errBoth a b = 0) : errOf a = 0 ∧ errOf b = 0 := by
  unfold errBoth at h
  by_cases h1 : errOf a = 0
  · rw [if_pos h1] at h; exact ⟨h1, h⟩
  · rw [if_neg h1] at h; exact absurd h h1
theorem str_of_err {s : ByteArray} (h : errOf (bytes s) = 0) : Str s (valZ (bytes s)) := by
  unfold errOf at h
  cases hc : canonB (bytes s)
  · rw [hc] at h; simp at h
  · rw [hc, if_pos rfl] at h
    refine str_lit hc rfl ?_
    by_cases hl : 4096 < (digL (bytes s)).length
    · rw [if_pos hl] at h; cases h
    · omega
theorem fits_of_lt {z : Int} (k : Nat) (h : z.natAbs < 10 ^ k) (h0 : 0 < k) (hk : k ≤ 4096) : ¬ 4096 < (Lib.decDigits z.natAbs).length := by
  have := decDigits_length_le z.natAbs k h0 h
  omega
def Bret (v : Value) (w : World) (e : Ending) (w' : World) : Prop := e = .returned v ∧ Below w.heap.size w w'
def partsN (l : List UInt8) : List UInt8 × List UInt8 := if hasB (digL l) = true then (topL (digL l), botL (digL l)) else (digL l, [])
def shortN (l : List UInt8) : Bool := decide ((partsN l).1.length ≤ 100) && decide ((partsN l).2.length ≤ 100)
theorem cutV_parts (l : List UInt8) : ∃ (u v : ByteArray) (b : Bool), cutV (digL l) = .tuple #[.string u, .string v, .bool b] ∧ u.size = (partsN l).1.length ∧ v.size = (partsN l).2.length := by
  unfold cutV partsN
  split
  · exact ⟨_, _, _, rfl, rfl, rfl⟩
  · exact ⟨_, _, _, rfl, rfl, rfl⟩
set_option maxHeartbeats 1000000 in
theorem isShortN (s : ByteArray) (w : World) (hs : s.size ≤ 1000000000) : Calls Tryz.prog 61 #[.string s] w (Bret (.bool (shortN (bytes s))) w) := by
  have C1 : ∀ W : World, Calls Tryz.prog 88 #[.string s, .string ⟨#[45]⟩] W fun e w' => e = .returned (.string (str (digL (bytes s)))) ∧ w' = W := fun W => Tryz.strings_TrimPrefix s ⟨#[45]⟩ W
  have hz : (str (digL (bytes s))).size ≤ 9223372036854775806 := by
    have := digL_le (bytes s)
    show (digL (bytes s)).length ≤ _
    have h : (bytes s).length = s.size := rfl
    omega
  have C2 := fun W => cut_slash (str (digL (bytes s))) W hz
  rw [bytes_str] at C2
  obtain ⟨u, v, b, hr, hu, hv⟩ := cutV_parts (bytes s)
  unfold shortN
  rw [hr] at C2
  rw [← hu, ← hv]
  generalize str (digL (bytes s)) = x at *
  have K1 := Lib.hid C1; have K2 := Lib.hid C2; clear C1 C2 hr hu hv hz
  by_cases h1 : u.size ≤ 100
  · by_cases h2 : v.size ≤ 100
    · rw [decide_eq_true h1, decide_eq_true h2]
      go_enter Tryz.func61, Tryz.ntmps61
      go_wp2_with (go_at_call 88; refine (K1.out _).mono ?_; rintro e w1 ⟨rfl, h⟩; subst h; refine Hid.out ?_)
      refine Lib.hid ?_
      go_wp2_with (go_at_call 87; refine (K2.out _).mono ?_; rintro e w2 ⟨rfl, hb2⟩; refine Hid.out ?_)
      refine Lib.hid ?_
      go_wp2
      refine bodyPost_ret (v := .bool true) (by simp [results, Tryz.results61, go_sem] <;> omega) rfl ?_
      exact ⟨rfl, hb2⟩
    · rw [decide_eq_true h1, decide_eq_false h2]
      go_enter Tryz.func61, Tryz.ntmps61
      go_wp2_with (go_at_call 88; refine (K1.out _).mono ?_; rintro e w1 ⟨rfl, h⟩; subst h; refine Hid.out ?_)
      refine Lib.hid ?_
      go_wp2_with (go_at_call 87; refine (K2.out _).mono ?_; rintro e w2 ⟨rfl, hb2⟩; refine Hid.out ?_)
      refine Lib.hid ?_
      go_wp2
      refine bodyPost_ret (v := .bool false) (by simp [results, Tryz.results61, go_sem] <;> omega) rfl ?_
      exact ⟨rfl, hb2⟩
  · rw [decide_eq_false h1, Bool.false_and]
    go_enter Tryz.func61, Tryz.ntmps61
    go_wp2_with (go_at_call 88; refine (K1.out _).mono ?_; rintro e w1 ⟨rfl, h⟩; subst h; refine Hid.out ?_)
    refine Lib.hid ?_
    go_wp2_with (go_at_call 87; refine (K2.out _).mono ?_; rintro e w2 ⟨rfl, hb2⟩; refine Hid.out ?_)
    refine Lib.hid ?_
    go_wp2
    refine bodyPost_ret (v := .bool false) (by simp [results, Tryz.results61, go_sem]) rfl ?_
    exact ⟨rfl, hb2⟩
end Go.Proofs.YtjobmkdaaionlaaGreatDoor

namespace Go.Proofs.YtjobmkdaaionlaaGreatDoor
theorem mul_up {a u p : Int} (ha : 0 ≤ a) (h0 : 0 ≤ u) (h1 : u ≤ p) : 0 ≤ a * u ∧ a * u ≤ a * p := ⟨Int.mul_nonneg ha h0, Int.mul_le_mul_of_nonneg_left h1 ha⟩
theorem mul_dn {a u p : Int} (ha : a ≤ 0) (h0 : 0 ≤ u) (h1 : u ≤ p) : a * p ≤ a * u ∧ a * u ≤ 0 := by
  have h := mul_up (a := -a) (by omega) h0 h1
  simp only [Int.neg_mul] at h
  omega
theorem true_quo {X Y U V U' V' q P : Int} (hP : 0 < P) (hq : 0 ≤ q) (h1 : U * P ≤ X) (h2 : Y ≤ V * P) (h3 : X ≤ U' * P) (h4 : V' * P ≤ Y) (h5 : q * V ≤ U) (h6 : U' < (q + 1) * V') :
    0 ≤ X - q * Y ∧ X - q * Y < Y := by
  have a1 : q * Y ≤ q * (V * P) := Int.mul_le_mul_of_nonneg_left h2 hq
  have a2 : q * V * P ≤ U * P := Int.mul_le_mul_of_nonneg_right h5 (by omega)
  have a3 : q * (V * P) = q * V * P := (Int.mul_assoc ..).symm
  have b1 : U' * P < (q + 1) * V' * P := Int.mul_lt_mul_of_pos_right h6 hP
  have b2 : (q + 1) * (V' * P) ≤ (q + 1) * Y := Int.mul_le_mul_of_nonneg_left h4 (by omega)
  have b3 : (q + 1) * (V' * P) = (q + 1) * V' * P := (Int.mul_assoc ..).symm
  have b4 : (q + 1) * Y = q * Y + Y := by rw [Int.add_mul, Int.one_mul]
  omega
theorem lt_of_sq {d : Int} (h0 : 0 ≤ d) (h : d * d < 1000000000000000000) : d < 1000000000 := by
  rcases Int.lt_or_le d 1000000000 with h1 | h1
  · exact h1
  · have h2 : 1000000000 * 1000000000 ≤ d * d := Int.mul_le_mul h1 h1 (by decide) h0
    omega
def TrueStep (x0 y0 a b c d : Int) (first : Bool) : Prop :=
  ∀ P X0 Y0 : Int, 0 < P → 0 ≤ X0 → X0 < P → 0 ≤ Y0 → Y0 < P → y0 * P + Y0 ≤ x0 * P + X0 →
    (0 ≤ c * (x0 * P + X0) + d * (y0 * P + Y0)) ∧ (c * (x0 * P + X0) + d * (y0 * P + Y0) ≤ a * (x0 * P + X0) + b * (y0 * P + Y0)) ∧
    (first = false → c * (x0 * P + X0) + d * (y0 * P + Y0) < a * (x0 * P + X0) + b * (y0 * P + Y0) ∧ a * (x0 * P + X0) + b * (y0 * P + Y0) ≤ y0 * P + Y0) ∧
    (∀ g : Int, (g ∣ a * (x0 * P + X0) + b * (y0 * P + Y0) ∧ g ∣ c * (x0 * P + X0) + d * (y0 * P + Y0)) ↔ (g ∣ x0 * P + X0 ∧ g ∣ y0 * P + Y0))
structure StepInv (x0 y0 a b c d x y : Int) (first : Bool) : Prop where
  ex : x = a * x0 + b * y0
  ey : y = c * x0 + d * y0
  sg : (0 ≤ a ∧ b ≤ 0 ∧ c ≤ 0 ∧ 0 ≤ d ∧ a * d - b * c = 1) ∨ (a ≤ 0 ∧ 0 ≤ b ∧ 0 ≤ c ∧ d ≤ 0 ∧ a * d - b * c = -1)
  yc : 0 ≤ y + c
  yd : 0 ≤ y + d
  xa : 0 ≤ x + a
  xb : 0 ≤ x + b
  ord : y ≤ x
  low : first = false → y + c < x + a ∧ y + d < x + b
  one : first = true → a = 1 ∧ b = 0 ∧ c = 0 ∧ d = 1
  ba : -1000000000 < a ∧ a < 1000000000
  bb : -1000000000 < b ∧ b < 1000000000
  bc : -1000000000 < c ∧ c < 1000000000
  bd : -1000000000 < d ∧ d < 1000000000
  xlt : x < 1000000000000000000
  tru : TrueStep x0 y0 a b c d first
theorem StepInv.start {x0 y0 : Int} (h0 : 0 ≤ y0) (h1 : y0 ≤ x0) (h2 : x0 < 1000000000000000000) : StepInv x0 y0 1 0 0 1 x0 y0 true := by
  refine ⟨by omega, by omega, .inl ⟨by decide, by decide, by decide, by decide, by decide⟩, by omega, by omega, by omega, by omega, h1, (fun h => by cases h), fun _ => ⟨rfl, rfl, rfl, rfl⟩, by decide, by decide, by decide, by decide, h2, ?_⟩
  intro P X0 Y0 hP hx1 hx2 hy1 hy2 hle
  have hy : 0 ≤ y0 * P := Int.mul_nonneg h0 (by omega)
  generalize y0 * P = u at *
  generalize x0 * P = v at *
  refine ⟨by omega, by omega, (fun h => by cases h), fun g => ?_⟩
  rw [show (1 : Int) * (v + X0) + 0 * (u + Y0) = v + X0 by omega, show (0 : Int) * (v + X0) + 1 * (u + Y0) = u + Y0 by omega]
theorem StepInv.y0 {x0 y0 a b c d x y : Int} {f : Bool} (h : StepInv x0 y0 a b c d x y f) : 0 ≤ y := by
  have h1 := h.yc; have h2 := h.yd
  rcases h.sg with ⟨_, _, hc, _, _⟩ | ⟨_, _, _, hd, _⟩ <;> omega
theorem late_bounds {x0 y0 a b c d x y : Int} (hx : x = a * x0 + b * y0) (hy : y = c * x0 + d * y0) (hX : x0 < 1000000000000000000) (hY : y0 < 1000000000000000000)
    (sg : (0 ≤ a ∧ b ≤ 0 ∧ c ≤ 0 ∧ 0 ≤ d ∧ a * d - b * c = 1) ∨ (a ≤ 0 ∧ 0 ≤ b ∧ 0 ≤ c ∧ d ≤ 0 ∧ a * d - b * c = -1))
    (yc : 0 ≤ y + c) (yd : 0 ≤ y + d) (l1 : y + c < x + a) (l2 : y + d < x + b) :
    (-1000000000 < c ∧ c < 1000000000) ∧ (-1000000000 < d ∧ d < 1000000000) ∧ y < x := by
  rcases sg with ⟨s1, s2, s3, s4, s5⟩ | ⟨s1, s2, s3, s4, s5⟩
  · have e1 : d * x - b * y = x0 := by
      have : d * x - b * y = (a * d - b * c) * x0 := by rw [hx, hy]; grind
      rw [this, s5, Int.one_mul]
    have e2 : a * y - c * x = y0 := by
      have : a * y - c * x = (a * d - b * c) * y0 := by rw [hx, hy]; grind
      rw [this, s5, Int.one_mul]
    have y0' : 0 ≤ y := by omega
    have k1 : b * y ≤ 0 := (mul_dn s2 y0' (Int.le_refl y)).2
    have k2 : 0 ≤ a * y := Int.mul_nonneg s1 y0'
    have m1 : d * d ≤ d * x := Int.mul_le_mul_of_nonneg_left (by omega) s4
    have m2 : (-c) * (-c) ≤ (-c) * x := Int.mul_le_mul_of_nonneg_left (by omega) (by omega)
    have n1 : (-c) * x = -(c * x) := Int.neg_mul ..
    have d1 := lt_of_sq s4 (by omega)
    have c1 := lt_of_sq (d := -c) (by omega) (by omega)
    omega
  · have e1 : d * x - b * y = -x0 := by
      have : d * x - b * y = (a * d - b * c) * x0 := by rw [hx, hy]; grind
      rw [this, s5]; omega
    have e2 : a * y - c * x = -y0 := by
      have : a * y - c * x = (a * d - b * c) * y0 := by rw [hx, hy]; grind
      rw [this, s5]; omega
    have y0' : 0 ≤ y := by omega
    have k1 : 0 ≤ b * y := Int.mul_nonneg s2 y0'
    have k2 : a * y ≤ 0 := (mul_dn s1 y0' (Int.le_refl y)).2
    have m1 : (-d) * (-d) ≤ (-d) * x := Int.mul_le_mul_of_nonneg_left (by omega) (by omega)
    have m2 : c * c ≤ c * x := Int.mul_le_mul_of_nonneg_left (by omega) s3
    have n1 : (-d) * x = -(d * x) := Int.neg_mul ..
    have d1 := lt_of_sq (d := -d) (by omega) (by omega)
    have c1 := lt_of_sq s3 (by omega)
    omega
theorem StepInv.step {x0 y0 a b c d x y q : Int} {f : Bool} (h : StepInv x0 y0 a b c d x y f) (hX : x0 < 1000000000000000000) (hY : y0 < 1000000000000000000)
    (hc : y + c ≠ 0) (hd : y + d ≠ 0) (hq1 : q = (x + a) / (y + c)) (hq2 : q = (x + b) / (y + d)) :
    StepInv x0 y0 c d (a - q * c) (b - q * d) y (x - q * y) false ∧ x - q * y < y ∧ 0 ≤ q * y ∧ q * y ≤ x ∧ (-2000000000 ≤ q * c ∧ q * c ≤ 2000000000) ∧ (-2000000000 ≤ q * d ∧ q * d ≤ 2000000000) := by
  have hv : 0 < y + c := by have := h.yc; omega
  have hv' : 0 < y + d := by have := h.yd; omega
  have hy0 := h.y0
  have q0 : 0 ≤ q := by rw [hq1]; exact Int.ediv_nonneg h.xa h.yc
  have r1 := Int.mul_ediv_add_emod (x + a) (y + c)
  have r2 := Int.emod_nonneg (x + a) (by omega : y + c ≠ 0)
  have r3 := Int.emod_lt_of_pos (x + a) hv
  have s1 := Int.mul_ediv_add_emod (x + b) (y + d)
  have s2 := Int.emod_nonneg (x + b) (by omega : y + d ≠ 0)
  have s3 := Int.emod_lt_of_pos (x + b) hv'
  rw [← hq1] at r1
  rw [← hq2] at s1
  generalize (x + a) % (y + c) = r at *
  generalize (x + b) % (y + d) = r' at *
  have e1 : (y + c) * q = q * y + q * c := by grind
  have e2 : (y + d) * q = q * y + q * d := by grind
  have t1 : x - q * y + (a - q * c) = r := by omega
  have t2 : x - q * y + (b - q * d) = r' := by omega
  have hsg : (0 ≤ c ∧ d ≤ 0 ∧ a - q * c ≤ 0 ∧ 0 ≤ b - q * d ∧ c * (b - q * d) - d * (a - q * c) = 1) ∨ (c ≤ 0 ∧ 0 ≤ d ∧ 0 ≤ a - q * c ∧ b - q * d ≤ 0 ∧ c * (b - q * d) - d * (a - q * c) = -1) := by
    have dt : c * (b - q * d) - d * (a - q * c) = -(a * d - b * c) := by grind
    rcases h.sg with ⟨g1, g2, g3, g4, g5⟩ | ⟨g1, g2, g3, g4, g5⟩
    · have k1 : 0 ≤ q * d := Int.mul_nonneg q0 g4
      have k2 : q * c ≤ 0 := by have := Int.mul_nonneg q0 (show 0 ≤ -c by omega); rw [Int.mul_neg] at this; omega
      exact .inr ⟨g3, g4, by omega, by omega, by rw [dt, g5]⟩
    · have k1 : 0 ≤ q * c := Int.mul_nonneg q0 g3
      have k2 : q * d ≤ 0 := by have := Int.mul_nonneg q0 (show 0 ≤ -d by omega); rw [Int.mul_neg] at this; omega
      exact .inl ⟨g3, g4, by omega, by omega, by rw [dt, g5]; rfl⟩
  have ex' : x - q * y = (a - q * c) * x0 + (b - q * d) * y0 := by rw [h.ex, h.ey]; grind
  have lb := late_bounds h.ey ex' hX hY hsg (by omega) (by omega) (by omega) (by omega)
  have hqy : 0 ≤ q * y := Int.mul_nonneg q0 hy0
  have hnew0 : 0 ≤ x - q * y := by rcases hsg with ⟨_, _, g3, g4, _⟩ | ⟨_, _, g3, g4, _⟩ <;> omega
  have ba := h.ba; have bb := h.bb
  refine ⟨⟨h.ey, ex', hsg, by omega, by omega, h.yc, h.yd, by omega, fun _ => ⟨by omega, by omega⟩, (fun hf => by cases hf), h.bc, h.bd, lb.1, lb.2.1, by have := h.ord; have := h.xlt; omega, ?_⟩, lb.2.2, hqy, by omega, ?_, ?_⟩
  · intro P X0 Y0 hP hx1 hx2 hy1 hy2 hle
    obtain ⟨T1, T2, T3, T4⟩ := h.tru P X0 Y0 hP hx1 hx2 hy1 hy2 hle
    have EX : a * (x0 * P + X0) + b * (y0 * P + Y0) = x * P + a * X0 + b * Y0 := by rw [h.ex]; grind
    have EY : c * (x0 * P + X0) + d * (y0 * P + Y0) = y * P + c * X0 + d * Y0 := by rw [h.ey]; grind
    have EN : (a - q * c) * (x0 * P + X0) + (b - q * d) * (y0 * P + Y0) = (a * (x0 * P + X0) + b * (y0 * P + Y0)) - q * (c * (x0 * P + X0) + d * (y0 * P + Y0)) := by grind
    have ua : (x + a) * P = x * P + a * P := Int.add_mul ..
    have ub : (x + b) * P = x * P + b * P := Int.add_mul ..
    have uc : (y + c) * P = y * P + c * P := Int.add_mul ..
    have ud : (y + d) * P = y * P + d * P := Int.add_mul ..
    have lc1 : q * (y + c) ≤ x + a := by rw [Int.mul_comm]; omega
    have lc2 : q * (y + d) ≤ x + b := by rw [Int.mul_comm]; omega
    have lc3 : x + a < (q + 1) * (y + c) := by rw [Int.add_mul, Int.one_mul, Int.mul_comm q]; omega
    have lc4 : x + b < (q + 1) * (y + d) := by rw [Int.add_mul, Int.one_mul, Int.mul_comm q]; omega
    have key : 0 ≤ (x * P + a * X0 + b * Y0) - q * (y * P + c * X0 + d * Y0) ∧ (x * P + a * X0 + b * Y0) - q * (y * P + c * X0 + d * Y0) < y * P + c * X0 + d * Y0 := by
      rcases h.sg with ⟨g1, g2, g3, g4, _⟩ | ⟨g1, g2, g3, g4, _⟩
      · have A := mul_up g1 hx1 (Int.le_of_lt hx2); have B := mul_dn g2 hy1 (Int.le_of_lt hy2)
        have C := mul_dn g3 hx1 (Int.le_of_lt hx2); have D := mul_up g4 hy1 (Int.le_of_lt hy2)
        exact true_quo (U := x + b) (V := y + d) (U' := x + a) (V' := y + c) hP q0 (by omega) (by omega) (by omega) (by omega) lc2 lc3
      · have A := mul_dn g1 hx1 (Int.le_of_lt hx2); have B := mul_up g2 hy1 (Int.le_of_lt hy2)
        have C := mul_up g3 hx1 (Int.le_of_lt hx2); have D := mul_dn g4 hy1 (Int.le_of_lt hy2)
        exact true_quo (U := x + a) (V := y + c) (U' := x + b) (V' := y + d) hP q0 (by omega) (by omega) (by omega) (by omega) lc1 lc4
    rw [← EX, ← EY, ← EN] at key
    have hlast : c * (x0 * P + X0) + d * (y0 * P + Y0) ≤ y0 * P + Y0 := by
      cases f
      · have := (T3 rfl); omega
      · obtain ⟨-, -, rfl, rfl⟩ := h.one rfl
        rw [Int.zero_mul, Int.zero_add, Int.one_mul]; exact Int.le_refl _
    refine ⟨key.1, Int.le_of_lt key.2, fun _ => ⟨key.2, hlast⟩, fun g => ?_⟩
    rw [← T4 g, EN]
    generalize a * (x0 * P + X0) + b * (y0 * P + Y0) = A at *
    generalize c * (x0 * P + X0) + d * (y0 * P + Y0) = C at *
    constructor
    · rintro ⟨h1, h2⟩
      refine ⟨?_, h1⟩
      have := Int.dvd_add h2 (Int.dvd_mul_of_dvd_right (c := C) (b := q) (a := g) h1)
      rwa [Int.sub_add_cancel] at this
    · rintro ⟨h1, h2⟩
      exact ⟨h2, Int.dvd_sub h1 (Int.dvd_mul_of_dvd_right (a := g) h2)⟩
  · omega
  · omega
end Go.Proofs.YtjobmkdaaionlaaGreatDoor
