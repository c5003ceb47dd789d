import Derived.Test.YtipnnmbjkpidoaaGreatDoorBase26
import Derived.Test.YtipnnmbjkpidoaaGreatDoorBase3
import Derived.Test.YtipnnmbjkpidoaaGreatDoorBase23
import Derived.Test.YtipnnmbjkpidoaaGreatDoorBase9

set_option linter.unusedVariables false
/-
  Decimal digits of a number, the last one first, and its notation.
-/
namespace Go.Proofs.YtipnnmbjkpidoaaGreatDoor
open Go Go.Proofs

def dgs (n : Nat) : List Nat := (Lib.decDigits n).reverse.map fun c => c.toNat - 48

theorem dgs_length (n : Nat) : (dgs n).length = (Lib.decDigits n).length := by simp [dgs]
theorem dv_rev : ∀ (l : List UInt8), dv (l.reverse.map fun c => c.toNat - 48) = dec l
  | [] => rfl
  | c :: t => by
    rw [List.reverse_cons, List.map_append, dv_append, dv_rev t]
    simp only [List.length_map, List.length_reverse, List.map_cons, List.map_nil, dv, dec]
    rw [Nat.mul_zero, Nat.add_zero, Nat.mul_comm]; omega
theorem dv_dgs (n : Nat) : dv (dgs n) = n := by unfold dgs; rw [dv_rev, dec_decDigits]
theorem dgs_dg (n : Nat) : Dg (dgs n) := by
  intro x hx
  simp only [dgs, List.mem_map, List.mem_reverse] at hx
  obtain ⟨c, hc, rfl⟩ := hx
  have := isDig_iff.1 (allDig_decDigits n c hc)
  omega
theorem dgs_ne_nil (n : Nat) : dgs n ≠ [] := fun h => by
  have := congrArg List.length h
  rw [dgs_length] at this
  exact decDigits_ne_nil n (List.length_eq_zero_iff.1 this)
/-- The notation is that of the digits from the highest one on. -/
theorem dgs_pos {n : Nat} (h : n ≠ 0) : dgs n = nl n := by
  have e : nl n = nl (dv (dgs n)) := by rw [dv_dgs]
  rw [e]
  refine deq_limbs (dgs_dg n) fun hne => ?_
  have h1 := head?_decDigits n h
  have h2 : (dgs n).getLast hne = ((Lib.decDigits n).head (decDigits_ne_nil n)).toNat - 48 := by
    unfold dgs
    simp [List.getLast_reverse]
  rw [h2]
  have h3 := isDig_iff.1 (allDig_decDigits n _ (List.head_mem (decDigits_ne_nil n)))
  intro h4
  rw [List.head?_eq_some_head (decDigits_ne_nil n)] at h1
  exact h1 (by rw [show (Lib.decDigits n).head (decDigits_ne_nil n) = 48 from UInt8.toNat_inj.1 (by show _ = 48; omega)])
theorem dgs_zero : dgs 0 = [0] := by unfold dgs; rw [dec0']; rfl
theorem nl_length (n : Nat) (h : n ≠ 0) : (nl n).length = (Lib.decDigits n).length := by rw [← dgs_pos h, dgs_length]
theorem nl_len_le (n : Nat) : (nl n).length ≤ (Lib.decDigits n).length := by
  by_cases h : n = 0
  · subst h; rw [nl_zero]; simp
  · rw [nl_length n h]; exact Nat.le_refl _
end Go.Proofs.YtipnnmbjkpidoaaGreatDoor

/-
  The reference: what a notation gives it; digits, cut, order, Sign.
-/
namespace Go.Proofs.YtipnnmbjkpidoaaGreatDoor
open Go Go.Proofs Go.RowKit

theorem txt_size {s : ByteArray} {z : Int} (h : bytes s = Lib.itoa z) : 0 < s.size := by
  rw [← bytes_length, h]
  by_cases hz : z < 0
  · rw [itoa_neg hz]; simp
  · rw [itoa_nonneg hz]; exact List.length_pos_iff.2 (decDigits_ne_nil _)
theorem txt_canon {s : ByteArray} {z : Int} (h : bytes s = Lib.itoa z) : canonB (bytes s) = true := by rw [h]; exact canonB_itoa z
theorem txt_neg {s : ByteArray} {z : Int} (h : bytes s = Lib.itoa z) : decide (byteAt s 0 = 45) = decide (z < 0) := by
  by_cases hz : z < 0
  · rw [itoa_neg hz] at h
    rw [byte0 h, decide_eq_true hz]; rfl
  · rw [itoa_nonneg hz] at h
    rw [decide_eq_false hz, decide_eq_false_iff_not]
    match hd : Lib.decDigits z.natAbs with
    | [] => exact absurd hd (decDigits_ne_nil _)
    | c :: t =>
      rw [hd] at h
      rw [byte0 h]
      have := isDig_iff.1 (allDig_decDigits z.natAbs c (by rw [hd]; simp))
      omega
theorem txt_zero {s : ByteArray} {z : Int} (h : bytes s = Lib.itoa z) (hz : z ≠ 0) : s ≠ ⟨#[48]⟩ := by
  intro e
  subst e
  have h2 : bytes ⟨#[48]⟩ = Lib.itoa 0 := by rw [itoa_nonneg (by omega)]; exact dec0'.symm
  exact hz (itoa_inj (h.symm.trans h2))
theorem txt_is_zero {s : ByteArray} (h : bytes s = Lib.itoa 0) : s = ⟨#[48]⟩ := by
  have h2 : bytes ⟨#[48]⟩ = Lib.itoa 0 := by rw [itoa_nonneg (by omega)]; exact dec0'.symm
  rw [← str_bytes s, h, ← h2, str_bytes]
theorem txt_len {s : ByteArray} {z : Int} (h : bytes s = Lib.itoa z) : s.size = (if z < 0 then 1 else 0) + (Lib.decDigits z.natAbs).length := by
  rw [← bytes_length, h]
  by_cases hz : z < 0
  · rw [itoa_neg hz, if_pos hz]; simp; omega
  · rw [itoa_nonneg hz, if_neg hz]; omega
theorem txt_drop {s : ByteArray} {z : Int} (h : bytes s = Lib.itoa z) : (bytes s).drop (if z < 0 then 1 else 0) = Lib.decDigits z.natAbs := by
  rw [h]
  by_cases hz : z < 0
  · rw [itoa_neg hz, if_pos hz]; rfl
  · rw [itoa_nonneg hz, if_neg hz]; rfl
theorem txt_dig {s : ByteArray} {z : Int} (h : bytes s = Lib.itoa z) (j : Nat) (h1 : (if z < 0 then 1 else 0) ≤ j) (h2 : j < s.size) : 48 ≤ byteAt s j ∧ byteAt s j ≤ 57 := by
  have h3 := txt_drop h
  generalize (if z < 0 then 1 else 0) = p at *
  have hlt : j - p < ((bytes s).drop p).length := by rw [List.length_drop, bytes_length]; omega
  have h4 : ((bytes s).drop p)[j - p] ∈ Lib.decDigits z.natAbs := by rw [← h3]; exact List.getElem_mem hlt
  rw [List.getElem_drop] at h4
  have h5 := isDig_iff.1 (allDig_decDigits _ _ h4)
  have e : p + (j - p) = j := by omega
  simp only [e] at h5
  unfold byteAt
  rw [List.getD_eq_getElem?_getD, List.getElem?_eq_getElem (by rw [bytes_length]; exact h2)]
  exact h5

theorem refDigits_txt (s : ByteArray) (z : Int) (w : World) (h : bytes s = Lib.itoa z) (hs : s.size ≤ 1000000000000) :
    Calls Tryz.prog 115 #[.string s] w (DRet (dgs z.natAbs) w) := by
  have e : dgOf s (if z < 0 then 1 else 0) = dgs z.natAbs := by unfold dgOf dgs; rw [txt_drop h]
  rw [← e]
  have h1 := txt_neg h
  have h0 := txt_size h
  refine refDigits0_any s _ w hs (by split <;> omega) (fun j a b => txt_dig h j a b) ?_
  by_cases hz : z < 0
  · rw [if_pos hz]; right
    rw [decide_eq_true hz, decide_eq_true_eq] at h1
    exact ⟨rfl, h1⟩
  · rw [if_neg hz]; left; rfl

set_option maxHeartbeats 1000000 in
theorem cut_any (l : List Nat) (v : Value) (w : World) (hv : DV w v l) (hs : Dg l) (hb : l.length ≤ 1000000000000) :
    Calls Tryz.prog 114 #[v] w fun e w' => ∃ v', e = .returned v' ∧ DV w v' (nl (dv l)) ∧ w' = w := by
  obtain ⟨ao, c, rfl, hr⟩ := hv
  have hkl := keep_le l
  have hres : ∀ r, r = keep l → DV w (.slice ao r c) (nl (dv l)) := fun r hr' => by
    subst hr'
    have hl : (nl (dv l)).length = keep l := by rw [← dtake_keep hs]; simp; omega
    refine ⟨ao, c, by rw [hl], ?_⟩
    rw [← dtake_keep hs]; exact hr.take _ hkl
  have h1 := hr.1; have h2 := hr.2.1
  have hzero : keep (l.take 0) = keep l → keep l = 0 := fun h => by rw [← h]; rfl
  have hk0 : keep (l.take l.length) = keep l := by rw [List.take_length]
  by_cases hne : l = []
  · subst hne
    have hR := hres 0 rfl
    have HR := Lib.hid hR
    clear hR hres hkl h1 hzero hk0 hr hs hb
    have hnil : ([] : List Nat).length = 0 := rfl
    rw [hnil]
    go_enter Tryz.func114, Tryz.ntmps114
    go_wp2_with fail
    go_rounds 1
    go_ret
    exact ⟨_, rfl, HR.out, rfl⟩
  · obtain ⟨d, hd, hdb, hxc⟩ := hr.open hs
    obtain ⟨b, off, rfl, hb', hxc⟩ := hxc.resolve_left hne
    have hstep : ∀ k, k < l.length → keep (l.take (k + 1)) = keep l → d k = 0 → keep (l.take k) = keep l := fun k hk h h0 => keep_take hk (by have := hd k hk; omega) h
    have hlast : ∀ k, k < l.length → keep (l.take (k + 1)) = keep l → d k ≠ 0 → keep l = k + 1 := fun k hk h h0 => keep_last hk (by have := hd k hk; omega) h
    generalize hK : (fun k => keep (l.take k) = keep l) = K
    have hK' : ∀ k, (keep (l.take k) = keep l) = K k := fun k => congrFun hK k
    simp only [hK'] at hk0 hstep hlast hzero
    clear hK hK' hd hr hs hne
    generalize keep l = r at *
    generalize nl (dv l) = RL at *
    generalize l.length = n at *
    have HS := Lib.hid hstep; have HL := Lib.hid hlast; have HZ := Lib.hid hzero; have HK := Lib.hid hk0; have HX := Lib.hid hxc; have HRES := Lib.hid hres
    clear hstep hlast hzero hk0 hxc hdb hres
    go_enter Tryz.func114, Tryz.ntmps114
    go_wp2_with fail
    go_loop [3] (fun v => ∃ k : Nat, k ≤ n ∧ v = .int .i64 k ∧ K k) (fun v => (intOf v).toNat)
    case atStart => exact ⟨n, Nat.le_refl _, rfl, HK.out⟩
    case round =>
      obtain ⟨k, hk, rfl, hKk⟩ := hrel
      have HKk := Lib.hid hKk; clear hKk
      rcases Nat.eq_zero_or_pos k with rfl | hk1
      · have hr0 : r = 0 := HZ.out HKk.out
        subst hr0
        have HR := Lib.hid (HRES.out 0 rfl); clear HRES
        go_wp2
        go_ret
        exact ⟨_, rfl, HR.out, rfl⟩
      · obtain ⟨j, rfl⟩ : ∃ j, k = j + 1 := ⟨k - 1, by omega⟩
        have c1 : w.cell? ⟨b, off + j, none⟩ = some (.int .i64 (d j)) := HX.out j (by omega)
        by_cases h0 : d j = 0
        · have hz : (d j == 0) = true := by simp [h0]
          have H0 := Lib.hid h0; clear h0
          go_wp2
          go_round
          case rel => exact ⟨j, by omega, by go_num, HS.out j (by omega) HKk.out H0.out⟩
          case measure => simp [intOf]
        · have hz : (d j == 0) = false := by simp [h0]
          have hr1 : r = j + 1 := HL.out j (by omega) HKk.out h0
          subst hr1
          have HR := Lib.hid (HRES.out (j + 1) rfl); clear HRES h0
          go_wp2
          go_ret
          exact ⟨_, rfl, HR.out, rfl⟩

theorem refSign_txt (s : ByteArray) (z : Int) (w : World) (h : bytes s = Lib.itoa z) :
    Calls Tryz.prog 27 #[.string s] w fun e w' => e = .returned (.int .i64 (cmpI z 0)) ∧ w' = w := by
  have C := fun W => negative_any s W (txt_size h)
  rw [txt_neg h] at C
  by_cases hz : z = 0
  · subst hz
    have := txt_is_zero h
    subst this
    clear C h
    go_enter Tryz.func27, Tryz.ntmps27
    go_wp2
    go_ret
    exact ⟨rfl, rfl⟩
  · have hd := eq48 s (txt_zero h hz)
    by_cases hn : z < 0
    · have hr : cmpI z 0 = -1 := by unfold cmpI; rw [if_pos hn]
      rw [decide_eq_true hn] at C
      rw [hr]
      have KC := Lib.hid C; clear C h hz hr hn
      go_enter Tryz.func27, Tryz.ntmps27
      go_wp2_with (go_at_call 72; refine (KC.out _).mono ?_; rintro e w1 ⟨rfl, rfl⟩; refine Hid.out ?_)
      refine Lib.hid ?_
      go_wp2
      go_ret
      exact ⟨rfl, rfl⟩
    · have hr : cmpI z 0 = 1 := by unfold cmpI; rw [if_neg hn, if_neg hz]
      rw [decide_eq_false hn] at C
      rw [hr]
      have KC := Lib.hid C; clear C h hz hr hn
      go_enter Tryz.func27, Tryz.ntmps27
      go_wp2_with (go_at_call 72; refine (KC.out _).mono ?_; rintro e w1 ⟨rfl, rfl⟩; refine Hid.out ?_)
      refine Lib.hid ?_
      go_wp2
      go_ret
      exact ⟨rfl, rfl⟩
end Go.Proofs.YtipnnmbjkpidoaaGreatDoor

/-
  The reference: order of digits, Order, Checks, Compare.
-/
namespace Go.Proofs.YtipnnmbjkpidoaaGreatDoor
open Go Go.Proofs Go.RowKit

theorem dcmp_eq (x y : Nat) (he : (nl x).length = (nl y).length) (h : ∀ j, j < (nl x).length → (nl x).getD j 0 = (nl y).getD j 0) : cmpN x y = 0 := by
  have : nl x = nl y := by
    refine List.ext_getElem he fun j h1 h2 => ?_
    have := h j h1
    rwa [getD_lt _ _ h1, getD_lt _ _ h2] at this
  have e : x = y := by rw [← dv_limbs x, this, dv_limbs]
  subst e; simp [cmpN]

theorem dcmp_top (x y : Nat) (he : (nl x).length = (nl y).length) (i : Nat) (hi : i < (nl x).length)
    (h : ∀ j, i < j → j < (nl x).length → (nl x).getD j 0 = (nl y).getD j 0) (hne : (nl x).getD i 0 ≠ (nl y).getD i 0) :
    cmpN x y = if (nl x).getD i 0 < (nl y).getD i 0 then -1 else 1 := by
  have hd : (nl x).drop (i + 1) = (nl y).drop (i + 1) := by
    refine List.ext_getElem (by simp [he]) fun j h1 h2 => ?_
    simp only [List.getElem_drop]
    have h3 : i + 1 + j < (nl x).length := by simp at h1; omega
    have := h (i + 1 + j) (by omega) h3
    rwa [getD_lt _ _ h3, getD_lt _ _ (by omega)] at this
  rw [getD_lt _ _ hi, getD_lt _ _ (by omega)] at *
  unfold cmpN
  by_cases hl : (nl x)[i] < (nl y)[i]
  · have := dv_lt_of_top (nl_small x) he i hi hd hl
    rw [dv_limbs, dv_limbs] at this
    rw [if_pos this, if_pos hl]
  · have := dv_lt_of_top (nl_small y) he.symm i (by omega) hd.symm (by omega)
    rw [dv_limbs, dv_limbs] at this
    rw [if_neg (by omega), if_neg (by omega), if_neg hl]

theorem lt_of_nl_len {m n : Nat} (h : (nl m).length < (nl n).length) : m < n := dlt_of_limbs_length h

set_option maxHeartbeats 2000000 in
theorem refOrder_any (x y : Nat) (vx vy : Value) (w : World) (hx : DV w vx (nl x)) (hy : DV w vy (nl y)) :
    Calls Tryz.prog 113 #[vx, vy] w fun e w' => e = .returned (.int .i64 (cmpN x y)) ∧ Below w.heap.size w w' := by
  obtain ⟨ao, c, rfl, hx⟩ := hx
  obtain ⟨ap, c', rfl, hy⟩ := hy
  have h1 := hx.1; have h2 := hx.2.1; have h3 := hy.1; have h4 := hy.2.1
  have b1 : (nl x).length ≤ 9223372036854775807 := by omega
  have b2 : (nl y).length ≤ 9223372036854775807 := by omega
  clear h1 h2 h3 h4
  by_cases hlt : (nl x).length < (nl y).length
  · have hr : cmpN x y = -1 := by unfold cmpN; rw [if_pos (lt_of_nl_len hlt)]
    rw [hr]
    have t1 : (((nl x).length : Int) != ((nl y).length : Int)) = true := by simp; omega
    clear hx hy hr
    generalize (nl x).length = n at *
    generalize (nl y).length = m at *
    go_enter Tryz.func113, Tryz.ntmps113
    go_wp2
    go_ret
    exact ⟨rfl, Below.refl _ _⟩
  · by_cases hgt : (nl y).length < (nl x).length
    · have hr : cmpN x y = 1 := by have := lt_of_nl_len hgt; unfold cmpN; rw [if_neg (by omega), if_neg (by omega)]
      rw [hr]
      have t1 : (((nl x).length : Int) != ((nl y).length : Int)) = true := by simp; omega
      clear hx hy hr
      generalize (nl x).length = n at *
      generalize (nl y).length = m at *
      go_enter Tryz.func113, Tryz.ntmps113
      go_wp2
      go_ret
      exact ⟨rfl, Below.refl _ _⟩
    · have he : (nl x).length = (nl y).length := by omega
      have hz := dcmp_eq x y he
      have ht := dcmp_top x y he
      by_cases hn0 : nl x = []
      · have hr := hz (fun j hj => by rw [hn0] at hj; simp at hj)
        rw [hr]
        rw [hn0] at he ⊢
        rw [← he]
        have hnil : ([] : List Nat).length = 0 := rfl
        rw [hnil]
        clear hx hy hz ht hr he hlt hgt b1 b2 hn0
        go_enter Tryz.func113, Tryz.ntmps113
        go_wp2_with fail
        go_rounds 1
        go_ret
        exact ⟨rfl, Below.refl _ _⟩
      · have hn0' : nl y ≠ [] := fun h => hn0 (List.length_eq_zero_iff.1 (by rw [he, h]; rfl))
        obtain ⟨d, hd, hdb, hxc⟩ := hx.open (nl_small x)
        obtain ⟨f, hf, hfb, hyc⟩ := hy.open (nl_small y)
        obtain ⟨b, off, rfl, hb, hxc⟩ := hxc.resolve_left hn0
        obtain ⟨b', off', rfl, hb', hyc⟩ := hyc.resolve_left hn0'
        rw [← he] at hf hyc ⊢
        have hZ : (∀ j, j < (nl x).length → d j = f j) → cmpN x y = 0 := fun h => hz fun j hj => by
          have := h j hj; rw [hd j hj, hf j hj] at this; exact Int.ofNat.inj this
        have hT : ∀ i, i < (nl x).length → (∀ j, i < j → j < (nl x).length → d j = f j) → d i ≠ f i → cmpN x y = if d i < f i then -1 else 1 := fun i hi h hne => by
          rw [ht i hi (fun j h1 h2 => by have := h j h1 h2; rw [hd j h2, hf j h2] at this; exact Int.ofNat.inj this) (fun e => hne (by rw [hd i hi, hf i hi, e])), hd i hi, hf i hi]
          simp only [Int.ofNat_lt]
        clear hd hf hx hy hz ht hdb hfb he hlt hgt b2 hn0 hn0'
        generalize (nl x).length = n at *
        generalize cmpN x y = r at *
        have HZ := Lib.hid hZ; have HT := Lib.hid hT; have HXC := Lib.hid hxc; have HYC := Lib.hid hyc
        clear hxc hyc hZ hT
        go_enter Tryz.func113, Tryz.ntmps113
        go_wp2_with fail
        go_loopw [5] (fun i wr => ∃ k : Int, -1 ≤ k ∧ k < n ∧ i = .int .i64 k ∧ (∀ j : Nat, k < j → j < n → d j = f j) ∧ Below w.heap.size w wr) (fun i _ => (intOf i + 1).toNat)
        case atStart => exact ⟨(n : Int) - 1, by omega, by omega, rfl, fun j h1 h2 => by omega, Below.refl _ _⟩
        case round =>
          obtain ⟨k, hk1, hk2, rfl, heq, hbw⟩ := hrel
          have HEQ := Lib.hid heq; clear heq
          by_cases hk : k = -1
          · subst hk
            go_wp2
            go_ret
            exact ⟨ret_int (HZ.out fun j hj => HEQ.out j (by omega) hj).symm, hbw⟩
          · obtain ⟨j, rfl⟩ := Int.eq_ofNat_of_zero_le (show 0 ≤ k by omega)
            have hj : j < n := by omega
            have c3 : wr.cell? ⟨b, off + j, none⟩ = some (.int .i64 (d j)) := (hbw.cell (p := ⟨b, off + j, none⟩) hb).trans (HXC.out j hj)
            have c4 : wr.cell? ⟨b', off' + j, none⟩ = some (.int .i64 (f j)) := (hbw.cell (p := ⟨b', off' + j, none⟩) hb').trans (HYC.out j hj)
            by_cases hdf : d j = f j
            · have hb1 : (d j != f j) = false := by simp [hdf]
              have HDF := Lib.hid hdf; clear hdf
              go_wp2
              go_quiet (fail)
              go_wp2
              go_roundw
              case rel => exact ⟨(j : Int) - 1, by omega, by omega, rfl, fun i h1 h2 => by
                by_cases e : i = j
                · rw [e]; exact HDF.out
                · exact HEQ.out i (by omega) h2, hbw.trans (below_drewN (Below.refl _ _) _)⟩
              case measure => simp [intOf]
            · have hb1 : (d j != f j) = true := by simp [hdf]
              have hr := HT.out j hj (fun i h1 h2 => HEQ.out i (by omega) h2) hdf
              have HR := Lib.hid hr; clear hr hdf
              by_cases hlt : d j < f j
              · have hdl : decide (d j < f j) = true := by simp [hlt]
                go_wp2
                go_quiet (fail)
                go_wp2
                go_quiet (fail)
                go_wp2
                go_ret
                refine ⟨ret_int ?_, hbw.trans (below_drewN (below_drewN (Below.refl _ _) _) _)⟩
                rw [HR.out, if_pos hlt]
              · have hdl : decide (d j < f j) = false := by simp [hlt]
                go_wp2
                go_quiet (fail)
                go_wp2
                go_quiet (fail)
                go_wp2
                go_ret
                refine ⟨ret_int ?_, hbw.trans (below_drewN (below_drewN (Below.refl _ _) _) _)⟩
                rw [HR.out, if_neg (by omega)]

theorem cmpN_cases (x y : Nat) : cmpN x y = -1 ∨ cmpN x y = 0 ∨ cmpN x y = 1 := by unfold cmpN; (repeat' split) <;> simp
theorem sgn_cases (z : Int) : (cmpI z 0 = -1 ∧ z < 0) ∨ (cmpI z 0 = 0 ∧ z = 0) ∨ (cmpI z 0 = 1 ∧ 0 < z) := by
  unfold cmpI
  rcases Int.lt_trichotomy z 0 with h | h | h
  · exact .inl ⟨if_pos h, h⟩
  · exact .inr (.inl ⟨by rw [if_neg (by omega), if_pos h], h⟩)
  · exact .inr (.inr ⟨by rw [if_neg (by omega), if_neg (by omega)], h⟩)
theorem cmpI_neg {x y : Int} (hx : x < 0) (hy : y < 0) : cmpI x y = -cmpN x.natAbs y.natAbs := by
  unfold cmpI cmpN; (repeat' split) <;> omega
theorem cmpI_pos {x y : Int} (hx : 0 ≤ x) (hy : 0 ≤ y) : cmpI x y = cmpN x.natAbs y.natAbs := by
  unfold cmpI cmpN; (repeat' split) <;> omega
theorem cmpI_lt {x y : Int} (h : x < y) : cmpI x y = -1 := by unfold cmpI; rw [if_pos h]
theorem cmpI_gt {x y : Int} (h : y < x) : cmpI x y = 1 := by unfold cmpI; rw [if_neg (by omega), if_neg (by omega)]

theorem dlen_bound {s : ByteArray} {z : Int} (h : bytes s = Lib.itoa z) (hs : s.size ≤ 1000000000000) : (dgs z.natAbs).length ≤ 1000000000000 := by
  rw [dgs_length]
  have := txt_len h
  omega

set_option maxHeartbeats 4000000 in
theorem refOrderI (s t : ByteArray) (x y : Int) (w : World) (hs : bytes s = Lib.itoa x) (ht : bytes t = Lib.itoa y) (hls : s.size ≤ 1000000000000) (hlt : t.size ≤ 1000000000000) :
    Calls Tryz.prog 76 #[.string s, .string t] w fun e w' => e = .returned (.int .i64 (cmpI x y)) ∧ Below w.heap.size w w' := by
  have S1 := fun W => refSign_txt s x W hs
  have S2 := fun W => refSign_txt t y W ht
  have D1 := fun W => refDigits_txt s x W hs hls
  have D2 := fun W => refDigits_txt t y W ht hlt
  have U1 : ∀ v W, DV W v (dgs x.natAbs) → Calls Tryz.prog 114 #[v] W fun e w' => ∃ v', e = .returned v' ∧ DV W v' (nl x.natAbs) ∧ w' = W := fun v W hv => by
    have := cut_any _ v W hv (dgs_dg _) (dlen_bound hs hls)
    rwa [dv_dgs] at this
  have U2 : ∀ v W, DV W v (dgs y.natAbs) → Calls Tryz.prog 114 #[v] W fun e w' => ∃ v', e = .returned v' ∧ DV W v' (nl y.natAbs) ∧ w' = W := fun v W hv => by
    have := cut_any _ v W hv (dgs_dg _) (dlen_bound ht hlt)
    rwa [dv_dgs] at this
  have R := fun vx vy W hx hy => refOrder_any x.natAbs y.natAbs vx vy W hx hy
  have hcN := cmpN_cases x.natAbs y.natAbs
  have h1 := sgn_cases x
  have h2 := sgn_cases y
  have e1 : x < 0 → y < 0 → cmpI x y = -cmpN x.natAbs y.natAbs := cmpI_neg
  have e2 : 0 ≤ x → 0 ≤ y → cmpI x y = cmpN x.natAbs y.natAbs := cmpI_pos
  have e3 : x < y → cmpI x y = -1 := cmpI_lt
  have e4 : y < x → cmpI x y = 1 := cmpI_gt
  have hc0 : x = 0 → y = 0 → cmpN x.natAbs y.natAbs = 0 := fun a b => by subst a; subst b; rfl
  generalize cmpN x.natAbs y.natAbs = r at *
  generalize cmpI x y = q at *
  generalize cmpI x 0 = sx at *
  generalize cmpI y 0 = sy at *
  have hr1 : -1 ≤ r := by omega
  have hr2 : r ≤ 1 := by omega
  have K1 := Lib.hid S1; have K2 := Lib.hid S2; have K3 := Lib.hid D1; have K4 := Lib.hid D2; have K5 := Lib.hid U1; have K6 := Lib.hid U2; have K7 := Lib.hid R
  clear S1 S2 D1 D2 U1 U2 R hs ht hls hlt hcN
  rcases h1 with ⟨rfl, h1⟩ | ⟨rfl, h1⟩ | ⟨rfl, h1⟩ <;> rcases h2 with ⟨rfl, h2⟩ | ⟨rfl, h2⟩ | ⟨rfl, h2⟩
  case' inl.inl => (have hq : -r = q := (e1 h1 h2).symm)
  case' inl.inr.inl => (have hq : -1 = q := (e3 (by omega)).symm)
  case' inl.inr.inr => (have hq : -1 = q := (e3 (by omega)).symm)
  case' inr.inl.inl => (have hq : 1 = q := (e4 (by omega)).symm)
  case' inr.inl.inr.inl => (have hq : r = q := (e2 (by omega) (by omega)).symm; have hr0 : r = 0 := hc0 h1 h2)
  case' inr.inl.inr.inr => (have hq : -1 = q := (e3 (by omega)).symm)
  case' inr.inr.inl => (have hq : 1 = q := (e4 (by omega)).symm)
  case' inr.inr.inr.inl => (have hq : 1 = q := (e4 (by omega)).symm)
  case' inr.inr.inr.inr => (have hq : r = q := (e2 (by omega) (by omega)).symm)
  all_goals
    clear e1 e2 e3 e4 hc0 h1 h2
    try subst hr0
    subst hq
    go_enter Tryz.func76, Tryz.ntmps76
    go_wp2_with (go_at_call 27; refine (K1.out _).mono ?_; rintro e w1 ⟨rfl, rfl⟩; refine Hid.out ?_)
    refine Lib.hid ?_
    go_wp2_with (go_at_call 27; refine (K2.out _).mono ?_; rintro e w1 ⟨rfl, rfl⟩; refine Hid.out ?_)
    refine Lib.hid ?_
    first
      | (go_wp2
         go_ret
         exact ⟨rfl, Below.refl _ _⟩)
      | (go_wp2_with (go_at_call 115; refine (K3.out _).mono ?_; rintro e w1 ⟨v1, rfl, hv1, hb1⟩; refine Hid.out ?_)
         refine Lib.hid ?_
         go_wp2_with (go_at_call 114; refine (K5.out _ _ hv1).mono ?_; rintro e w2 ⟨v2, rfl, hv2, h⟩; subst h; refine Hid.out ?_)
         refine Lib.hid ?_
         go_wp2_with (go_at_call 115; refine (K4.out _).mono ?_; rintro e w3 ⟨v3, rfl, hv3, hb3⟩; refine Hid.out ?_)
         have hv2' := hv2.mono hb3
         refine Lib.hid ?_
         go_wp2_with (go_at_call 114; refine (K6.out _ _ hv3).mono ?_; rintro e w4 ⟨v4, rfl, hv4, h⟩; subst h; refine Hid.out ?_)
         refine Lib.hid ?_
         go_wp2_with (go_at_call 113; refine (K7.out _ _ _ hv2' hv4).mono ?_; rintro e w5 ⟨rfl, hb5⟩; refine Hid.out ?_)
         refine Lib.hid ?_
         go_wp2
         go_ret
         exact ⟨rfl, Below.chain hb1 (Below.chain hb3 hb5)⟩)

theorem refChecks_any (s t : ByteArray) (w : World) (hs : s.size ≤ 9223372036854775807) (ht : t.size ≤ 9223372036854775807) :
    Calls Tryz.prog 75 #[.string s, .string t] w fun e w' => e = .returned (.int .i64 (errBoth (bytes s) (bytes t) : Nat)) ∧ w' = w := by
  have C1 := fun W => refCheck_any s W hs
  have C2 := fun W => refCheck_any t W ht
  have h := errOf_cases (bytes s)
  unfold errBoth
  generalize errOf (bytes s) = a at *
  generalize errOf (bytes t) = b at *
  have K1 := Lib.hid C1; have K2 := Lib.hid C2; clear C1 C2
  rcases h with rfl | rfl | rfl
  · rw [if_pos rfl]
    go_enter Tryz.func75, Tryz.ntmps75
    go_wp2_with (go_at_call 18; refine (K1.out _).mono ?_; rintro e w1 ⟨rfl, rfl⟩; refine Hid.out ?_)
    refine Lib.hid ?_
    go_wp2_with (go_at_call 18; refine (K2.out _).mono ?_; rintro e w1 ⟨rfl, rfl⟩; refine Hid.out ?_)
    refine Lib.hid ?_
    go_wp2
    go_ret
    exact ⟨rfl, rfl⟩
  all_goals
    rw [if_neg (by decide)]
    go_enter Tryz.func75, Tryz.ntmps75
    go_wp2_with (go_at_call 18; refine (K1.out _).mono ?_; rintro e w1 ⟨rfl, rfl⟩; refine Hid.out ?_)
    refine Lib.hid ?_
    go_wp2
    go_ret
    exact ⟨rfl, rfl⟩

/-- Without an error both are notations. -/
theorem txt_of_canon {s : ByteArray} (h : canonB (bytes s) = true) : bytes s = Lib.itoa (valZ (bytes s)) := itoa_valZ h
theorem canon_of_err {s : ByteArray} (h : errOf (bytes s) = 0) : canonB (bytes s) = true := by
  unfold errOf at h
  cases hc : canonB (bytes s)
  · rw [hc] at h; simp at h
  · rfl
theorem errBoth_zero {a b : List UInt8} (h : errBoth a b = 0) : errOf a = 0 ∧ errOf b = 0 := by
  unfold errBoth at h
  by_cases h1 : errOf a = 0
  · rw [if_pos h1] at h; exact ⟨h1, h⟩
  · rw [if_neg h1] at h; exact absurd h h1

theorem refCompare_any (s t : ByteArray) (w : World) (hs : s.size ≤ 1000000000000) (ht : t.size ≤ 1000000000000) :
    Calls Tryz.prog 31 #[.string s, .string t] w fun e w' => e = .returned (cmpR (bytes s) (bytes t)) ∧ Below w.heap.size w w' := by
  have C1 := fun W => refChecks_any s t W (by omega) (by omega)
  have C2 : errBoth (bytes s) (bytes t) = 0 → ∀ W, Calls Tryz.prog 76 #[.string s, .string t] W fun e w' => e = .returned (.int .i64 (ordZ (bytes s) (bytes t))) ∧ Below W.heap.size W w' := fun h W => by
    obtain ⟨h1, h2⟩ := errBoth_zero h
    have e1 := txt_of_canon (canon_of_err h1)
    have e2 := txt_of_canon (canon_of_err h2)
    have := refOrderI s t _ _ W e1 e2 hs ht
    rwa [← ordZ_itoa, ← e1, ← e2] at this
  have hc := errBoth_cases (bytes s) (bytes t)
  unfold cmpR
  generalize errBoth (bytes s) (bytes t) = c at *
  generalize ordZ (bytes s) (bytes t) = r at *
  rcases hc with rfl | rfl | rfl
  · have K2 := Lib.hid (C2 rfl); have K1 := Lib.hid C1; clear C1 C2
    go_enter Tryz.func31, Tryz.ntmps31
    go_wp2_with (go_at_call 75; refine (K1.out _).mono ?_; rintro e w1 ⟨rfl, rfl⟩; refine Hid.out ?_)
    refine Lib.hid ?_
    go_wp2_with (go_at_call 76; refine (K2.out _).mono ?_; rintro e w2 ⟨rfl, hb2⟩; refine Hid.out ?_)
    refine Lib.hid ?_
    go_wp2
    refine bodyPost_ret (by simp [results, Tryz.results31, go_sem]; rfl) rfl ?_
    exact ⟨rfl, hb2⟩
  all_goals
    have K1 := Lib.hid C1; clear C1 C2
    go_enter Tryz.func31, Tryz.ntmps31
    go_wp2_with (go_at_call 75; refine (K1.out _).mono ?_; rintro e w1 ⟨rfl, rfl⟩; refine Hid.out ?_)
    refine Lib.hid ?_
    go_wp2
    refine bodyPost_ret (by simp [results, Tryz.results31, go_sem]; rfl) rfl ?_
    exact ⟨rfl, Below.refl _ _⟩
end Go.Proofs.YtipnnmbjkpidoaaGreatDoor
