import Derived.Test.YtipnnmbjkpidoaaGreatDoorBase27
import Derived.Test.YtipnnmbjkpidoaaGreatDoorBase23

set_option linter.unusedVariables false
/-
  The reference: Whole.
-/
namespace Go.Proofs.YtipnnmbjkpidoaaGreatDoor
open Go Go.Proofs Go.RowKit

def fz (u : Nat) : List UInt8 := if u = 0 then [] else Lib.decDigits u
theorem fz_step {u : Nat} (h : u ≠ 0) : fz u = fz (u / 10) ++ [UInt8.ofNat (48 + u % 10)] := by
  unfold fz
  rw [if_neg h]
  by_cases h1 : u < 10
  · rw [if_pos (by omega), Lib.decDigits, dif_pos h1, Nat.mod_eq_of_lt h1]; rfl
  · rw [if_neg (by omega)]
    conv => lhs; rw [Lib.decDigits, dif_neg h1]
/-- The digit of a number below ten. -/
def digitC (d : Nat) : UInt8 := UInt8.ofNat (48 + d)
theorem ten_at : ∀ d, d < 10 → (⟨#[48, 49, 50, 51, 52, 53, 54, 55, 56, 57]⟩ : ByteArray).extract d (d + 1) = str [digitC d] := by decide +kernel
theorem str_append (a b : List UInt8) : str a ++ str b = str (a ++ b) := by
  apply ByteArray.ext; apply Array.ext'; simp [str]
theorem str_cons (c : UInt8) (o : ByteArray) : str [c] ++ o = str (c :: bytes o) := by
  conv => lhs; rw [← str_bytes o]
  rw [str_append]; rfl
theorem max_mod_pos (u : Nat) : max ((u : Int) % 10) (-((u : Int) % 10)) = ((u % 10 : Nat) : Int) := by omega
theorem max_mod_neg (u : Nat) : max (-((u : Int) % 10)) ((u : Int) % 10) = ((u % 10 : Nat) : Int) := by omega

theorem whole_text (u : Nat) (o : ByteArray) (l : List UInt8) (hu : u ≠ 0) (h : fz u ++ bytes o = l) : fz (u / 10) ++ bytes (str [digitC (u % 10)] ++ o) = l := by
  rw [str_cons, bytes_str, ← h, fz_step hu, List.append_assoc]; rfl

set_option maxHeartbeats 2000000 in
theorem whole_pos (n : Nat) (w : World) (h0 : 0 < n) (h1 : n < 9223372036854775808) :
    Calls Tryz.prog 26 #[.int .i64 n] w fun e w' => e = .returned (.string (str (Lib.decDigits n))) ∧ w' = w := by
  have t0 : ((n : Int) == 0) = false := by rw [beq_eq_false_iff_ne]; omega
  have hl := decDigits_length_le n 19 (by decide) (by omega)
  generalize hL : Lib.decDigits n = L at *
  obtain ⟨R, hR⟩ : ∃ R, R = str L := ⟨_, rfl⟩
  rw [← hR]
  have HL := Lib.hid hL; have HR := Lib.hid hR; clear hL hR
  go_enter Tryz.func26, Tryz.ntmps26
  go_wp2_with fail
  go_loop [3, 4] (fun sv mv => ∃ (u : Nat) (o : ByteArray), u ≤ n ∧ mv = .int .i64 u ∧ sv = .string o ∧ fz u ++ bytes o = L) (fun _ mv => (intOf mv).toNat)
  case atStart => exact ⟨n, _, Nat.le_refl _, rfl, rfl, by unfold fz; rw [if_neg (by omega), HL.out]; simp [bytes]⟩
  case round =>
    obtain ⟨u, o, hu, rfl, rfl, hd⟩ := hrel
    have ho : o.size ≤ 19 := by have := congrArg List.length hd; rw [List.length_append, bytes_length] at this; omega
    have HD := Lib.hid hd; clear hd
    by_cases hu0 : u = 0
    · subst hu0
      have he : o = R := by rw [HR.out, ← str_bytes o, ← HD.out]; rfl
      subst he
      clear HD HR
      go_wp2
      go_ret
      exact ⟨rfl, rfl⟩
    · have hu1 : ((u : Int) != 0) = true := by simp; omega
      have hu2 : 0 < u := by omega
      have hm := max_mod_pos u
      have hlt : u % 10 < 10 := Nat.mod_lt _ (by decide)
      have hx := ten_at (u % 10) hlt
      have HN := Lib.hid (whole_text u o L hu0 HD.out)
      clear hu0
      generalize hdd : u % 10 = d at *
      have HDD := Lib.hid hdd; clear hdd
      have hs : (str [digitC d]).size = 1 := rfl
      go_wp2
      go_round
      case rel => exact ⟨u / 10, _, by omega, by go_num, rfl, HN.out⟩
      case measure => simp [intOf]; omega
set_option maxHeartbeats 2000000 in
theorem whole_neg (n : Nat) (w : World) (h0 : 0 < n) (h1 : n ≤ 9223372036854775808) :
    Calls Tryz.prog 26 #[.int .i64 (-(n : Int))] w fun e w' => e = .returned (.string (str (45 :: Lib.decDigits n))) ∧ w' = w := by
  have t0 : ((-(n : Int)) == 0) = false := by rw [beq_eq_false_iff_ne]; omega
  have hl := decDigits_length_le n 19 (by decide) (by omega)
  generalize hL : Lib.decDigits n = L at *
  obtain ⟨R, hR⟩ : ∃ R, R = str (45 :: L) := ⟨_, rfl⟩
  rw [← hR]
  have HL := Lib.hid hL; have HR := Lib.hid hR; clear hL hR
  go_enter Tryz.func26, Tryz.ntmps26
  go_wp2_with fail
  go_loop [3, 4] (fun sv mv => ∃ (u : Nat) (o : ByteArray), u ≤ n ∧ mv = .int .i64 (-(u : Int)) ∧ sv = .string o ∧ fz u ++ bytes o = L) (fun _ mv => (-(intOf mv)).toNat)
  case atStart => exact ⟨n, _, Nat.le_refl _, rfl, rfl, by unfold fz; rw [if_neg (by omega), HL.out]; simp [bytes]⟩
  case round =>
    obtain ⟨u, o, hu, rfl, rfl, hd⟩ := hrel
    have ho : o.size ≤ 19 := by have := congrArg List.length hd; rw [List.length_append, bytes_length] at this; omega
    have HD := Lib.hid hd; clear hd
    by_cases hu0 : u = 0
    · subst hu0
      have he : ⟨#[45]⟩ ++ o = R := by
        have := str_cons 45 o
        rw [HR.out, ← HD.out]
        exact this
      have HE := Lib.hid he; clear HD HR he
      go_wp2
      go_ret
      exact ⟨by rw [← HE.out]; rfl, rfl⟩
    · have hu1 : ((-(u : Int)) != 0) = true := by simp; omega
      have hu2 : 0 < u := by omega
      have hm := max_mod_neg u
      have hlt : u % 10 < 10 := Nat.mod_lt _ (by decide)
      have hx := ten_at (u % 10) hlt
      have HN := Lib.hid (whole_text u o L hu0 HD.out)
      clear hu0
      generalize hdd : u % 10 = d at *
      have HDD := Lib.hid hdd; clear hdd
      have hs : (str [digitC d]).size = 1 := rfl
      go_wp2
      go_round
      case rel => exact ⟨u / 10, _, by omega, by go_num, rfl, HN.out⟩
      case measure => simp [intOf]; omega

theorem whole_any (n : Int) (w : World) (h0 : -9223372036854775808 ≤ n) (h1 : n ≤ 9223372036854775807) :
    Calls Tryz.prog 26 #[.int .i64 n] w fun e w' => e = .returned (.string (str (Lib.itoa n))) ∧ w' = w := by
  rcases Int.lt_trichotomy n 0 with h | h | h
  · obtain ⟨m, hm⟩ : ∃ m : Nat, m = n.natAbs := ⟨_, rfl⟩
    have e : n = -(m : Int) := by omega
    rw [itoa_neg h, ← hm, e]
    exact whole_neg m w (by omega) (by omega)
  · subst h
    have hz : str (Lib.itoa 0) = ⟨#[48]⟩ := by rw [itoa_nonneg (by omega)]; show str (Lib.decDigits 0) = _; rw [dec0']; rfl
    rw [hz]
    go_enter Tryz.func26, Tryz.ntmps26
    go_wp2
    go_ret
    exact ⟨rfl, rfl⟩
  · obtain ⟨m, hm⟩ : ∃ m : Nat, m = n.natAbs := ⟨_, rfl⟩
    have e : n = (m : Int) := by omega
    rw [itoa_nonneg (by omega), ← hm, e]
    exact whole_pos m w (by omega) (by omega)

end Go.Proofs.YtipnnmbjkpidoaaGreatDoor

/-
  The reference: Sign, Magnitude, Negated, short.
-/
namespace Go.Proofs.YtipnnmbjkpidoaaGreatDoor
open Go Go.Proofs Go.RowKit

theorem Str.pos {s : ByteArray} {x : Int} (h : Str s x) : 0 < s.size := by
  rcases Nat.eq_zero_or_pos s.size with h0 | h0
  · exfalso
    have h1 : bytes s = [] := List.length_eq_zero_iff.1 h0
    have h2 := canonB_itoa x
    rw [← h.text, h1] at h2
    exact absurd h2 (by decide)
  · exact h0
theorem Str.first {s : ByteArray} {x : Int} (h : Str s x) : decide (byteAt s 0 = 45) = decide (x < 0) := by
  rw [← negB_itoa x, ← h.text]
  have hp := h.pos
  have hl : (bytes s).length = s.size := rfl
  match hb : bytes s, hl with
  | [], hl => simp at hl; omega
  | c :: t, hl =>
    have e0 := byte0 hb
    rw [e0]
    unfold negB Lib.hasPrefix
    rw [Bool.eq_iff_iff, decide_eq_true_eq]
    simp only [List.isPrefixOf, Bool.and_true, beq_iff_eq]
    exact ⟨fun h => (UInt8.toNat_inj.1 (by rw [h]; rfl)).symm, fun h => by rw [← h]; rfl⟩

theorem refSign_any (s : ByteArray) (x : Int) (w : World) (hs : Str s x) :
    Calls Tryz.prog 27 #[.string s] w fun e w' => e = .returned (.int .i64 (cmpI x 0)) ∧ w' = w := by
  by_cases h0 : x = 0
  · subst h0
    have hz : s = ⟨#[48]⟩ := by have h1 := lit_str hs; have h2 := lit_str str_zero; exact h1.symm.trans h2
    subst hz
    clear hs
    go_enter Tryz.func27, Tryz.ntmps27
    go_wp2
    go_ret
    exact ⟨rfl, rfl⟩
  · have hd := eq48 s (hs.ne_zero h0)
    have C := fun W => negative_any s W hs.pos
    rw [hs.first] at C
    by_cases hx : x < 0
    · rw [decide_eq_true hx] at C
      have hc : cmpI x 0 = -1 := by unfold cmpI; rw [if_pos hx]
      rw [hc]
      have KC := Lib.hid C; clear C hs h0 hx hc
      go_enter Tryz.func27, Tryz.ntmps27
      go_wp2_with (go_at_call 72; refine (KC.out _).mono ?_; rintro e w1 ⟨rfl, h⟩; subst h; refine Hid.out ?_)
      refine Lib.hid ?_
      go_wp2
      go_ret
      exact ⟨rfl, rfl⟩
    · rw [decide_eq_false hx] at C
      have hc : cmpI x 0 = 1 := by unfold cmpI; rw [if_neg hx, if_neg h0]
      rw [hc]
      have KC := Lib.hid C; clear C hs h0 hx hc
      go_enter Tryz.func27, Tryz.ntmps27
      go_wp2_with (go_at_call 72; refine (KC.out _).mono ?_; rintro e w1 ⟨rfl, h⟩; subst h; refine Hid.out ?_)
      refine Lib.hid ?_
      go_wp2
      go_ret
      exact ⟨rfl, rfl⟩

theorem tail_str {s : ByteArray} {x : Int} (hs : Str s x) (hx : x < 0) : s.extract 1 s.size = str (Lib.decDigits x.natAbs) := by
  have h := hs.text
  rw [itoa_neg hx] at h
  apply ByteArray.ext
  apply Array.ext'
  rw [ByteArray.data_extract, Array.toList_extract]
  have hl : s.size = (bytes s).length := rfl
  rw [hl]
  unfold bytes at *
  rw [h]
  simp [str, List.extract]

theorem refMagnitude_any (s : ByteArray) (x : Int) (w : World) (hs : Str s x) :
    Calls Tryz.prog 29 #[.string s] w fun e w' => e = .returned (.string (str (Lib.itoa (x.natAbs : Int)))) ∧ w' = w := by
  have C := fun W => negative_any s W hs.pos
  rw [hs.first] at C
  have hp := hs.pos
  have hsz := hs.size
  by_cases hx : x < 0
  · rw [decide_eq_true hx] at C
    have KC := Lib.hid C; have HS := Lib.hid hs; clear C hs
    go_enter Tryz.func29, Tryz.ntmps29
    go_wp2_with (go_at_call 72; refine (KC.out _).mono ?_; rintro e w1 ⟨rfl, h⟩; subst h; refine Hid.out ?_)
    refine Lib.hid ?_
    go_wp2
    go_ret
    refine ⟨?_, rfl⟩
    show Ending.returned (.string (s.extract 1 s.size)) = _
    rw [tail_str HS.out hx, itoa_nonneg (by omega), Int.natAbs_natCast]
  · rw [decide_eq_false hx] at C
    have e : str (Lib.itoa (x.natAbs : Int)) = s := by rw [show (x.natAbs : Int) = x by omega]; exact lit_str hs
    rw [e]
    have KC := Lib.hid C; clear C hs e hx
    go_enter Tryz.func29, Tryz.ntmps29
    go_wp2_with (go_at_call 72; refine (KC.out _).mono ?_; rintro e w1 ⟨rfl, h⟩; subst h; refine Hid.out ?_)
    refine Lib.hid ?_
    go_wp2
    go_ret
    exact ⟨rfl, rfl⟩

theorem refNegated_any (s : ByteArray) (x : Int) (w : World) (hs : Str s x) :
    Calls Tryz.prog 28 #[.string s] w fun e w' => e = .returned (.string (str (Lib.itoa (-x)))) ∧ w' = w := by
  have hp := hs.pos
  have hsz := hs.size
  by_cases h0 : x = 0
  · subst h0
    have hz : s = ⟨#[48]⟩ := by have h1 := lit_str hs; have h2 := lit_str str_zero; exact h1.symm.trans h2
    subst hz
    have e : str (Lib.itoa (-0)) = ⟨#[48]⟩ := lit_str str_zero
    rw [e]
    clear hs e
    go_enter Tryz.func28, Tryz.ntmps28
    go_wp2
    go_ret
    exact ⟨rfl, rfl⟩
  · have hd := eq48 s (hs.ne_zero h0)
    have C := fun W => negative_any s W hs.pos
    rw [hs.first] at C
    by_cases hx : x < 0
    · rw [decide_eq_true hx] at C
      have KC := Lib.hid C; have HS := Lib.hid hs; clear C hs
      go_enter Tryz.func28, Tryz.ntmps28
      go_wp2_with (go_at_call 72; refine (KC.out _).mono ?_; rintro e w1 ⟨rfl, h⟩; subst h; refine Hid.out ?_)
      refine Lib.hid ?_
      go_wp2
      go_ret
      refine ⟨?_, rfl⟩
      show Ending.returned (.string (s.extract 1 s.size)) = _
      rw [tail_str HS.out hx, itoa_nonneg (by omega), Int.natAbs_neg]
    · rw [decide_eq_false hx] at C
      have e1 : str (Lib.itoa (-x)) = ⟨#[45]⟩ ++ s := by
        have h := hs.text
        rw [itoa_nonneg hx] at h
        rw [itoa_neg (by omega), Int.natAbs_neg, ← h]
        apply ByteArray.ext
        apply Array.ext'
        simp [str, bytes]
      rw [e1]
      have KC := Lib.hid C; clear C hs hx e1 h0
      go_enter Tryz.func28, Tryz.ntmps28
      go_wp2_with (go_at_call 72; refine (KC.out _).mono ?_; rintro e w1 ⟨rfl, h⟩; subst h; refine Hid.out ?_)
      refine Lib.hid ?_
      go_wp2
      go_ret
      exact ⟨rfl, rfl⟩

theorem short_any (s : ByteArray) (n : Nat) (hn : n ≤ 1000000) (x : Int) (w : World) (hs : Str s x) :
    Calls Tryz.prog 111 #[.string s, .int .i64 n] w fun e w' => e = .returned (.bool (decide ((Lib.decDigits x.natAbs).length ≤ n))) ∧ w' = w := by
  have hsz := hs.size
  have C := fun W => refDigits_any s W hs.pos (by omega)
  rw [hs.text, digL_itoa] at C
  have hl := hs.len
  generalize (Lib.decDigits x.natAbs).length = m at *
  have KC := Lib.hid C; clear C hs
  go_enter Tryz.func111, Tryz.ntmps111
  go_wp2_with (go_at_call 50; refine (KC.out _).mono ?_; rintro e w1 ⟨rfl, h⟩; subst h; refine Hid.out ?_)
  refine Lib.hid ?_
  go_wp2
  go_ret
  exact ⟨ret_bool (by simp), rfl⟩
end Go.Proofs.YtipnnmbjkpidoaaGreatDoor

/-
  The reference: number, short, Int, Small, Negated, Magnitude at any notation.
-/
namespace Go.Proofs.YtipnnmbjkpidoaaGreatDoor
open Go Go.Proofs Go.RowKit

/-- The value of the digits before place k. -/
def nv (s : ByteArray) (p k : Nat) : Nat := dec (((bytes s).take k).drop p)
theorem nv_low (s : ByteArray) {p k : Nat} (h : k ≤ p) : nv s p k = 0 := by
  unfold nv
  rw [List.drop_of_length_le (by rw [List.length_take]; omega)]; rfl
theorem nv_step (s : ByteArray) {p k : Nat} (h : p ≤ k) (hk : k < s.size) : nv s p (k + 1) = 10 * nv s p k + (byteAt s k - 48) := by
  unfold nv byteAt
  have h' : k < (bytes s).length := hk
  rw [List.take_succ_eq_append_getElem h', List.drop_append_of_le_length (by rw [List.length_take]; omega), dec_snoc]
  simp [List.getD_eq_getElem?_getD, List.getElem?_eq_getElem h']
theorem nv_end (s : ByteArray) (p : Nat) : nv s p s.size = dec ((bytes s).drop p) := by
  unfold nv
  rw [List.take_of_length_le (by rw [bytes_length]; exact Nat.le_refl _)]
theorem nv_lt (s : ByteArray) {p k : Nat} (hd : ∀ j, p ≤ j → j < s.size → 48 ≤ byteAt s j ∧ byteAt s j ≤ 57) (hk : k ≤ s.size) (h17 : k ≤ p + 17) : nv s p k < 100000000000000000 := by
  induction k generalizing p with
  | zero => rw [nv_low s (by omega)]; decide
  | succ k ih =>
    unfold nv
    refine Nat.lt_of_lt_of_le (dec_lt ?_) (show 10 ^ _ ≤ _ from Nat.le_trans (Nat.pow_le_pow_right (by decide) (show _ ≤ 17 by rw [List.length_drop, List.length_take]; omega)) (by decide))
    intro c hc
    obtain ⟨i, hi, rfl⟩ := List.mem_iff_getElem.1 hc
    rw [List.length_drop, List.length_take, bytes_length] at hi
    have h2 := hd (p + i) (by omega) (by omega)
    rw [List.getElem_drop, List.getElem_take]
    exact (isDig_byte s (p + i) (by omega)).trans (by simp [h2.1, h2.2])

set_option maxHeartbeats 2000000 in
theorem number_any (s : ByteArray) (z : Int) (w : World) (h : bytes s = Lib.itoa z) (hlen : (Lib.decDigits z.natAbs).length ≤ 18) :
    Calls Tryz.prog 112 #[.string s] w fun e w' => e = .returned (.int .i64 z) ∧ w' = w := by
  have hdig := txt_dig h
  have hsz := txt_len h
  have h0 := txt_size h
  have hng := txt_neg h
  have CN := fun W => negative_any s W h0
  have hend := nv_end s (if z < 0 then 1 else 0)
  rw [txt_drop h, dec_decDigits] at hend
  rw [hng] at CN
  have hz : z.natAbs < 1000000000000000000 := by
    have h1 := dec_lt (allDig_decDigits z.natAbs)
    rw [dec_decDigits] at h1
    exact Nat.lt_of_lt_of_le h1 (Nat.le_trans (Nat.pow_le_pow_right (by decide) hlen) (by decide))
  obtain ⟨p, hp⟩ : ∃ p : Nat, p = if z < 0 then 1 else 0 := ⟨_, rfl⟩
  rw [← hp] at hdig hsz hend
  have h45 : z < 0 → byteAt s 0 = 45 := fun a => by rw [decide_eq_true a, decide_eq_true_eq] at hng; exact hng
  have hp1 : p ≤ 1 := by rw [hp]; split <;> omega
  have hp2 : p = 1 → byteAt s 0 = 45 := fun a => h45 (by rw [hp] at a; by_cases hz : z < 0; exact hz; rw [if_neg hz] at a; cases a)
  have hs18 : s.size ≤ p + 18 := by omega
  have hlt : ∀ k, k < s.size → nv s p k < 100000000000000000 := fun k hk => nv_lt s hdig (by omega) (by omega)
  have hst : ∀ k, p ≤ k → k < s.size → nv s p (k + 1) = 10 * nv s p k + (byteAt s k - 48) := fun k a b => nv_step s a b
  have hlo : ∀ k, k ≤ p → nv s p k = 0 := fun k a => nv_low s a
  have H1 := Lib.hid hdig; have H2 := Lib.hid hend; have H3 := Lib.hid hlt; have H4 := Lib.hid hst; have H5 := Lib.hid hlo; have H6 := Lib.hid hp2; have KC := Lib.hid CN; have HP := Lib.hid hp
  clear hdig hend hlt hst hlo hp2 CN h45 hng hp h hlen hsz
  go_enter Tryz.func112, Tryz.ntmps112
  go_wp2_with fail
  go_loop [3, 4] (fun nvv iv => ∃ k : Nat, k ≤ s.size ∧ iv = .int .i64 k ∧ nvv = .int .i64 (nv s p k : Nat)) (fun _ iv => s.size - (intOf iv).toNat)
  case atStart => exact ⟨0, Nat.zero_le _, rfl, by rw [H5.out 0 (Nat.zero_le _)]; rfl⟩
  case round =>
    obtain ⟨k, hk, rfl, rfl⟩ := hrel
    by_cases hks : k < s.size
    · have gk := byteAt_get s k hks
      by_cases hkp : k < p
      · have hk0 : k = 0 := by omega
        have hp1' : p = 1 := by omega
        subst hk0
        have hb := H6.out hp1'
        rw [hb] at gk
        have e1 := H5.out 0 (Nat.zero_le _)
        have e2 := H5.out 1 (by omega)
        have E1 := Lib.hid (e1.trans e2.symm)
        clear e1 e2 hb hkp hp1'
        generalize nv s p 0 = q at *
        go_wp2
        go_round
        case rel => exact ⟨1, by omega, rfl, by rw [E1.out]⟩
        case measure => simp [intOf]; omega
      · obtain ⟨hd1, hd2⟩ := H1.out k (by omega) hks
        have hst := H4.out k (by omega) hks
        have hl := H3.out k hks
        have HST := Lib.hid hst; clear hst
        generalize nv s p k = q at *
        generalize byteAt s k = b at *
        have hneq : ((b : Int) != 45) = true := by simp; omega
        go_wp2
        go_round
        case rel => exact ⟨k + 1, by omega, by go_num, by rw [HST.out]; go_num⟩
        case measure => simp [intOf]; omega
    · have hkn : k = s.size := by omega
      subst hkn
      have he := H2.out
      generalize nv s p s.size = q at *
      subst he
      by_cases hz0 : z < 0
      · rw [decide_eq_true hz0] at KC
        obtain ⟨m, hm⟩ : ∃ m : Nat, m = z.natAbs := ⟨_, rfl⟩
        have hzm : z = -(m : Int) := by omega
        rw [← hm] at hz ⊢
        have HZ := Lib.hid hzm; clear hzm hm hz0
        go_wp2_with (go_at_call 72; refine (KC.out _).mono ?_; rintro e w1 ⟨rfl, h⟩; subst h; refine Hid.out ?_)
        refine Lib.hid ?_
        go_wp2
        go_ret
        exact ⟨ret_int HZ.out.symm, rfl⟩
      · rw [decide_eq_false hz0] at KC
        obtain ⟨m, hm⟩ : ∃ m : Nat, m = z.natAbs := ⟨_, rfl⟩
        have hzm : z = (m : Int) := by omega
        rw [← hm] at hz ⊢
        have HZ := Lib.hid hzm; clear hzm hm hz0
        go_wp2_with (go_at_call 72; refine (KC.out _).mono ?_; rintro e w1 ⟨rfl, h⟩; subst h; refine Hid.out ?_)
        refine Lib.hid ?_
        go_wp2
        go_ret
        exact ⟨ret_int HZ.out.symm, rfl⟩

theorem shortT (s : ByteArray) (z : Int) (n : Nat) (w : World) (h : bytes s = Lib.itoa z) (hs : s.size ≤ 1000000000000) (_hn : n ≤ 1000000) :
    Calls Tryz.prog 111 #[.string s, .int .i64 n] w fun e w' => e = .returned (.bool (decide ((Lib.decDigits z.natAbs).length ≤ n))) ∧ w' = w := by
  have C := fun W => refDigits_any s W (txt_size h) (by omega)
  rw [h, digL_itoa] at C
  generalize (Lib.decDigits z.natAbs).length = d at *
  have KC := Lib.hid C; clear C
  go_enter Tryz.func111, Tryz.ntmps111
  go_wp2_with (go_at_call 50; refine (KC.out _).mono ?_; rintro e w1 ⟨rfl, h⟩; subst h; refine Hid.out ?_)
  refine Lib.hid ?_
  go_wp2
  go_ret
  first | exact ⟨rfl, rfl⟩ | exact ⟨ret_bool (by rw [Bool.eq_iff_iff]; simp), rfl⟩

/-- What Int returns. -/
def intV (z : Int) : Value := if 1048576 < z.natAbs then .tuple #[.int .i64 0, .bool false] else .tuple #[.int .i64 z, .bool true]

set_option maxHeartbeats 1000000 in
theorem refInt_any (s : ByteArray) (z : Int) (w : World) (h : bytes s = Lib.itoa z) (hs : s.size ≤ 1000000000000) :
    Calls Tryz.prog 69 #[.string s] w fun e w' => e = .returned (intV z) ∧ w' = w := by
  have C1 := fun W => shortT s z 17 W h hs (by decide)
  have C2 : (Lib.decDigits z.natAbs).length ≤ 17 → ∀ W, Calls Tryz.prog 112 #[.string s] W fun e w' => e = .returned (.int .i64 z) ∧ w' = W := fun hl W => number_any s z W h (by omega)
  have hbig : ¬ (Lib.decDigits z.natAbs).length ≤ 17 → 1048576 < z.natAbs := fun hl => by
    refine Nat.lt_of_not_le fun hle => hl ?_
    exact decDigits_length_le z.natAbs 17 (by decide) (by omega)
  unfold intV
  by_cases hl : (Lib.decDigits z.natAbs).length ≤ 17
  · have C2' := C2 hl
    rw [decide_eq_true hl] at C1
    have hz : z.natAbs < 100000000000000000 := by
      have h1 := dec_lt (allDig_decDigits z.natAbs)
      rw [dec_decDigits] at h1
      exact Nat.lt_of_lt_of_le h1 (Nat.le_trans (Nat.pow_le_pow_right (by decide) hl) (by decide))
    have K1 := Lib.hid C1; have K2 := Lib.hid C2'; clear C1 C2 C2' hbig hl h hs
    by_cases hb : 1048576 < z.natAbs
    · rw [if_pos hb]
      by_cases hp : 1048576 < z
      · clear hb
        go_enter Tryz.func69, Tryz.ntmps69
        go_wp2_with (go_at_call 111; refine (K1.out _).mono ?_; rintro e w1 ⟨rfl, h⟩; subst h; refine Hid.out ?_)
        refine Lib.hid ?_
        go_wp2_with (go_at_call 112; refine (K2.out _).mono ?_; rintro e w1 ⟨rfl, h⟩; subst h; refine Hid.out ?_)
        refine Lib.hid ?_
        go_wp2
        refine bodyPost_ret (by simp [results, Tryz.results69, go_sem]; rfl) rfl ?_
        exact ⟨rfl, rfl⟩
      · have hn : z < -1048576 := by omega
        clear hb
        go_enter Tryz.func69, Tryz.ntmps69
        go_wp2_with (go_at_call 111; refine (K1.out _).mono ?_; rintro e w1 ⟨rfl, h⟩; subst h; refine Hid.out ?_)
        refine Lib.hid ?_
        go_wp2_with (go_at_call 112; refine (K2.out _).mono ?_; rintro e w1 ⟨rfl, h⟩; subst h; refine Hid.out ?_)
        refine Lib.hid ?_
        go_wp2
        refine bodyPost_ret (by simp [results, Tryz.results69, go_sem]; rfl) rfl ?_
        exact ⟨rfl, rfl⟩
    · rw [if_neg hb]
      have hp : ¬ 1048576 < z := by omega
      have hn : ¬ z < -1048576 := by omega
      clear hb
      go_enter Tryz.func69, Tryz.ntmps69
      go_wp2_with (go_at_call 111; refine (K1.out _).mono ?_; rintro e w1 ⟨rfl, h⟩; subst h; refine Hid.out ?_)
      refine Lib.hid ?_
      go_wp2_with (go_at_call 112; refine (K2.out _).mono ?_; rintro e w1 ⟨rfl, h⟩; subst h; refine Hid.out ?_)
      refine Lib.hid ?_
      go_wp2
      refine bodyPost_ret (by simp [results, Tryz.results69, go_sem]; rfl) rfl ?_
      exact ⟨rfl, rfl⟩
  · rw [decide_eq_false hl] at C1
    rw [if_pos (hbig hl)]
    have K1 := Lib.hid C1; clear C1 C2 hbig hl h hs
    go_enter Tryz.func69, Tryz.ntmps69
    go_wp2_with (go_at_call 111; refine (K1.out _).mono ?_; rintro e w1 ⟨rfl, h⟩; subst h; refine Hid.out ?_)
    refine Lib.hid ?_
    go_wp2
    refine bodyPost_ret (by simp [results, Tryz.results69, go_sem]; rfl) rfl ?_
    exact ⟨rfl, rfl⟩

/-- What Small returns. -/
def smallV (l : List UInt8) : Value := if errOf l = 0 then (if 1048576 < (valZ l).natAbs then .tuple #[.int .i64 0, .int .i64 2] else .tuple #[.int .i64 (valZ l), .int .i64 0]) else .tuple #[.int .i64 0, .int .i64 (errOf l : Nat)]

set_option maxHeartbeats 1000000 in
theorem refSmall_any (s : ByteArray) (w : World) (hs : s.size ≤ 1000000000000) :
    Calls Tryz.prog 23 #[.string s] w fun e w' => e = .returned (smallV (bytes s)) ∧ w' = w := by
  have C1 := fun W => refCheck_any s W (by omega)
  have C2 : errOf (bytes s) = 0 → ∀ W, Calls Tryz.prog 69 #[.string s] W fun e w' => e = .returned (intV (valZ (bytes s))) ∧ w' = W := fun he W => refInt_any s _ W (txt_of_canon (canon_of_err he)) hs
  have hc := errOf_cases (bytes s)
  unfold smallV
  unfold intV at C2
  generalize errOf (bytes s) = c at *
  generalize valZ (bytes s) = z at *
  have K1 := Lib.hid C1; clear C1
  rcases hc with rfl | rfl | rfl
  · have C2' := C2 rfl
    clear C2
    rw [if_pos rfl]
    by_cases hb : 1048576 < z.natAbs
    · rw [if_pos hb] at C2' ⊢
      have K2 := Lib.hid C2'; clear C2' hb
      go_enter Tryz.func23, Tryz.ntmps23
      go_wp2_with (go_at_call 18; refine (K1.out _).mono ?_; rintro e w1 ⟨rfl, h⟩; subst h; refine Hid.out ?_)
      refine Lib.hid ?_
      go_wp2_with (go_at_call 69; refine (K2.out _).mono ?_; rintro e w1 ⟨rfl, h⟩; subst h; refine Hid.out ?_)
      refine Lib.hid ?_
      go_wp2
      refine bodyPost_ret (by simp [results, Tryz.results23, go_sem]; rfl) rfl ?_
      exact ⟨rfl, rfl⟩
    · rw [if_neg hb] at C2' ⊢
      have K2 := Lib.hid C2'; clear C2' hb
      go_enter Tryz.func23, Tryz.ntmps23
      go_wp2_with (go_at_call 18; refine (K1.out _).mono ?_; rintro e w1 ⟨rfl, h⟩; subst h; refine Hid.out ?_)
      refine Lib.hid ?_
      go_wp2_with (go_at_call 69; refine (K2.out _).mono ?_; rintro e w1 ⟨rfl, h⟩; subst h; refine Hid.out ?_)
      refine Lib.hid ?_
      go_wp2
      refine bodyPost_ret (by simp [results, Tryz.results23, go_sem]; rfl) rfl ?_
      exact ⟨rfl, rfl⟩
  all_goals
    rw [if_neg (by decide)]
    clear C2
    go_enter Tryz.func23, Tryz.ntmps23
    go_wp2_with (go_at_call 18; refine (K1.out _).mono ?_; rintro e w1 ⟨rfl, h⟩; subst h; refine Hid.out ?_)
    refine Lib.hid ?_
    go_wp2
    refine bodyPost_ret (by simp [results, Tryz.results23, go_sem]; rfl) rfl ?_
    exact ⟨rfl, rfl⟩

end Go.Proofs.YtipnnmbjkpidoaaGreatDoor
