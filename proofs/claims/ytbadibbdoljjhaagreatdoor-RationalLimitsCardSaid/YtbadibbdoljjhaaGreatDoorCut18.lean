import Derived.Test.YtbadibbdoljjhaaGreatDoorCut17
import Derived.Test.YtbadibbdoljjhaaGreatDoorCut14

set_option linter.unusedVariables false
/-
  The reference: Whole.
-/
namespace Go.Proofs.YtbadibbdoljjhaaGreatDoor
open Go Go.Proofs Go.RowKit

def fz (u : Nat) : List UInt8 := if u = 0 then [] else Lib.decDigits u
theorem fz_step {u : Nat} (h : u ≠ 0) : fz u = fz (u / 10) ++ [UInt8.ofNat (48 + u % 10)] := by
  unfold fz
  rw [if_neg h]
  by_cases h1 : u < 10
  · rw [if_pos (by omega), Lib.decDigits, dif_pos h1, Nat.mod_eq_of_lt h1]; rfl
  · rw [if_neg (by omega)]
    conv => lhs; rw [Lib.decDigits, dif_neg h1]
/-- The digit of a number below ten. -/
def digitC (d : Nat) : UInt8 := UInt8.ofNat (48 + d)
theorem ten_at : ∀ d, d < 10 → (⟨#[48, 49, 50, 51, 52, 53, 54, 55, 56, 57]⟩ : ByteArray).extract d (d + 1) = str [digitC d] := by decide +kernel
theorem str_append (a b : List UInt8) : str a ++ str b = str (a ++ b) := by
  apply ByteArray.ext; apply Array.ext'; simp [str]
theorem str_cons (c : UInt8) (o : ByteArray) : str [c] ++ o = str (c :: bytes o) := by
  conv => lhs; rw [← str_bytes o]
  rw [str_append]; rfl
theorem max_mod_pos (u : Nat) : max ((u : Int) % 10) (-((u : Int) % 10)) = ((u % 10 : Nat) : Int) := by omega
theorem max_mod_neg (u : Nat) : max (-((u : Int) % 10)) ((u : Int) % 10) = ((u % 10 : Nat) : Int) := by omega

theorem whole_text (u : Nat) (o : ByteArray) (l : List UInt8) (hu : u ≠ 0) (h : fz u ++ bytes o = l) : fz (u / 10) ++ bytes (str [digitC (u % 10)] ++ o) = l := by
  rw [str_cons, bytes_str, ← h, fz_step hu, List.append_assoc]; rfl

set_option maxHeartbeats 2000000 in
theorem whole_pos (n : Nat) (w : World) (h0 : 0 < n) (h1 : n < 9223372036854775808) :
    Calls Tryz.prog 141 #[.int .i64 n] w fun e w' => e = .returned (.string (str (Lib.decDigits n))) ∧ w' = w := by
  have t0 : ((n : Int) == 0) = false := by rw [beq_eq_false_iff_ne]; omega
  have hl := decDigits_length_le n 19 (by decide) (by omega)
  generalize hL : Lib.decDigits n = L at *
  obtain ⟨R, hR⟩ : ∃ R, R = str L := ⟨_, rfl⟩
  rw [← hR]
  have HL := Lib.hid hL; have HR := Lib.hid hR; clear hL hR
  go_enter Tryz.func141, Tryz.ntmps141
  go_wp2_with fail
  go_loop [3, 4] (fun sv mv => ∃ (u : Nat) (o : ByteArray), u ≤ n ∧ mv = .int .i64 u ∧ sv = .string o ∧ fz u ++ bytes o = L) (fun _ mv => (intOf mv).toNat)
  case atStart => exact ⟨n, _, Nat.le_refl _, rfl, rfl, by unfold fz; rw [if_neg (by omega), HL.out]; simp [bytes]⟩
  case round =>
    obtain ⟨u, o, hu, rfl, rfl, hd⟩ := hrel
    have ho : o.size ≤ 19 := by have := congrArg List.length hd; rw [List.length_append, bytes_length] at this; omega
    have HD := Lib.hid hd; clear hd
    by_cases hu0 : u = 0
    · subst hu0
      have he : o = R := by rw [HR.out, ← str_bytes o, ← HD.out]; rfl
      subst he
      clear HD HR
      go_wp2
      go_ret
      exact ⟨rfl, rfl⟩
    · have hu1 : ((u : Int) != 0) = true := by simp; omega
      have hu2 : 0 < u := by omega
      have hm := max_mod_pos u
      have hlt : u % 10 < 10 := Nat.mod_lt _ (by decide)
      have hx := ten_at (u % 10) hlt
      have HN := Lib.hid (whole_text u o L hu0 HD.out)
      clear hu0
      generalize hdd : u % 10 = d at *
      have HDD := Lib.hid hdd; clear hdd
      have hs : (str [digitC d]).size = 1 := rfl
      go_wp2
      go_round
      case rel => exact ⟨u / 10, _, by omega, by go_num, rfl, HN.out⟩
      case measure => simp [intOf]; omega
set_option maxHeartbeats 2000000 in
theorem whole_neg (n : Nat) (w : World) (h0 : 0 < n) (h1 : n ≤ 9223372036854775808) :
    Calls Tryz.prog 141 #[.int .i64 (-(n : Int))] w fun e w' => e = .returned (.string (str (45 :: Lib.decDigits n))) ∧ w' = w := by
  have t0 : ((-(n : Int)) == 0) = false := by rw [beq_eq_false_iff_ne]; omega
  have hl := decDigits_length_le n 19 (by decide) (by omega)
  generalize hL : Lib.decDigits n = L at *
  obtain ⟨R, hR⟩ : ∃ R, R = str (45 :: L) := ⟨_, rfl⟩
  rw [← hR]
  have HL := Lib.hid hL; have HR := Lib.hid hR; clear hL hR
  go_enter Tryz.func141, Tryz.ntmps141
  go_wp2_with fail
  go_loop [3, 4] (fun sv mv => ∃ (u : Nat) (o : ByteArray), u ≤ n ∧ mv = .int .i64 (-(u : Int)) ∧ sv = .string o ∧ fz u ++ bytes o = L) (fun _ mv => (-(intOf mv)).toNat)
  case atStart => exact ⟨n, _, Nat.le_refl _, rfl, rfl, by unfold fz; rw [if_neg (by omega), HL.out]; simp [bytes]⟩
  case round =>
    obtain ⟨u, o, hu, rfl, rfl, hd⟩ := hrel
    have ho : o.size ≤ 19 := by have := congrArg List.length hd; rw [List.length_append, bytes_length] at this; omega
    have HD := Lib.hid hd; clear hd
    by_cases hu0 : u = 0
    · subst hu0
      have he : ⟨#[45]⟩ ++ o = R := by
        have := str_cons 45 o
        rw [HR.out, ← HD.out]
        exact this
      have HE := Lib.hid he; clear HD HR he
      go_wp2
      go_ret
      exact ⟨by rw [← HE.out]; rfl, rfl⟩
    · have hu1 : ((-(u : Int)) != 0) = true := by simp; omega
      have hu2 : 0 < u := by omega
      have hm := max_mod_neg u
      have hlt : u % 10 < 10 := Nat.mod_lt _ (by decide)
      have hx := ten_at (u % 10) hlt
      have HN := Lib.hid (whole_text u o L hu0 HD.out)
      clear hu0
      generalize hdd : u % 10 = d at *
      have HDD := Lib.hid hdd; clear hdd
      have hs : (str [digitC d]).size = 1 := rfl
      go_wp2
      go_round
      case rel => exact ⟨u / 10, _, by omega, by go_num, rfl, HN.out⟩
      case measure => simp [intOf]; omega

theorem whole_any (n : Int) (w : World) (h0 : -9223372036854775808 ≤ n) (h1 : n ≤ 9223372036854775807) :
    Calls Tryz.prog 141 #[.int .i64 n] w fun e w' => e = .returned (.string (str (Lib.itoa n))) ∧ w' = w := by
  rcases Int.lt_trichotomy n 0 with h | h | h
  · obtain ⟨m, hm⟩ : ∃ m : Nat, m = n.natAbs := ⟨_, rfl⟩
    have e : n = -(m : Int) := by omega
    rw [itoa_neg h, ← hm, e]
    exact whole_neg m w (by omega) (by omega)
  · subst h
    have hz : str (Lib.itoa 0) = ⟨#[48]⟩ := by rw [itoa_nonneg (by omega)]; show str (Lib.decDigits 0) = _; rw [dec0']; rfl
    rw [hz]
    go_enter Tryz.func141, Tryz.ntmps141
    go_wp2
    go_ret
    exact ⟨rfl, rfl⟩
  · obtain ⟨m, hm⟩ : ∃ m : Nat, m = n.natAbs := ⟨_, rfl⟩
    have e : n = (m : Int) := by omega
    rw [itoa_nonneg (by omega), ← hm, e]
    exact whole_pos m w (by omega) (by omega)

end Go.Proofs.YtbadibbdoljjhaaGreatDoor

/-
  The laws' right.
-/
namespace Go.Proofs.YtbadibbdoljjhaaGreatDoor
open Go Go.Proofs Go.RowKit

/-- A string that Check passes is its integer's notation. -/
theorem str_of_err {s : ByteArray} (h : errOf (bytes s) = 0) : Str s (valZ (bytes s)) := by
  unfold errOf at h
  cases hc : canonB (bytes s)
  · rw [hc] at h; simp at h
  · rw [hc, if_pos rfl] at h
    refine str_lit hc rfl ?_
    by_cases hl : 4096 < (digL (bytes s)).length
    · rw [if_pos hl] at h; cases h
    · omega
end Go.Proofs.YtbadibbdoljjhaaGreatDoor

/-
  The reference: Sign, Magnitude, Negated, short.
-/
namespace Go.Proofs.YtbadibbdoljjhaaGreatDoor
open Go Go.Proofs Go.RowKit

theorem Str.pos {s : ByteArray} {x : Int} (h : Str s x) : 0 < s.size := by
  rcases Nat.eq_zero_or_pos s.size with h0 | h0
  · exfalso
    have h1 : bytes s = [] := List.length_eq_zero_iff.1 h0
    have h2 := canonB_itoa x
    rw [← h.text, h1] at h2
    exact absurd h2 (by decide)
  · exact h0
theorem Str.first {s : ByteArray} {x : Int} (h : Str s x) : decide (byteAt s 0 = 45) = decide (x < 0) := by
  rw [← negB_itoa x, ← h.text]
  have hp := h.pos
  have hl : (bytes s).length = s.size := rfl
  match hb : bytes s, hl with
  | [], hl => simp at hl; omega
  | c :: t, hl =>
    have e0 := byte0 hb
    rw [e0]
    unfold negB Lib.hasPrefix
    rw [Bool.eq_iff_iff, decide_eq_true_eq]
    simp only [List.isPrefixOf, Bool.and_true, beq_iff_eq]
    exact ⟨fun h => (UInt8.toNat_inj.1 (by rw [h]; rfl)).symm, fun h => by rw [← h]; rfl⟩

end Go.Proofs.YtbadibbdoljjhaaGreatDoor

/-
  The reference: number, short, Int, Small, Negated, Magnitude at any notation.
-/
namespace Go.Proofs.YtbadibbdoljjhaaGreatDoor
open Go Go.Proofs Go.RowKit

/-- The value of the digits before place k. -/
def nv (s : ByteArray) (p k : Nat) : Nat := dec (((bytes s).take k).drop p)
theorem nv_low (s : ByteArray) {p k : Nat} (h : k ≤ p) : nv s p k = 0 := by
  unfold nv
  rw [List.drop_of_length_le (by rw [List.length_take]; omega)]; rfl
theorem nv_step (s : ByteArray) {p k : Nat} (h : p ≤ k) (hk : k < s.size) : nv s p (k + 1) = 10 * nv s p k + (byteAt s k - 48) := by
  unfold nv byteAt
  have h' : k < (bytes s).length := hk
  rw [List.take_succ_eq_append_getElem h', List.drop_append_of_le_length (by rw [List.length_take]; omega), dec_snoc]
  simp [List.getD_eq_getElem?_getD, List.getElem?_eq_getElem h']
theorem nv_end (s : ByteArray) (p : Nat) : nv s p s.size = dec ((bytes s).drop p) := by
  unfold nv
  rw [List.take_of_length_le (by rw [bytes_length]; exact Nat.le_refl _)]
theorem nv_lt (s : ByteArray) {p k : Nat} (hd : ∀ j, p ≤ j → j < s.size → 48 ≤ byteAt s j ∧ byteAt s j ≤ 57) (hk : k ≤ s.size) (h17 : k ≤ p + 17) : nv s p k < 100000000000000000 := by
  induction k generalizing p with
  | zero => rw [nv_low s (by omega)]; decide
  | succ k ih =>
    unfold nv
    refine Nat.lt_of_lt_of_le (dec_lt ?_) (show 10 ^ _ ≤ _ from Nat.le_trans (Nat.pow_le_pow_right (by decide) (show _ ≤ 17 by rw [List.length_drop, List.length_take]; omega)) (by decide))
    intro c hc
    obtain ⟨i, hi, rfl⟩ := List.mem_iff_getElem.1 hc
    rw [List.length_drop, List.length_take, bytes_length] at hi
    have h2 := hd (p + i) (by omega) (by omega)
    rw [List.getElem_drop, List.getElem_take]
    exact (isDig_byte s (p + i) (by omega)).trans (by simp [h2.1, h2.2])

set_option maxHeartbeats 2000000 in
theorem number_any (s : ByteArray) (z : Int) (w : World) (h : bytes s = Lib.itoa z) (hlen : (Lib.decDigits z.natAbs).length ≤ 18) :
    Calls Tryz.prog 142 #[.string s] w fun e w' => e = .returned (.int .i64 z) ∧ w' = w := by
  have hdig := txt_dig h
  have hsz := txt_len h
  have h0 := txt_size h
  have hng := txt_neg h
  have CN := fun W => negative_any s W h0
  have hend := nv_end s (if z < 0 then 1 else 0)
  rw [txt_drop h, dec_decDigits] at hend
  rw [hng] at CN
  have hz : z.natAbs < 1000000000000000000 := by
    have h1 := dec_lt (allDig_decDigits z.natAbs)
    rw [dec_decDigits] at h1
    exact Nat.lt_of_lt_of_le h1 (Nat.le_trans (Nat.pow_le_pow_right (by decide) hlen) (by decide))
  obtain ⟨p, hp⟩ : ∃ p : Nat, p = if z < 0 then 1 else 0 := ⟨_, rfl⟩
  rw [← hp] at hdig hsz hend
  have h45 : z < 0 → byteAt s 0 = 45 := fun a => by rw [decide_eq_true a, decide_eq_true_eq] at hng; exact hng
  have hp1 : p ≤ 1 := by rw [hp]; split <;> omega
  have hp2 : p = 1 → byteAt s 0 = 45 := fun a => h45 (by rw [hp] at a; by_cases hz : z < 0; exact hz; rw [if_neg hz] at a; cases a)
  have hs18 : s.size ≤ p + 18 := by omega
  have hlt : ∀ k, k < s.size → nv s p k < 100000000000000000 := fun k hk => nv_lt s hdig (by omega) (by omega)
  have hst : ∀ k, p ≤ k → k < s.size → nv s p (k + 1) = 10 * nv s p k + (byteAt s k - 48) := fun k a b => nv_step s a b
  have hlo : ∀ k, k ≤ p → nv s p k = 0 := fun k a => nv_low s a
  have H1 := Lib.hid hdig; have H2 := Lib.hid hend; have H3 := Lib.hid hlt; have H4 := Lib.hid hst; have H5 := Lib.hid hlo; have H6 := Lib.hid hp2; have KC := Lib.hid CN; have HP := Lib.hid hp
  clear hdig hend hlt hst hlo hp2 CN h45 hng hp h hlen hsz
  go_enter Tryz.func142, Tryz.ntmps142
  go_wp2_with fail
  go_loop [3, 4] (fun nvv iv => ∃ k : Nat, k ≤ s.size ∧ iv = .int .i64 k ∧ nvv = .int .i64 (nv s p k : Nat)) (fun _ iv => s.size - (intOf iv).toNat)
  case atStart => exact ⟨0, Nat.zero_le _, rfl, by rw [H5.out 0 (Nat.zero_le _)]; rfl⟩
  case round =>
    obtain ⟨k, hk, rfl, rfl⟩ := hrel
    by_cases hks : k < s.size
    · have gk := byteAt_get s k hks
      by_cases hkp : k < p
      · have hk0 : k = 0 := by omega
        have hp1' : p = 1 := by omega
        subst hk0
        have hb := H6.out hp1'
        rw [hb] at gk
        have e1 := H5.out 0 (Nat.zero_le _)
        have e2 := H5.out 1 (by omega)
        have E1 := Lib.hid (e1.trans e2.symm)
        clear e1 e2 hb hkp hp1'
        generalize nv s p 0 = q at *
        go_wp2
        go_round
        case rel => exact ⟨1, by omega, rfl, by rw [E1.out]⟩
        case measure => simp [intOf]; omega
      · obtain ⟨hd1, hd2⟩ := H1.out k (by omega) hks
        have hst := H4.out k (by omega) hks
        have hl := H3.out k hks
        have HST := Lib.hid hst; clear hst
        generalize nv s p k = q at *
        generalize byteAt s k = b at *
        have hneq : ((b : Int) != 45) = true := by simp; omega
        go_wp2
        go_round
        case rel => exact ⟨k + 1, by omega, by go_num, by rw [HST.out]; go_num⟩
        case measure => simp [intOf]; omega
    · have hkn : k = s.size := by omega
      subst hkn
      have he := H2.out
      generalize nv s p s.size = q at *
      subst he
      by_cases hz0 : z < 0
      · rw [decide_eq_true hz0] at KC
        obtain ⟨m, hm⟩ : ∃ m : Nat, m = z.natAbs := ⟨_, rfl⟩
        have hzm : z = -(m : Int) := by omega
        rw [← hm] at hz ⊢
        have HZ := Lib.hid hzm; clear hzm hm hz0
        go_wp2_with (go_at_call 140; refine (KC.out _).mono ?_; rintro e w1 ⟨rfl, h⟩; subst h; refine Hid.out ?_)
        refine Lib.hid ?_
        go_wp2
        go_ret
        exact ⟨ret_int HZ.out.symm, rfl⟩
      · rw [decide_eq_false hz0] at KC
        obtain ⟨m, hm⟩ : ∃ m : Nat, m = z.natAbs := ⟨_, rfl⟩
        have hzm : z = (m : Int) := by omega
        rw [← hm] at hz ⊢
        have HZ := Lib.hid hzm; clear hzm hm hz0
        go_wp2_with (go_at_call 140; refine (KC.out _).mono ?_; rintro e w1 ⟨rfl, h⟩; subst h; refine Hid.out ?_)
        refine Lib.hid ?_
        go_wp2
        go_ret
        exact ⟨ret_int HZ.out.symm, rfl⟩

theorem shortT (s : ByteArray) (z : Int) (n : Nat) (w : World) (h : bytes s = Lib.itoa z) (hs : s.size ≤ 1000000000000) (_hn : n ≤ 1000000) :
    Calls Tryz.prog 146 #[.string s, .int .i64 n] w fun e w' => e = .returned (.bool (decide ((Lib.decDigits z.natAbs).length ≤ n))) ∧ w' = w := by
  have C := fun W => refDigits_any s W (txt_size h) (by omega)
  rw [h, digL_itoa] at C
  generalize (Lib.decDigits z.natAbs).length = d at *
  have KC := Lib.hid C; clear C
  go_enter Tryz.func146, Tryz.ntmps146
  go_wp2_with (go_at_call 118; refine (KC.out _).mono ?_; rintro e w1 ⟨rfl, h⟩; subst h; refine Hid.out ?_)
  refine Lib.hid ?_
  go_wp2
  go_ret
  first | exact ⟨rfl, rfl⟩ | exact ⟨ret_bool (by rw [Bool.eq_iff_iff]; simp), rfl⟩

end Go.Proofs.YtbadibbdoljjhaaGreatDoor

/-
  The reference: at, plus.
-/
namespace Go.Proofs.YtbadibbdoljjhaaGreatDoor
open Go Go.Proofs Go.RowKit

theorem DV.bound {w : World} {v : Value} {l : List Nat} (h : DV w v l) : l.length ≤ 9223372036854775807 := by
  obtain ⟨ao, c, rfl, hr⟩ := h
  exact Nat.le_trans hr.1 hr.2.1

theorem ownsRow_drewN {w : World} {B n size : Nat} {e : TypeId} {v : Value} {xs : List Value} (h : w.ownsRow B e size v n xs) (q : Nat) : (w.drewN q).ownsRow B e size v n xs := h

set_option maxHeartbeats 1000000 in
theorem at_any (l : List Nat) (v : Value) (i : Nat) (w : World) (hv : DV w v l) (_hi : i ≤ 9223372036854775807) :
    Calls Tryz.prog 227 #[v, .int .i64 i] w fun e w' => e = .returned (.int .i64 (l.getD i 0 : Nat)) ∧ w' = w := by
  have hb := hv.bound
  obtain ⟨ao, c, rfl, hr⟩ := hv
  by_cases h : i < l.length
  · obtain ⟨b, off, rfl⟩ := hr.addr (fun e => by rw [e] at h; simp at h)
    have hc := hr.get i h
    have h2 := hr.1; have h3 := hr.2.1
    generalize l.getD i 0 = d at *
    generalize l.length = n at *
    clear hr
    go_enter Tryz.func227, Tryz.ntmps227
    go_wp2
    go_ret
    exact ⟨rfl, rfl⟩
  · rw [getD_ge l i (by omega)]
    generalize l.length = n at *
    clear hr
    go_enter Tryz.func227, Tryz.ntmps227
    go_wp2
    go_ret
    exact ⟨rfl, rfl⟩

/-- What the loop of plus keeps: s the digits so far. -/
structure PlusInv (x y s : List Nat) (i c : Nat) : Prop where
  len : s.length = i
  dg : Dg s
  carry : c ≤ 1
  eq : dv s + c * 10 ^ i = dv (x.take i) + dv (y.take i)

theorem PlusInv.start (x y : List Nat) : PlusInv x y [] 0 0 := ⟨rfl, Dg.nil, by omega, by simp [dv]⟩
theorem PlusInv.step {x y s : List Nat} {i c : Nat} (h : PlusInv x y s i c) (hx : Dg x) (hy : Dg y) :
    PlusInv x y (s ++ [(c + (x.getD i 0 + y.getD i 0)) % 10]) (i + 1) ((c + (x.getD i 0 + y.getD i 0)) / 10) := by
  have h1 := hx.getD i; have h2 := hy.getD i; have h3 := h.carry
  refine ⟨by simp [h.len], h.dg.append (Dg.cons (Nat.mod_lt _ (by decide)) Dg.nil), by omega, ?_⟩
  rw [dv_append, h.len, dv_take_getD, dv_take_getD]
  have h4 := h.eq
  have h5 := Nat.div_add_mod (c + (x.getD i 0 + y.getD i 0)) 10
  generalize (c + (x.getD i 0 + y.getD i 0)) / 10 = q at *
  generalize (c + (x.getD i 0 + y.getD i 0)) % 10 = r at *
  rw [Nat.pow_succ]
  simp only [dv]
  generalize 10 ^ i = p at *
  have e1 : p * (r + 10 * 0) + q * (p * 10) = (10 * q + r) * p := by grind
  have e2 : (c + (x.getD i 0 + y.getD i 0)) * p = x.getD i 0 * p + c * p + y.getD i 0 * p := by grind
  rw [h5, e2] at e1
  omega
theorem PlusInv.done {x y s : List Nat} {i c : Nat} (h : PlusInv x y s (i + 1) c) (hx : Dg x) (hy : Dg y) (hlx : x.length ≤ i) (hly : y.length ≤ i) : dv s = dv x + dv y := by
  have h4 := h.eq
  rw [List.take_of_length_le (by omega), List.take_of_length_le (by omega)] at h4
  have h1 := dv_lt hx; have h2 := dv_lt hy
  have p1 : (10 : Nat) ^ x.length ≤ 10 ^ i := Nat.pow_le_pow_right (by decide) hlx
  have p2 : (10 : Nat) ^ y.length ≤ 10 ^ i := Nat.pow_le_pow_right (by decide) hly
  rw [Nat.pow_succ] at h4
  have h3 := h.carry
  have hc : c = 0 := by
    rcases Nat.eq_zero_or_pos c with h0 | h0
    · exact h0
    · exfalso
      have : c = 1 := by omega
      subst this
      generalize (10 : Nat) ^ i = p at *
      omega
  subst hc
  omega

theorem mod_cell (c x y : Nat) : dcellsOf [(c + (x + y)) % 10] = [.int .i64 (((c : Int) + ((x : Int) + (y : Int))) % 10)] := by
  show [Value.int .i64 (((c + (x + y)) % 10 : Nat) : Int)] = _
  rw [show (((c + (x + y)) % 10 : Nat) : Int) = ((c : Int) + ((x : Int) + (y : Int))) % 10 by omega]

set_option maxHeartbeats 4000000 in
theorem refPlus_any (X Y : List Nat) (vx vy : Value) (w : World) (hx : DV w vx X) (hy : DV w vy Y) (hX : Dg X) (hY : Dg Y) (hlx : X.length ≤ 1000000000) (hly : Y.length ≤ 1000000000) :
    Calls Tryz.prog 209 #[vx, vy] w (DRet (nl (dv X + dv Y)) w) := by
  obtain ⟨i0, hi, hz0, hz1, hz2⟩ := info_parts dinfoU32
  have A1 : ∀ i : Nat, i ≤ 9223372036854775807 → ∀ W, Below w.heap.size w W → Calls Tryz.prog 227 #[vx, .int .i64 i] W fun e w' => e = .returned (.int .i64 (X.getD i 0 : Nat)) ∧ w' = W := fun i hi W hW => at_any X vx i W (hx.mono hW) hi
  have A2 : ∀ i : Nat, i ≤ 9223372036854775807 → ∀ W, Below w.heap.size w W → Calls Tryz.prog 227 #[vy, .int .i64 i] W fun e w' => e = .returned (.int .i64 (Y.getD i 0 : Nat)) ∧ w' = W := fun i hi W hW => at_any Y vy i W (hy.mono hW) hi
  have hdX := fun i => hX.getD i
  have hdY := fun i => hY.getD i
  have hst : ∀ (s : List Nat) (i c : Nat), PlusInv X Y s i c → PlusInv X Y (s ++ [(c + (X.getD i 0 + Y.getD i 0)) % 10]) (i + 1) ((c + (X.getD i 0 + Y.getD i 0)) / 10) := fun s i c h => h.step hX hY
  have hdn : ∀ (s : List Nat) (i c : Nat), PlusInv X Y s (i + 1) c → X.length ≤ i → Y.length ≤ i → dv s = dv X + dv Y := fun s i c h a b => h.done hX hY a b
  have hs0 := PlusInv.start X Y
  obtain ⟨ao, cx, rfl, -⟩ := hx
  obtain ⟨ap, cy, rfl, -⟩ := hy
  have CC : ∀ (S : List Nat) (v : Value) (W : World), DV W v S → Dg S → S.length ≤ 1000000000000 → Calls Tryz.prog 149 #[v] W fun e w' => ∃ v', e = .returned v' ∧ DV W v' (nl (dv S)) ∧ w' = W := fun S v W h1 h2 h3 => cut_any S v W h1 h2 h3
  generalize X.length = n at *
  generalize Y.length = m at *
  obtain ⟨M, hM⟩ : ∃ M : Nat, M = max n m := ⟨_, rfl⟩
  have hM1 : n ≤ M := by omega
  have hM2 : m ≤ M := by omega
  have hM3 : M ≤ 1000000000 := by omega
  have hmx : max (n : Int) (m : Int) = (M : Int) := by omega
  have KA1 := Lib.hid A1; have KA2 := Lib.hid A2; have KX := Lib.hid hdX; have KY := Lib.hid hdY; have KST := Lib.hid hst; have KDN := Lib.hid hdn; have KS0 := Lib.hid hs0; have KC := Lib.hid CC
  have HM := Lib.hid hM; clear hM
  clear A1 A2 hdX hdY hst hdn hs0 CC hX hY
  go_enter Tryz.func209, Tryz.ntmps209
  go_wp2_with fail
  go_loopw [5, 6, 7] (fun v cv iv wr => ∃ (i c : Nat) (S : List Nat), i ≤ M + 1 ∧ iv = .int .i64 i ∧ cv = .int .i64 c ∧ PlusInv X Y S i c ∧ wr.ownsRow w.heap.size 3 1 v S.length (dcellsOf S) ∧ Below w.heap.size w wr) (fun _ _ iv _ => M + 1 - (intOf iv).toNat)
  case atStart => exact ⟨0, 0, [], by omega, rfl, rfl, KS0.out, World.ownsRow_nil _ _ _ _, Below.refl _ _⟩
  case round =>
    obtain ⟨i, c, S, hi1, rfl, rfl, hinv, hown, hbw⟩ := hrel
    have hc := hinv.carry
    have hln := hinv.len
    have HI := Lib.hid hinv; have HL := Lib.hid hln; clear hinv hln
    by_cases hlt : i < M + 1
    · have t1 : decide ((i : Int) < (M : Int) + 1) = true := decide_eq_true (by omega)
      have hx9 := KX.out i; have hy9 := KY.out i
      have a1 := KA1.out i (by omega); have a2 := KA2.out i (by omega)
      have hstp := KST.out S i c HI.out
      have hSl : S.length ≤ 1000000001 := by rw [HL.out]; omega
      generalize X.getD i 0 = xd at *
      generalize Y.getD i 0 = yd at *
      have A1 := Lib.hid a1; have A2 := Lib.hid a2; have HST := Lib.hid hstp
      clear a1 a2 hstp
      go_wp2_with (go_at_call 227; refine (A1.out _ hbw).mono ?_; rintro e w1 ⟨rfl, h⟩; subst h; refine Hid.out ?_)
      refine Lib.hid ?_
      go_wp2_with (go_at_call 227; refine (A2.out _ hbw).mono ?_; rintro e w1 ⟨rfl, h⟩; subst h; refine Hid.out ?_)
      refine Lib.hid ?_
      go_wp2_with (at_builtin; refine wpList_append_own _ rfl _ _ 130 rfl w.heap.size 3 i0 (.int .i64 0) 1 8 Tryz.underlying130 hi hz0 hz1 hz2 rfl (by decide) _ _ _ rfl (hown.alloc _) ⟨w1.heap.size, 0, none⟩ 1 1 [.int .i64 (((c : Int) + ((xd : Int) + (yd : Int))) % 10)] rfl rfl ?c1 ?c2 ?c3 ?c4 ?c5 ?_)
      case c1 => intro j u hj; match j, hj with | 0, hj => (simp at hj; subst hj; simp [Addr.add])
      case c2 => intro u hu; simp at hu; subst hu; rfl
      case c3 => unfold maxLen; omega
      case c4 => omega
      case c5 => have := hbw.size; simp; omega
      intro v' w2 hown' hgrow _
      go_wp2
      go_roundw
      case rel =>
        refine ⟨i + 1, (c + (xd + yd)) / 10, S ++ [(c + (xd + yd)) % 10], by omega, by go_num, by go_num, HST.out, ?_, ?_⟩
        · rw [dcellsOf_append, mod_cell, List.length_append]; exact hown'
        · exact hbw.trans (((Below.refl _ _).alloc (by have := hbw.size; omega) _).grown hgrow (by have := hbw.size; simp; omega) (fun k hk => ((hown.lt k hk)).1))
      case measure => simp [intOf]; omega
    · have hiM : i = M + 1 := by omega
      have t1 : decide ((i : Int) < (M : Int) + 1) = false := decide_eq_false (by omega)
      have HIM := Lib.hid hiM; clear hlt
      have hd := KDN.out S M c (by have := HI.out; rwa [hiM] at this) hM1 hM2
      have hg := HI.out.dg
      obtain ⟨ar, cr, rfl, hr⟩ := drow_of_owns hown
      have hc0 := KC.out S _ _ ⟨ar, cr, rfl, hr⟩ hg (by rw [HL.out]; omega)
      rw [hd] at hc0
      have K := Lib.hid hc0; have HB := Lib.hid hbw
      clear hd hg hr hc0 hown hbw hiM
      go_wp2_with (go_at_call 149; refine K.out.mono ?_; rintro e w1 ⟨v1, rfl, hv1, h⟩; subst h; refine Hid.out ?_)
      refine Lib.hid ?_
      go_wp2
      go_ret
      exact ⟨_, rfl, hv1, HB.out⟩
end Go.Proofs.YtbadibbdoljjhaaGreatDoor

/-
  The reference: minus.
-/
namespace Go.Proofs.YtbadibbdoljjhaaGreatDoor
open Go Go.Proofs Go.RowKit

/-- What the loop of minus keeps: s the digits so far. -/
structure MinusInv (x y s : List Nat) (i c : Nat) : Prop where
  len : s.length = i
  dg : Dg s
  carry : c ≤ 1
  eq : dv (x.take i) + c * 10 ^ i = dv s + dv (y.take i)

theorem MinusInv.start (x y : List Nat) : MinusInv x y [] 0 0 := ⟨rfl, Dg.nil, by omega, by simp [dv]⟩
theorem MinusInv.step {x y s : List Nat} {i c : Nat} (h : MinusInv x y s i c) (hx : Dg x) (hy : Dg y) :
    (x.getD i 0 < y.getD i 0 + c → MinusInv x y (s ++ [x.getD i 0 + 10 - (y.getD i 0 + c)]) (i + 1) 1) ∧
    (¬ x.getD i 0 < y.getD i 0 + c → MinusInv x y (s ++ [x.getD i 0 - (y.getD i 0 + c)]) (i + 1) 0) := by
  have h1 := hx.getD i; have h2 := hy.getD i; have h3 := h.carry; have h4 := h.eq
  constructor
  · intro hlt
    refine ⟨by simp [h.len], h.dg.append (Dg.cons (by omega) Dg.nil), by omega, ?_⟩
    rw [dv_append, h.len, dv_take_getD, dv_take_getD, Nat.pow_succ]
    generalize x.getD i 0 = a at *
    generalize y.getD i 0 = b at *
    obtain ⟨r, hr⟩ : ∃ r, a + 10 = b + c + r := ⟨a + 10 - (b + c), by omega⟩
    have e5 : a + 10 - (b + c) = r := by omega
    rw [e5]
    simp only [dv]
    generalize 10 ^ i = p at *
    have e6 : (a + 10) * p = (b + c + r) * p := by rw [hr]
    grind
  · intro hlt
    refine ⟨by simp [h.len], h.dg.append (Dg.cons (by omega) Dg.nil), by omega, ?_⟩
    rw [dv_append, h.len, dv_take_getD, dv_take_getD, Nat.pow_succ]
    generalize x.getD i 0 = a at *
    generalize y.getD i 0 = b at *
    obtain ⟨r, hr⟩ : ∃ r, a = b + c + r := ⟨a - (b + c), by omega⟩
    have e5 : a - (b + c) = r := by omega
    rw [e5]
    simp only [dv]
    generalize 10 ^ i = p at *
    have e6 : a * p = (b + c + r) * p := by rw [hr]
    grind
theorem MinusInv.done {x y s : List Nat} {c : Nat} (h : MinusInv x y s x.length c) (hx : Dg x) (hle : dv y ≤ dv x) : dv s = dv x - dv y := by
  have h4 := h.eq
  rw [List.take_of_length_le (Nat.le_refl _)] at h4
  have h1 := dv_lt hx
  have h2 := dv_lt h.dg
  rw [h.len] at h2
  have h3 := h.carry
  have hy : dv (y.take x.length) = dv y := by
    by_cases hl : x.length ≤ y.length
    · have hs := dv_split y x.length hl
      have h0 : dv (y.drop x.length) = 0 := by
        rcases Nat.eq_zero_or_pos (dv (y.drop x.length)) with h0 | h0
        · exact h0
        · exfalso
          have : 10 ^ x.length * 1 ≤ 10 ^ x.length * dv (y.drop x.length) := Nat.mul_le_mul_left _ h0
          omega
      rw [h0] at hs
      omega
    · rw [List.take_of_length_le (by omega)]
  rw [hy] at h4
  have hc : c = 0 := by
    rcases Nat.eq_zero_or_pos c with h0 | h0
    · exact h0
    · exfalso
      have : c = 1 := by omega
      subst this
      generalize (10 : Nat) ^ x.length = p at *
      omega
  subst hc
  omega

set_option maxHeartbeats 4000000 in
theorem refMinus_any (X Y : List Nat) (vx vy : Value) (w : World) (hx : DV w vx X) (hy : DV w vy Y) (hX : Dg X) (hY : Dg Y) (hlx : X.length ≤ 1000000000) (hle : dv Y ≤ dv X) :
    Calls Tryz.prog 196 #[vx, vy] w (DRet (nl (dv X - dv Y)) w) := by
  obtain ⟨i0, hi, hz0, hz1, hz2⟩ := info_parts dinfoU32
  have A2 : ∀ i : Nat, i ≤ 9223372036854775807 → ∀ W, Below w.heap.size w W → Calls Tryz.prog 227 #[vy, .int .i64 i] W fun e w' => e = .returned (.int .i64 (Y.getD i 0 : Nat)) ∧ w' = W := fun i hi W hW => at_any Y vy i W (hy.mono hW) hi
  have hdX := fun i => hX.getD i
  have hdY := fun i => hY.getD i
  have hst : ∀ (s : List Nat) (i c : Nat), MinusInv X Y s i c → (X.getD i 0 < Y.getD i 0 + c → MinusInv X Y (s ++ [X.getD i 0 + 10 - (Y.getD i 0 + c)]) (i + 1) 1) ∧ (¬ X.getD i 0 < Y.getD i 0 + c → MinusInv X Y (s ++ [X.getD i 0 - (Y.getD i 0 + c)]) (i + 1) 0) := fun s i c h => h.step hX hY
  have hdn : ∀ (s : List Nat) (c : Nat), MinusInv X Y s X.length c → dv s = dv X - dv Y := fun s c h => h.done hX hle
  have hs0 := MinusInv.start X Y
  obtain ⟨ao, cx, rfl, hx⟩ := hx
  obtain ⟨ap, cy, rfl, -⟩ := hy
  have HXR : ∀ i, i < X.length → ∃ bx ox, ao = some ⟨bx, ox, none⟩ ∧ bx < w.heap.size ∧ w.cell? ⟨bx, ox + i, none⟩ = some (.int .i64 (X.getD i 0 : Nat)) := fun i hi => by
    have hne : X ≠ [] := fun e => by rw [e] at hi; simp at hi
    obtain ⟨bx, ox, rfl⟩ := hx.addr hne
    exact ⟨bx, ox, rfl, hx.block hne, hx.get i hi⟩
  have hcx := hx.1; have hcx2 := hx.2.1
  have CC : ∀ (S : List Nat) (v : Value) (W : World), DV W v S → Dg S → S.length ≤ 1000000000000 → Calls Tryz.prog 149 #[v] W fun e w' => ∃ v', e = .returned v' ∧ DV W v' (nl (dv S)) ∧ w' = W := fun S v W h1 h2 h3 => cut_any S v W h1 h2 h3
  generalize X.length = n at *
  generalize Y.length = m at *
  have KA2 := Lib.hid A2; have KX := Lib.hid hdX; have KY := Lib.hid hdY; have KST := Lib.hid hst; have KDN := Lib.hid hdn; have KS0 := Lib.hid hs0; have KC := Lib.hid CC; have KR := Lib.hid HXR
  clear A2 hdX hdY hst hdn hs0 CC hX hY hx HXR hle
  go_enter Tryz.func196, Tryz.ntmps196
  go_wp2_with fail
  go_loopw [5, 6, 7] (fun v cv iv wr => ∃ (i c : Nat) (S : List Nat), i ≤ n ∧ iv = .int .i64 i ∧ cv = .int .i64 c ∧ MinusInv X Y S i c ∧ wr.ownsRow w.heap.size 3 1 v S.length (dcellsOf S) ∧ Below w.heap.size w wr) (fun _ _ iv _ => n - (intOf iv).toNat)
  case atStart => exact ⟨0, 0, [], by omega, rfl, rfl, KS0.out, World.ownsRow_nil _ _ _ _, Below.refl _ _⟩
  case round =>
    obtain ⟨i, c, S, hi1, rfl, rfl, hinv, hown, hbw⟩ := hrel
    have hc := hinv.carry
    have hln := hinv.len
    have HI := Lib.hid hinv; have HL := Lib.hid hln; clear hinv hln
    by_cases hlt : i < n
    · have hx9 := KX.out i; have hy9 := KY.out i
      have a2 := KA2.out i (by omega)
      have hstp := KST.out S i c HI.out
      have hSl : S.length ≤ 1000000001 := by rw [HL.out]; omega
      obtain ⟨bx, ox, rfl, hbx, hcell⟩ := KR.out i hlt
      have cx1 : wr.cell? ⟨bx, ox + i, none⟩ = some (.int .i64 (X.getD i 0 : Nat)) := (hbw.cell (p := ⟨bx, ox + i, none⟩) hbx).trans hcell
      generalize X.getD i 0 = xd at *
      generalize Y.getD i 0 = yd at *
      have A2 := Lib.hid a2; have HST := Lib.hid hstp; have HBW := Lib.hid hbw; have HOW := Lib.hid hown
      clear a2 hstp hcell hown
      by_cases hneg : xd < yd + c
      · have t1 : decide ((xd : Int) - (yd : Int) - (c : Int) < 0) = true := decide_eq_true (by omega)
        have h1 := HST.out.1 hneg
        have H1 := Lib.hid h1; clear h1 HST
        obtain ⟨d, hd⟩ : ∃ d : Nat, d = xd + 10 - (yd + c) := ⟨_, rfl⟩
        rw [← hd] at H1
        have hdi : (xd : Int) - (yd : Int) - (c : Int) + 10 = (d : Int) := by omega
        have hd9 : d < 10 := by omega
        have HDI := Lib.hid hdi
        clear hd hdi
        go_wp2
        go_quiet ((go_at_call 227; exact Calls.quiet_of_same (A2.out _ (HBW.out.trans (below_drewN (Below.refl _ _) _)))))
        have hbw1 := hbw.trans (below_drewN (Below.refl _ _) nq)
        have hown := ownsRow_drewN HOW.out nq
        generalize wr.drewN nq = W1 at *
        go_wp2_with (at_builtin; refine wpList_append_own _ rfl _ _ 130 rfl w.heap.size 3 i0 (.int .i64 0) 1 8 Tryz.underlying130 hi hz0 hz1 hz2 rfl (by decide) _ _ _ rfl (hown.alloc _) ⟨W1.heap.size, 0, none⟩ 1 1 [.int .i64 ((xd : Int) - (yd : Int) - (c : Int) + 10)] rfl rfl ?c1 ?c2 ?c3 ?c4 ?c5 ?_)
        case c1 => intro j u hj; match j, hj with | 0, hj => (simp at hj; subst hj; simp [Addr.add])
        case c2 => intro u hu; simp at hu; subst hu; rfl
        case c3 => unfold maxLen; omega
        case c4 => omega
        case c5 => have := hbw1.size; simp; omega
        intro v' w2 hown' hgrow _
        go_wp2
        go_roundw
        case rel =>
          refine ⟨i + 1, 1, S ++ [d], by omega, by go_num, rfl, H1.out, ?_, ?_⟩
          · rw [HDI.out] at hown'
            rw [dcellsOf_append, List.length_append]; exact hown'
          · exact hbw1.trans (((Below.refl _ _).alloc (by have := hbw1.size; omega) _).grown hgrow (by have := hbw1.size; simp; omega) (fun k hk => ((hown.lt k hk)).1))
        case measure => simp [intOf]; omega
      · have t1 : decide ((xd : Int) - (yd : Int) - (c : Int) < 0) = false := decide_eq_false (by omega)
        have h1 := HST.out.2 hneg
        have H1 := Lib.hid h1; clear h1 HST
        obtain ⟨d, hd⟩ : ∃ d : Nat, d = xd - (yd + c) := ⟨_, rfl⟩
        rw [← hd] at H1
        have hdi : (xd : Int) - (yd : Int) - (c : Int) = (d : Int) := by omega
        have hd9 : d < 10 := by omega
        have HDI := Lib.hid hdi
        clear hd hdi
        go_wp2
        go_quiet ((go_at_call 227; exact Calls.quiet_of_same (A2.out _ (HBW.out.trans (below_drewN (Below.refl _ _) _)))))
        have hbw1 := hbw.trans (below_drewN (Below.refl _ _) nq)
        have hown := ownsRow_drewN HOW.out nq
        generalize wr.drewN nq = W1 at *
        go_wp2_with (at_builtin; refine wpList_append_own _ rfl _ _ 130 rfl w.heap.size 3 i0 (.int .i64 0) 1 8 Tryz.underlying130 hi hz0 hz1 hz2 rfl (by decide) _ _ _ rfl (hown.alloc _) ⟨W1.heap.size, 0, none⟩ 1 1 [.int .i64 ((xd : Int) - (yd : Int) - (c : Int))] rfl rfl ?c1 ?c2 ?c3 ?c4 ?c5 ?_)
        case c1 => intro j u hj; match j, hj with | 0, hj => (simp at hj; subst hj; simp [Addr.add])
        case c2 => intro u hu; simp at hu; subst hu; rfl
        case c3 => unfold maxLen; omega
        case c4 => omega
        case c5 => have := hbw1.size; simp; omega
        intro v' w2 hown' hgrow _
        go_wp2
        go_roundw
        case rel =>
          refine ⟨i + 1, 0, S ++ [d], by omega, by go_num, rfl, H1.out, ?_, ?_⟩
          · rw [HDI.out] at hown'
            rw [dcellsOf_append, List.length_append]; exact hown'
          · exact hbw1.trans (((Below.refl _ _).alloc (by have := hbw1.size; omega) _).grown hgrow (by have := hbw1.size; simp; omega) (fun k hk => ((hown.lt k hk)).1))
        case measure => simp [intOf]; omega
    · have hin : i = n := by omega
      subst hin
      have hd := KDN.out S c HI.out
      have hg := HI.out.dg
      obtain ⟨ar, cr, rfl, hr⟩ := drow_of_owns hown
      have hc0 := KC.out S _ _ ⟨ar, cr, rfl, hr⟩ hg (by rw [HL.out]; omega)
      rw [hd] at hc0
      have K := Lib.hid hc0; have HB := Lib.hid hbw
      clear hd hg hr hc0 hown hbw
      go_wp2_with (go_at_call 149; refine K.out.mono ?_; rintro e w1 ⟨v1, rfl, hv1, h⟩; subst h; refine Hid.out ?_)
      refine Lib.hid ?_
      go_wp2
      go_ret
      exact ⟨_, rfl, hv1, HB.out⟩
end Go.Proofs.YtbadibbdoljjhaaGreatDoor

/-
  The reference: times.
-/
namespace Go.Proofs.YtbadibbdoljjhaaGreatDoor
open Go Go.Proofs Go.RowKit

theorem DBlk.drewN {w : World} {b : Nat} {l : List Nat} (h : DBlk w b l) (n : Nat) : DBlk (w.drewN n) b l := h

theorem DMulInv.step' {p0 p y : List Nat} {a i j c : Nat} (h : DMulInv p0 p y a i j c) (hi : i + j < p0.length) (ha : a < 10) (hy : Dg y) :
    DMulInv p0 (p.set (i + j) ((c + (p.getD (i + j) 0 + a * y.getD j 0)) % 10)) y a i (j + 1) ((c + (p.getD (i + j) 0 + a * y.getD j 0)) / 10) := by
  rw [Nat.add_comm (p.getD (i + j) 0)]; exact h.step hi ha hy

set_option maxHeartbeats 8000000 in
theorem refTimes_any (X Y : List Nat) (vx vy : Value) (w : World) (hx : DV w vx X) (hy : DV w vy Y) (hsx : Dg X) (hsy : Dg Y) (hbx : X.length ≤ 1000000000) (hby : Y.length ≤ 1000000000) :
    Calls Tryz.prog 144 #[vx, vy] w (DRet (nl (dv X * dv Y)) w) := by
  obtain ⟨i0, hi, hz0, hz1, hz2⟩ := info_parts dinfoU32
  obtain ⟨ao, c, rfl, hx⟩ := hx
  obtain ⟨ap, d, rfl, hy⟩ := hy
  have CC : ∀ (S : List Nat) (v : Value) (W : World), DV W v S → Dg S → S.length ≤ 1000000000000 → Calls Tryz.prog 149 #[v] W fun e w' => ∃ v', e = .returned v' ∧ DV W v' (nl (dv S)) ∧ w' = W := fun S v W h1 h2 h3 => cut_any S v W h1 h2 h3
  have HX := Lib.hid hx; have HY := Lib.hid hy; have KC := Lib.hid CC
  have hcx := hx.1; have hcx2 := hx.2.1; have hcy := hy.1; have hcy2 := hy.2.1
  generalize hn : X.length = n at *
  generalize hm : Y.length = m at *
  have HN := Lib.hid hn; have HM := Lib.hid hm; have HSX := Lib.hid hsx; have HSY := Lib.hid hsy
  clear hn hm hx hy hsx hsy CC
  go_enter Tryz.func144, Tryz.ntmps144
  go_wp2_with (at_make; refine wpList_make_full _ rfl _ _ 130 rfl w.heap.size 3 i0 (.int .i64 0) 1 Tryz.underlying130 hi hz0 hz1 .i64 .i64 _ _ (n + m) rfl rfl ?a1 ?a2 ?a3 ?a4 ?a5 ?_)
  case a1 => simp
  case a2 => simp
  case a3 => rw [hz2]; omega
  case a4 => unfold maxLen; omega
  case a5 => exact Nat.le_refl _
  intro W0 hown hg
  have hb0 := dblk_of_made hown
  clear hown
  generalize hgg : w.heap.size = g at hb0 hg ⊢
  have HG := Lib.hid hgg; clear hgg
  have hBB : Below w.heap.size w W0 := below_of_grown hg
  have HBB := Lib.hid hBB; clear hBB hg
  go_wp2_with fail
  have HB0 := Lib.hid hb0; clear hb0
  go_loopw [6] (fun iv wr => ∃ (i : Nat) (P : List Nat), i ≤ n ∧ iv = .int .i64 i ∧ DBlk wr g P ∧ Dg P ∧ P.length = n + m ∧ dv (P.take (i + m)) = dv (X.take i) * dv Y ∧ W0.grownBy wr (some g)) (fun iv _ => n - (intOf iv).toNat)
  case atStart =>
    refine ⟨0, _, Nat.zero_le _, rfl, HB0.out, Dg.replicate _, by simp, ?_, grown_refl _ _⟩
    rw [List.take_replicate, dv_replicate]; simp [dv]
  case round =>
    obtain ⟨wo, rfl⟩ : ∃ wo : World, wo = wr := ⟨_, rfl⟩
    obtain ⟨i, P, hi, rfl, hbl, hsm, hln, hva, hgr⟩ := hrel
    have hbw : Below w.heap.size w wo := below_grown HBB.out hgr (by rw [HG.out]; exact Nat.le_refl _)
    have HBL := Lib.hid hbl; have HSM := Lib.hid hsm; have HLN := Lib.hid hln; have HVA := Lib.hid hva; have HGR := Lib.hid hgr; have HBW := Lib.hid hbw
    clear hbl hsm hln hva hgr hbw
    by_cases hin : i < n
    · obtain ⟨bx, ox, rfl⟩ := HX.out.addr (fun h => by have := HN.out; rw [h] at this; simp at this; omega)
      have ha := HSX.out.getD i
      generalize hae : X.getD i 0 = a at *
      have HAE := Lib.hid hae; clear hae
      go_wp2_with fail
      go_loopw [7, 8] (fun cv jv wr => ∃ (j q : Nat) (S : List Nat), j ≤ m ∧ jv = .int .i64 j ∧ cv = .int .i64 q ∧ DBlk wr g S ∧ DMulInv P S Y a i j q ∧ wo.grownBy wr (some g)) (fun _ jv _ => m - (intOf jv).toNat)
      case atStart => exact ⟨0, 0, P, Nat.zero_le _, rfl, rfl, HBL.out, DMulInv.start HSM.out, grown_refl _ _⟩
      case round =>
        obtain ⟨j, q, S, hj, rfl, rfl, hbl, hinv, hgr⟩ := hrel
        have hbw2 : Below w.heap.size w wr := below_grown HBW.out hgr (by rw [HG.out]; exact Nat.le_refl _)
        have hq := hinv.carry
        have HBS := Lib.hid hbl; have HI := Lib.hid hinv; have HGS := Lib.hid hgr; have HB2 := Lib.hid hbw2
        clear hbl hinv hgr hbw2
        by_cases hjm : j < m
        · obtain ⟨by_, oy, rfl⟩ := HY.out.addr (fun h => by have := HM.out; rw [h] at this; simp at this; omega)
          have cx := (HX.out.mono HB2.out).get i (by rw [HN.out]; exact hin)
          rw [HAE.out] at cx
          have cy := (HY.out.mono HB2.out).get j (by rw [HM.out]; exact hjm)
          have hSl : i + j < S.length := by rw [HI.out.len, HLN.out]; omega
          have cs := HBS.out.cell (i + j) hSl
          have hstep := HI.out.step' (by rw [HLN.out]; omega) ha HSY.out
          have hy1 := HSY.out.getD j
          have hs1 := HI.out.small.getD (i + j)
          generalize hbb : Y.getD j 0 = b at *
          generalize hss : S.getD (i + j) 0 = s at *
          obtain ⟨pr, hpr⟩ : ∃ pr : Nat, pr = a * b := ⟨_, rfl⟩
          have hp81 : pr ≤ 81 := by rw [hpr]; exact Nat.mul_le_mul (show a ≤ 9 by omega) (show b ≤ 9 by omega)
          have hpri : (a : Int) * (b : Int) = (pr : Int) := by rw [hpr, Int.natCast_mul]
          rw [← hpr] at hstep
          have HST := Lib.hid hstep; have HSS := Lib.hid hss
          clear hstep hpr hbb hss
          go_wp2
          go_quiet (fail)
          have HBS1 := HBS.out.drewN nq
          have HGS1 := grown_drew HGS.out nq
          generalize wr.drewN nq = W1 at *
          have cs1 := HBS1.cell (i + j) hSl
          have fs1 := HBS1.frozen (i + j)
          have hset := HBS1.set (i + j) ((q + (s + pr)) % 10)
          rw [HSS.out] at cs1
          have ev : (((q + (s + pr)) % 10 : Nat) : Int) = ((q : Int) + ((s : Int) + (pr : Int))) % 10 := by omega
          have eq : (((q + (s + pr)) / 10 : Nat) : Int) = ((q : Int) + ((s : Int) + (pr : Int))) / 10 := by omega
          rw [ev] at hset
          have HSE := Lib.hid hset; have EQ := Lib.hid eq; have HG1 := Lib.hid HGS1
          clear hset ev eq hSl HBS1 HGS1 cs cx cy
          go_wp2
          go_roundw
          case rel => exact ⟨j + 1, _, _, by omega, by go_num, by rw [← EQ.out], HSE.out, HST.out, grown_set HG1.out _ _⟩
          case measure => simp [intOf]; omega
        · have hj1 : j = m := by omega
          subst hj1
          have hSl : i + j < S.length := by rw [HI.out.len, HLN.out]; omega
          have cs := HBS.out.cell (i + j) hSl
          have fs := HBS.out.frozen (i + j)
          have hset := HBS.out.set (i + j) q
          have hI := HI.out
          rw [← HAE.out] at hI
          have hd := hI.done HM.out (by rw [HLN.out]; omega) HVA.out
          rw [HLN.out] at hd
          have HSE := Lib.hid hset; have HD := Lib.hid hd
          generalize S.getD (i + j) 0 = s at *
          clear hset hd hI hSl
          go_wp2
          go_roundw
          case rel => exact ⟨i + 1, _, by omega, by go_num, HSE.out, HD.out.1, HD.out.2.1, HD.out.2.2, grown_set (grown_trans HGR.out HGS.out) _ _⟩
          case measure => simp [intOf]; omega
    · have hi1 : i = n := by omega
      subst hi1
      have hval : dv P = dv X * dv Y := by
        have h1 := HVA.out
        rwa [List.take_of_length_le (by rw [HLN.out]; exact Nat.le_refl _), List.take_of_length_le (by rw [HN.out]; exact Nat.le_refl _)] at h1
      have hr : DAt wo (some ⟨g, 0, none⟩) (i + m) P := HBL.out.row (by rw [HLN.out]; exact Nat.le_refl _) (by omega)
      have hc0 := KC.out P (.slice (some ⟨g, 0, none⟩) P.length (i + m)) wo ⟨_, _, rfl, hr⟩ HSM.out (by rw [HLN.out]; omega)
      rw [hval, HLN.out] at hc0
      have K := Lib.hid hc0
      clear hval hc0 hr
      go_wp2_with (go_at_call 149; refine K.out.mono ?_; rintro e w1 ⟨v1, rfl, hv1, h⟩; subst h; refine Hid.out ?_)
      refine Lib.hid ?_
      go_wp2
      go_ret
      exact ⟨_, rfl, hv1, HBW.out⟩
end Go.Proofs.YtbadibbdoljjhaaGreatDoor
