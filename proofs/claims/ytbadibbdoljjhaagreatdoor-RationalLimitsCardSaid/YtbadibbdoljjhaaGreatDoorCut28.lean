import Derived.Test.YtbadibbdoljjhaaGreatDoorCut27

set_option linter.unusedVariables false
/-
  rational: its functions for all strings.
-/
namespace Go.Proofs.YtbadibbdoljjhaaGreatDoor
open Go Go.Proofs Go.RowKit

/-- A string that is the canonical notation of a rational number, whose numerator and denominator are not too long. -/
structure RStr (s : ByteArray) (q : Rat) : Prop where
  text : bytes s = ratL q
  rs : RatS q
theorem str_of_canon {l : List UInt8} (h : errOf l = 0) : Str (str l) (valZ l) := by
  have := str_of_err (s := str l) (by rwa [bytes_str])
  rwa [bytes_str] at this
theorem rerr_zero {l : List UInt8} (h : rerr l = 0) : ratOk l = true ∧ errOf (topL l) = 0 ∧ errOf (botL l) = 0 := by
  unfold rerr at h
  split at h
  · next h1 =>
    split at h
    · next h2 => exact ⟨h1, h2.1, h2.2⟩
    · omega
  · omega
theorem rstr_of_rerr {s : ByteArray} (h : rerr (bytes s) = 0) : RStr s (ratV (bytes s)) := by
  obtain ⟨h1, h2, h3⟩ := rerr_zero h
  obtain ⟨e1, e2⟩ := ratV_parts h1
  have q1 := str_of_canon h2
  have q2 := str_of_canon h3
  refine ⟨ratL_ratV h1, ?_, ?_⟩
  · rw [e1]; exact str_itoa q1.len
  · rw [e2]; exact str_itoa q2.len
theorem RStr.rerr {s : ByteArray} {q : Rat} (h : RStr s q) : rerr (bytes s) = 0 := by
  rw [h.text]; exact rerr_rat h.rs.num.len (by have := h.rs.den.len; rwa [Int.natAbs_natCast] at this)
theorem RStr.val {s : ByteArray} {q : Rat} (h : RStr s q) : ratV (bytes s) = q := by rw [h.text]; exact ratV_rat q
theorem RStr.lit {s : ByteArray} {q : Rat} (h : RStr s q) : str (ratL q) = s := by rw [← h.text, str_bytes]
theorem RStr.of {q : Rat} (h : RatS q) : RStr (str (ratL q)) q := ⟨bytes_str _, h⟩
theorem RStr.inj {s : ByteArray} {p q : Rat} (h : RStr s p) (k : RStr s q) : p = q := ratL_inj (h.text.symm.trans k.text)
theorem parts_lit {l : List UInt8} (h : Go.Proofs.YtbadibbdoljjhaaGreatDoor.rerr l = 0) : fracV (str (topL l)) (str (botL l)) = ratS (ratV l) := by
  obtain ⟨h1, h2, h3⟩ := rerr_zero h
  obtain ⟨e1, e2⟩ := ratV_parts h1
  unfold ratS
  rw [e1, e2, ← itoa_valZ (ratOk_spec h1).1, ← itoa_valZ (ratOk_spec h1).2.1]
theorem bothR_ok {a b : List UInt8} (h : rerrBoth a b = 0) : bothR a b = .tuple #[ratS (ratV a), ratS (ratV b), .int .i64 0] := by
  obtain ⟨h1, h2⟩ := rerrBoth_zero h
  unfold bothR
  rw [if_pos h, parts_lit h1, parts_lit h2]
theorem bothR_bad {a b : List UInt8} (h : rerrBoth a b ≠ 0) : bothR a b = .tuple #[noFrac, noFrac, .int .i64 (rerrBoth a b : Nat)] := by unfold bothR; rw [if_neg h]
theorem parseR_ok {l : List UInt8} (h : Go.Proofs.YtbadibbdoljjhaaGreatDoor.rerr l = 0) : parseR l = .tuple #[ratS (ratV l), .int .i64 0] := by unfold parseR; rw [if_pos h, parts_lit h]

/-- What a function of one number returns, and one of two. -/
def ratR1 (f : Rat → Value) (l : List UInt8) : Value := if rerr l = 0 then f (ratV l) else errV (rerr l)
def ratR2 (f : Rat → Rat → Value) (a b : List UInt8) : Value := if rerrBoth a b = 0 then f (ratV a) (ratV b) else errV (rerrBoth a b)
/-- A rational number as a result, if certain integers are not too long. -/
def opQ (ok : Bool) (r : Rat) : Value := if ok = true then .tuple #[.string (str (ratL r)), .int .i64 0] else errV 10
def addF (p q : Rat) : Bool := decide (Fits (p.num * q.den)) && decide (Fits (q.num * p.den)) && decide (Fits (p.num * q.den + q.num * p.den)) && decide (Fits ((p.den : Int) * q.den))
def subF (p q : Rat) : Bool := decide (Fits (p.num * q.den)) && decide (Fits (q.num * p.den)) && decide (Fits (p.num * q.den - q.num * p.den)) && decide (Fits ((p.den : Int) * q.den))
def mulF (p q : Rat) : Bool := decide (Fits (p.num * q.num)) && decide (Fits ((p.den : Int) * q.den))
def divF (p q : Rat) : Bool := decide (Fits (p.num * q.den)) && decide (Fits ((p.den : Int) * q.num))
def addQ (p q : Rat) : Value := opQ (addF p q) (p + q)
def subQ (p q : Rat) : Value := opQ (subF p q) (p - q)
def mulQ (p q : Rat) : Value := opQ (mulF p q) (p * q)
def divQ (p q : Rat) : Value := if q = 0 then errV 19 else opQ (divF p q) (p / q)
theorem opQ_parts (ok : Bool) (r : Rat) : ∃ (u : ByteArray) (e : Nat), opQ ok r = .tuple #[.string u, .int .i64 e] := by
  unfold opQ; split
  · exact ⟨_, 0, rfl⟩
  · exact ⟨_, _, rfl⟩

theorem divInt_add (p q : Rat) : Rat.divInt (p.num * q.den + q.num * p.den) ((p.den : Int) * q.den) = p + q := by
  rw [Rat.add_def', ← Int.natCast_mul, Rat.divInt_ofNat]
theorem divInt_sub (p q : Rat) : Rat.divInt (p.num * q.den - q.num * p.den) ((p.den : Int) * q.den) = p - q := by
  rw [Rat.sub_def', ← Int.natCast_mul, Rat.divInt_ofNat]
theorem divInt_mul (p q : Rat) : Rat.divInt (p.num * q.num) ((p.den : Int) * q.den) = p * q := by
  rw [Rat.mul_def', ← Int.natCast_mul, Rat.divInt_ofNat]
theorem divInt_div (p q : Rat) : Rat.divInt (p.num * q.den) ((p.den : Int) * q.num) = p / q := by
  rw [Rat.div_def, Rat.inv_def, ← Rat.divInt_mul_divInt, Rat.num_divInt_den]
theorem den_mul_ne (p q : Rat) : ((p.den : Int) * q.den) ≠ 0 := by
  have h1 := p.den_pos; have h2 := q.den_pos
  exact Int.mul_ne_zero (by omega) (by omega)
theorem fits_str {z : Int} (h : Fits z) : Str (str (Lib.itoa z)) z := str_itoa (Nat.le_of_not_lt h)

theorem comp1_rat (s t : ByteArray) (p q : Rat) (w : World) (hs : RStr s p) (ht : RStr t q) (hls : s.size ≤ 1000000000) (hlt : t.size ≤ 1000000000) (htab : Lib.TabIs Tryz.prog w "internal/strconv.uint64pow10" .u64 Lib.pow10Tab) :
    Calls Tryz.prog 111 #[.int .u8 43, .string s, .string t] w (Bret (opQ (addF p q) (p + q)) w) := by
  have hT := Lib.tabBelow_of_tabIs htab
  have C1 : ∀ W : World, Below w.heap.size w W → Calls Tryz.prog 106 #[.string s, .string t] W (Bret (.tuple #[ratS p, ratS q, .int .i64 0]) W) := fun W hW => by
    have := parseBoth_rat s t W hls hlt (hT.on hW).here
    rwa [bothR_ok (by unfold rerrBoth; rw [hs.rerr, if_pos rfl, ht.rerr]), hs.val, ht.val] at this
  have C3 : ∀ W : World, Below w.heap.size w W → Calls Tryz.prog 204 #[ratS p, ratS q] W (Bret (combV (p.num * q.den) (q.num * p.den) (p.num * q.den + q.num * p.den) ((p.den : Int) * q.den)) W) := fun W hW => oper1 p q W hs.rs ht.rs (hT.on hW).here
  have C4 : Fits (p.num * q.den + q.num * p.den) → Fits ((p.den : Int) * q.den) → ∀ W : World, Below w.heap.size w W → Calls Tryz.prog 39 #[.string (str (Lib.itoa (p.num * q.den + q.num * p.den))), .string (str (Lib.itoa ((p.den : Int) * q.den)))] W (Bret (.tuple #[.string (str (ratL (p + q))), .int .i64 0]) W) := fun f1 f2 W hW => by
    have := of_rat _ _ _ _ W (fits_str f1) (fits_str f2) (den_mul_ne p q) (hT.on hW).here
    rwa [divInt_add p q] at this
  unfold opQ addF
  unfold combV trip at C3
  unfold ratS fracV at C1 C3
  by_cases h1 : Fits (p.num * q.den) ∧ Fits (q.num * p.den)
  · rw [if_pos h1] at C3
    by_cases h2 : Fits (p.num * q.den + q.num * p.den)
    · rw [if_pos h2] at C3
      by_cases h3 : Fits ((p.den : Int) * q.den)
      · rw [if_pos h3] at C3
        rw [if_pos (by simp only [Bool.and_eq_true, decide_eq_true_eq]; exact ⟨⟨h1, h2⟩, h3⟩)]
        exact comp1_0 s t _ _ _ _ _ _ _ w C1 C3 (C4 h2 h3)
      · rw [if_neg h3] at C3
        rw [if_neg (by simp only [Bool.and_eq_true, decide_eq_true_eq]; exact fun h => h3 h.2)]
        exact comp1_10 s t _ _ _ _ _ _ w C1 C3
    · rw [if_neg h2] at C3
      rw [if_neg (by simp only [Bool.and_eq_true, decide_eq_true_eq]; exact fun h => h2 h.1.2)]
      exact comp1_10 s t _ _ _ _ _ _ w C1 C3
  · rw [if_neg h1] at C3
    rw [if_neg (by simp only [Bool.and_eq_true, decide_eq_true_eq]; exact fun h => h1 h.1.1)]
    exact comp1_10 s t _ _ _ _ _ _ w C1 C3
theorem comp2_rat (s t : ByteArray) (p q : Rat) (w : World) (hs : RStr s p) (ht : RStr t q) (hls : s.size ≤ 1000000000) (hlt : t.size ≤ 1000000000) (htab : Lib.TabIs Tryz.prog w "internal/strconv.uint64pow10" .u64 Lib.pow10Tab) :
    Calls Tryz.prog 111 #[.int .u8 45, .string s, .string t] w (Bret (opQ (subF p q) (p - q)) w) := by
  have hT := Lib.tabBelow_of_tabIs htab
  have C1 : ∀ W : World, Below w.heap.size w W → Calls Tryz.prog 106 #[.string s, .string t] W (Bret (.tuple #[ratS p, ratS q, .int .i64 0]) W) := fun W hW => by
    have := parseBoth_rat s t W hls hlt (hT.on hW).here
    rwa [bothR_ok (by unfold rerrBoth; rw [hs.rerr, if_pos rfl, ht.rerr]), hs.val, ht.val] at this
  have C3 : ∀ W : World, Below w.heap.size w W → Calls Tryz.prog 206 #[ratS p, ratS q] W (Bret (combV (p.num * q.den) (q.num * p.den) (p.num * q.den - q.num * p.den) ((p.den : Int) * q.den)) W) := fun W hW => oper2 p q W hs.rs ht.rs (hT.on hW).here
  have C4 : Fits (p.num * q.den - q.num * p.den) → Fits ((p.den : Int) * q.den) → ∀ W : World, Below w.heap.size w W → Calls Tryz.prog 39 #[.string (str (Lib.itoa (p.num * q.den - q.num * p.den))), .string (str (Lib.itoa ((p.den : Int) * q.den)))] W (Bret (.tuple #[.string (str (ratL (p - q))), .int .i64 0]) W) := fun f1 f2 W hW => by
    have := of_rat _ _ _ _ W (fits_str f1) (fits_str f2) (den_mul_ne p q) (hT.on hW).here
    rwa [divInt_sub p q] at this
  unfold opQ subF
  unfold combV trip at C3
  unfold ratS fracV at C1 C3
  by_cases h1 : Fits (p.num * q.den) ∧ Fits (q.num * p.den)
  · rw [if_pos h1] at C3
    by_cases h2 : Fits (p.num * q.den - q.num * p.den)
    · rw [if_pos h2] at C3
      by_cases h3 : Fits ((p.den : Int) * q.den)
      · rw [if_pos h3] at C3
        rw [if_pos (by simp only [Bool.and_eq_true, decide_eq_true_eq]; exact ⟨⟨h1, h2⟩, h3⟩)]
        exact comp2_0 s t _ _ _ _ _ _ _ w C1 C3 (C4 h2 h3)
      · rw [if_neg h3] at C3
        rw [if_neg (by simp only [Bool.and_eq_true, decide_eq_true_eq]; exact fun h => h3 h.2)]
        exact comp2_10 s t _ _ _ _ _ _ w C1 C3
    · rw [if_neg h2] at C3
      rw [if_neg (by simp only [Bool.and_eq_true, decide_eq_true_eq]; exact fun h => h2 h.1.2)]
      exact comp2_10 s t _ _ _ _ _ _ w C1 C3
  · rw [if_neg h1] at C3
    rw [if_neg (by simp only [Bool.and_eq_true, decide_eq_true_eq]; exact fun h => h1 h.1.1)]
    exact comp2_10 s t _ _ _ _ _ _ w C1 C3
theorem comp3_rat (s t : ByteArray) (p q : Rat) (w : World) (hs : RStr s p) (ht : RStr t q) (hls : s.size ≤ 1000000000) (hlt : t.size ≤ 1000000000) (htab : Lib.TabIs Tryz.prog w "internal/strconv.uint64pow10" .u64 Lib.pow10Tab) :
    Calls Tryz.prog 111 #[.int .u8 42, .string s, .string t] w (Bret (opQ (mulF p q) (p * q)) w) := by
  have hT := Lib.tabBelow_of_tabIs htab
  have C1 : ∀ W : World, Below w.heap.size w W → Calls Tryz.prog 106 #[.string s, .string t] W (Bret (.tuple #[ratS p, ratS q, .int .i64 0]) W) := fun W hW => by
    have := parseBoth_rat s t W hls hlt (hT.on hW).here
    rwa [bothR_ok (by unfold rerrBoth; rw [hs.rerr, if_pos rfl, ht.rerr]), hs.val, ht.val] at this
  have C3 : ∀ W : World, Below w.heap.size w W → Calls Tryz.prog 207 #[ratS p, ratS q] W (Bret (prodR (p.num * q.num) ((p.den : Int) * q.den)) W) := fun W hW => oper3 p q W hs.rs ht.rs (hT.on hW).here
  have C4 : Fits (p.num * q.num) → Fits ((p.den : Int) * q.den) → ∀ W : World, Below w.heap.size w W → Calls Tryz.prog 39 #[.string (str (Lib.itoa (p.num * q.num))), .string (str (Lib.itoa ((p.den : Int) * q.den)))] W (Bret (.tuple #[.string (str (ratL (p * q))), .int .i64 0]) W) := fun f1 f2 W hW => by
    have := of_rat _ _ _ _ W (fits_str f1) (fits_str f2) (den_mul_ne p q) (hT.on hW).here
    rwa [divInt_mul p q] at this
  unfold opQ mulF
  unfold prodR at C3
  unfold ratS fracV at C1 C3
  by_cases h1 : Fits (p.num * q.num) ∧ Fits ((p.den : Int) * q.den)
  · rw [if_pos h1] at C3
    rw [if_pos (by simp only [Bool.and_eq_true, decide_eq_true_eq]; exact h1)]
    exact comp3_0 s t _ _ _ _ _ _ _ w C1 C3 (C4 h1.1 h1.2)
  · rw [if_neg h1] at C3
    rw [if_neg (by simp only [Bool.and_eq_true, decide_eq_true_eq]; exact h1)]
    exact comp3_10 s t _ _ _ _ _ _ w C1 C3
theorem comp4_rat (s t : ByteArray) (p q : Rat) (w : World) (hs : RStr s p) (ht : RStr t q) (hls : s.size ≤ 1000000000) (hlt : t.size ≤ 1000000000) (h0 : q.num ≠ 0) (htab : Lib.TabIs Tryz.prog w "internal/strconv.uint64pow10" .u64 Lib.pow10Tab) :
    Calls Tryz.prog 111 #[.int .u8 47, .string s, .string t] w (Bret (opQ (divF p q) (p / q)) w) := by
  have hT := Lib.tabBelow_of_tabIs htab
  have C1 : ∀ W : World, Below w.heap.size w W → Calls Tryz.prog 106 #[.string s, .string t] W (Bret (.tuple #[ratS p, ratS q, .int .i64 0]) W) := fun W hW => by
    have := parseBoth_rat s t W hls hlt (hT.on hW).here
    rwa [bothR_ok (by unfold rerrBoth; rw [hs.rerr, if_pos rfl, ht.rerr]), hs.val, ht.val] at this
  have C3 : ∀ W : World, Below w.heap.size w W → Calls Tryz.prog 208 #[ratS p, ratS q] W (Bret (prodR (p.num * q.den) ((p.den : Int) * q.num)) W) := fun W hW => oper4 p q W hs.rs ht.rs h0 (hT.on hW).here
  have C4 : Fits (p.num * q.den) → Fits ((p.den : Int) * q.num) → ∀ W : World, Below w.heap.size w W → Calls Tryz.prog 39 #[.string (str (Lib.itoa (p.num * q.den))), .string (str (Lib.itoa ((p.den : Int) * q.num)))] W (Bret (.tuple #[.string (str (ratL (p / q))), .int .i64 0]) W) := fun f1 f2 W hW => by
    have := of_rat _ _ _ _ W (fits_str f1) (fits_str f2) (Int.mul_ne_zero (by have := p.den_pos; omega) h0) (hT.on hW).here
    rwa [divInt_div p q] at this
  unfold opQ divF
  unfold prodR at C3
  unfold ratS fracV at C1 C3
  by_cases h1 : Fits (p.num * q.den) ∧ Fits ((p.den : Int) * q.num)
  · rw [if_pos h1] at C3
    rw [if_pos (by simp only [Bool.and_eq_true, decide_eq_true_eq]; exact h1)]
    exact comp4_0 s t _ _ _ _ _ _ _ w C1 C3 (C4 h1.1 h1.2)
  · rw [if_neg h1] at C3
    rw [if_neg (by simp only [Bool.and_eq_true, decide_eq_true_eq]; exact h1)]
    exact comp4_10 s t _ _ _ _ _ _ w C1 C3
theorem comp4_zero (s t : ByteArray) (p : Rat) (w : World) (hs : RStr s p) (ht : RStr t 0) (hls : s.size ≤ 1000000000) (hlt : t.size ≤ 1000000000) (htab : Lib.TabIs Tryz.prog w "internal/strconv.uint64pow10" .u64 Lib.pow10Tab) :
    Calls Tryz.prog 111 #[.int .u8 47, .string s, .string t] w (Bret (errV 19) w) := by
  have hT := Lib.tabBelow_of_tabIs htab
  have C1 : ∀ W : World, Below w.heap.size w W → Calls Tryz.prog 106 #[.string s, .string t] W (Bret (.tuple #[ratS p, ratS 0, .int .i64 0]) W) := fun W hW => by
    have := parseBoth_rat s t W hls hlt (hT.on hW).here
    rwa [bothR_ok (by unfold rerrBoth; rw [hs.rerr, if_pos rfl, ht.rerr]), hs.val, ht.val] at this
  have C3 := fun W (_ : Below w.heap.size w W) => oper4_zero p W
  unfold trip at C3
  unfold ratS fracV at C1 C3
  exact comp4_19 s t _ _ _ _ _ _ w C1 C3
theorem comp_err (k : Int) (s t : ByteArray) (w : World) (hs : s.size ≤ 1000000000) (ht : t.size ≤ 1000000000) (h : rerrBoth (bytes s) (bytes t) ≠ 0) (htab : Lib.TabIs Tryz.prog w "internal/strconv.uint64pow10" .u64 Lib.pow10Tab) :
    Calls Tryz.prog 111 #[.int .u8 k, .string s, .string t] w (Bret (errV (rerrBoth (bytes s) (bytes t))) w) := by
  have C1 : ∀ W : World, Below w.heap.size w W → Calls Tryz.prog 106 #[.string s, .string t] W (Bret (bothR (bytes s) (bytes t)) W) := fun W hW => parseBoth_rat s t W hs ht ((Lib.tabBelow_of_tabIs htab).on hW).here
  rw [bothR_bad h] at C1
  unfold noFrac at C1
  rcases rerrBoth_cases (bytes s) (bytes t) with h1 | h1 | h1
  · exact absurd h1 h
  · rw [h1] at C1 ⊢; exact comp_bad3 k s t _ _ _ _ w C1
  · rw [h1] at C1 ⊢; exact comp_bad10 k s t _ _ _ _ w C1
theorem comp1_any (s t : ByteArray) (w : World) (hs : s.size ≤ 1000000000) (ht : t.size ≤ 1000000000) (htab : Lib.TabIs Tryz.prog w "internal/strconv.uint64pow10" .u64 Lib.pow10Tab) :
    Calls Tryz.prog 111 #[.int .u8 43, .string s, .string t] w (Bret (ratR2 addQ (bytes s) (bytes t)) w) := by
  unfold ratR2
  by_cases h : rerrBoth (bytes s) (bytes t) = 0
  · rw [if_pos h]
    obtain ⟨h1, h2⟩ := rerrBoth_zero h
    exact comp1_rat s t _ _ w (rstr_of_rerr h1) (rstr_of_rerr h2) hs ht htab
  · rw [if_neg h]
    exact comp_err 43 s t w hs ht h htab
theorem ratR2_addQ_parts (a b : List UInt8) : ∃ (u : ByteArray) (e : Nat), ratR2 addQ a b = .tuple #[.string u, .int .i64 e] := by
  unfold ratR2 addQ
  (repeat' split) <;> first | exact opQ_parts _ _ | exact ⟨_, _, rfl⟩
set_option maxHeartbeats 1000000 in
theorem ratAdd (s t : ByteArray) (w : World) (hs : s.size ≤ 1000000000) (ht : t.size ≤ 1000000000) (htab : Lib.TabIs Tryz.prog w "internal/strconv.uint64pow10" .u64 Lib.pow10Tab) :
    Calls Tryz.prog 43 #[.string s, .string t] w (Bret (ratR2 addQ (bytes s) (bytes t)) w) := by
  have C1 := comp1_any s t w hs ht htab
  obtain ⟨u, e, hr⟩ := ratR2_addQ_parts (bytes s) (bytes t)
  rw [hr] at C1 ⊢
  have K1 := Lib.hid (fun (_ : Unit) => C1); clear C1 hr hs ht htab
  go_enter Tryz.func43, Tryz.ntmps43
  go_wp2_with (go_at_call 111; refine (K1.out ()).mono ?_; rintro e w1 ⟨rfl, hb1⟩; refine Hid.out ?_)
  refine Lib.hid ?_
  go_wp2
  refine bodyPost_ret (by simp [results, Tryz.results43, go_sem]; rfl) rfl ?_
  exact ⟨rfl, hb1⟩

theorem comp2_any (s t : ByteArray) (w : World) (hs : s.size ≤ 1000000000) (ht : t.size ≤ 1000000000) (htab : Lib.TabIs Tryz.prog w "internal/strconv.uint64pow10" .u64 Lib.pow10Tab) :
    Calls Tryz.prog 111 #[.int .u8 45, .string s, .string t] w (Bret (ratR2 subQ (bytes s) (bytes t)) w) := by
  unfold ratR2
  by_cases h : rerrBoth (bytes s) (bytes t) = 0
  · rw [if_pos h]
    obtain ⟨h1, h2⟩ := rerrBoth_zero h
    exact comp2_rat s t _ _ w (rstr_of_rerr h1) (rstr_of_rerr h2) hs ht htab
  · rw [if_neg h]
    exact comp_err 45 s t w hs ht h htab
theorem ratR2_subQ_parts (a b : List UInt8) : ∃ (u : ByteArray) (e : Nat), ratR2 subQ a b = .tuple #[.string u, .int .i64 e] := by
  unfold ratR2 subQ
  (repeat' split) <;> first | exact opQ_parts _ _ | exact ⟨_, _, rfl⟩
set_option maxHeartbeats 1000000 in
theorem ratSub (s t : ByteArray) (w : World) (hs : s.size ≤ 1000000000) (ht : t.size ≤ 1000000000) (htab : Lib.TabIs Tryz.prog w "internal/strconv.uint64pow10" .u64 Lib.pow10Tab) :
    Calls Tryz.prog 45 #[.string s, .string t] w (Bret (ratR2 subQ (bytes s) (bytes t)) w) := by
  have C1 := comp2_any s t w hs ht htab
  obtain ⟨u, e, hr⟩ := ratR2_subQ_parts (bytes s) (bytes t)
  rw [hr] at C1 ⊢
  have K1 := Lib.hid (fun (_ : Unit) => C1); clear C1 hr hs ht htab
  go_enter Tryz.func45, Tryz.ntmps45
  go_wp2_with (go_at_call 111; refine (K1.out ()).mono ?_; rintro e w1 ⟨rfl, hb1⟩; refine Hid.out ?_)
  refine Lib.hid ?_
  go_wp2
  refine bodyPost_ret (by simp [results, Tryz.results45, go_sem]; rfl) rfl ?_
  exact ⟨rfl, hb1⟩

theorem comp3_any (s t : ByteArray) (w : World) (hs : s.size ≤ 1000000000) (ht : t.size ≤ 1000000000) (htab : Lib.TabIs Tryz.prog w "internal/strconv.uint64pow10" .u64 Lib.pow10Tab) :
    Calls Tryz.prog 111 #[.int .u8 42, .string s, .string t] w (Bret (ratR2 mulQ (bytes s) (bytes t)) w) := by
  unfold ratR2
  by_cases h : rerrBoth (bytes s) (bytes t) = 0
  · rw [if_pos h]
    obtain ⟨h1, h2⟩ := rerrBoth_zero h
    exact comp3_rat s t _ _ w (rstr_of_rerr h1) (rstr_of_rerr h2) hs ht htab
  · rw [if_neg h]
    exact comp_err 42 s t w hs ht h htab
theorem ratR2_mulQ_parts (a b : List UInt8) : ∃ (u : ByteArray) (e : Nat), ratR2 mulQ a b = .tuple #[.string u, .int .i64 e] := by
  unfold ratR2 mulQ
  (repeat' split) <;> first | exact opQ_parts _ _ | exact ⟨_, _, rfl⟩
set_option maxHeartbeats 1000000 in
theorem ratMul (s t : ByteArray) (w : World) (hs : s.size ≤ 1000000000) (ht : t.size ≤ 1000000000) (htab : Lib.TabIs Tryz.prog w "internal/strconv.uint64pow10" .u64 Lib.pow10Tab) :
    Calls Tryz.prog 47 #[.string s, .string t] w (Bret (ratR2 mulQ (bytes s) (bytes t)) w) := by
  have C1 := comp3_any s t w hs ht htab
  obtain ⟨u, e, hr⟩ := ratR2_mulQ_parts (bytes s) (bytes t)
  rw [hr] at C1 ⊢
  have K1 := Lib.hid (fun (_ : Unit) => C1); clear C1 hr hs ht htab
  go_enter Tryz.func47, Tryz.ntmps47
  go_wp2_with (go_at_call 111; refine (K1.out ()).mono ?_; rintro e w1 ⟨rfl, hb1⟩; refine Hid.out ?_)
  refine Lib.hid ?_
  go_wp2
  refine bodyPost_ret (by simp [results, Tryz.results47, go_sem]; rfl) rfl ?_
  exact ⟨rfl, hb1⟩

theorem comp4_any (s t : ByteArray) (w : World) (hs : s.size ≤ 1000000000) (ht : t.size ≤ 1000000000) (htab : Lib.TabIs Tryz.prog w "internal/strconv.uint64pow10" .u64 Lib.pow10Tab) :
    Calls Tryz.prog 111 #[.int .u8 47, .string s, .string t] w (Bret (ratR2 divQ (bytes s) (bytes t)) w) := by
  unfold ratR2
  by_cases h : rerrBoth (bytes s) (bytes t) = 0
  · rw [if_pos h]
    obtain ⟨h1, h2⟩ := rerrBoth_zero h
    unfold divQ
    by_cases hz : ratV (bytes t) = 0
    · rw [if_pos hz]
      exact comp4_zero s t _ w (rstr_of_rerr h1) (hz ▸ rstr_of_rerr h2) hs ht htab
    · rw [if_neg hz]
      exact comp4_rat s t _ _ w (rstr_of_rerr h1) (rstr_of_rerr h2) hs ht (fun e => hz (Rat.num_eq_zero.1 e)) htab
  · rw [if_neg h]
    exact comp_err 47 s t w hs ht h htab
theorem ratR2_divQ_parts (a b : List UInt8) : ∃ (u : ByteArray) (e : Nat), ratR2 divQ a b = .tuple #[.string u, .int .i64 e] := by
  unfold ratR2 divQ
  (repeat' split) <;> first | exact opQ_parts _ _ | exact ⟨_, _, rfl⟩
set_option maxHeartbeats 1000000 in
theorem ratDiv (s t : ByteArray) (w : World) (hs : s.size ≤ 1000000000) (ht : t.size ≤ 1000000000) (htab : Lib.TabIs Tryz.prog w "internal/strconv.uint64pow10" .u64 Lib.pow10Tab) :
    Calls Tryz.prog 49 #[.string s, .string t] w (Bret (ratR2 divQ (bytes s) (bytes t)) w) := by
  have C1 := comp4_any s t w hs ht htab
  obtain ⟨u, e, hr⟩ := ratR2_divQ_parts (bytes s) (bytes t)
  rw [hr] at C1 ⊢
  have K1 := Lib.hid (fun (_ : Unit) => C1); clear C1 hr hs ht htab
  go_enter Tryz.func49, Tryz.ntmps49
  go_wp2_with (go_at_call 111; refine (K1.out ()).mono ?_; rintro e w1 ⟨rfl, hb1⟩; refine Hid.out ?_)
  refine Lib.hid ?_
  go_wp2
  refine bodyPost_ret (by simp [results, Tryz.results49, go_sem]; rfl) rfl ?_
  exact ⟨rfl, hb1⟩

theorem parse_ok (s : ByteArray) (q : Rat) (w : World) (hs : RStr s q) (hls : s.size ≤ 1000000000) (htab : Lib.TabIs Tryz.prog w "internal/strconv.uint64pow10" .u64 Lib.pow10Tab) : Calls Tryz.prog 95 #[.string s] w (Bret (.tuple #[ratS q, .int .i64 0]) w) := by
  have := parse_rat s w hls htab
  rwa [parseR_ok hs.rerr, hs.val] at this
theorem parse_bad_any (s : ByteArray) (w : World) (hs : s.size ≤ 1000000000) (h : rerr (bytes s) ≠ 0) (htab : Lib.TabIs Tryz.prog w "internal/strconv.uint64pow10" .u64 Lib.pow10Tab) : Calls Tryz.prog 95 #[.string s] w (Bret (.tuple #[.agg #[.string ⟨#[]⟩, .string ⟨#[]⟩], .int .i64 (rerr (bytes s) : Nat)]) w) := by
  have := parse_rat s w hs htab
  rwa [parseR_err rfl h] at this
def numQ (q : Rat) : Value := .tuple #[.string (str (Lib.itoa q.num)), .int .i64 0]
def denQ (q : Rat) : Value := .tuple #[.string (str (Lib.itoa (q.den : Int))), .int .i64 0]
def negQ (q : Rat) : Value := .tuple #[.string (str (ratL (-q))), .int .i64 0]
def floorQ (q : Rat) : Value := .tuple #[.string (str (Lib.itoa q.floor)), .int .i64 0]
def ceilQ (q : Rat) : Value := .tuple #[.string (str (Lib.itoa q.ceil)), .int .i64 0]
theorem RatS.neg {q : Rat} (h : RatS q) : RatS (-q) := ⟨by rw [Rat.neg_num]; exact str_itoa (by rw [Int.natAbs_neg]; exact h.num.len), by rw [Rat.neg_den]; exact h.den⟩
theorem fdiv_floor (q : Rat) : q.num.fdiv q.den = q.floor := by rw [Rat.floor_def, Int.fdiv_eq_ediv_of_nonneg _ (Int.natCast_nonneg _)]
theorem fdiv_ceil (q : Rat) : -((-q.num).fdiv q.den) = q.ceil := by rw [Rat.ceil_eq_neg_floor_neg, ← fdiv_floor (-q), Rat.neg_num, Rat.neg_den]
theorem den_ne (q : Rat) : (q.den : Int) ≠ 0 := by have := q.den_pos; omega
set_option maxHeartbeats 1000000 in
theorem ratNumS (s : ByteArray) (q : Rat) (w : World) (hs : RStr s q) (hls : s.size ≤ 1000000000) (htab : Lib.TabIs Tryz.prog w "internal/strconv.uint64pow10" .u64 Lib.pow10Tab) :
    Calls Tryz.prog 27 #[.string s] w (Bret (numQ q) w) := by
  have hT := Lib.tabBelow_of_tabIs htab
  have C1 : ∀ W : World, Below w.heap.size w W → Calls Tryz.prog 95 #[.string s] W (Bret (.tuple #[ratS q, .int .i64 0]) W) := fun W hW => parse_ok s q W hs hls (hT.on hW).here
  unfold ratS fracV at *
  unfold numQ
  generalize str (Lib.itoa q.num) = a1 at *
  generalize str (Lib.itoa (q.den : Int)) = a2 at *
  have K1 := Lib.hid C1
  clear C1 hs hls hT htab
  go_enter Tryz.func27, Tryz.ntmps27
  go_wp2_with (go_at_call 95; refine (K1.out _ (Below.refl _ _)).mono ?_; rintro e w1 ⟨rfl, hb1⟩; refine Hid.out ?_)
  have B1 : Below w.heap.size w (w1.alloc (Obj.cells #[Value.string a1, Value.string a2] 103)) := Below.chain hb1 ((Below.refl _ _).alloc (Nat.le_refl _) _)
  have HB1 := Lib.hid B1; clear hb1 B1
  refine Lib.hid ?_
  go_wp2
  refine bodyPost_ret (by simp [results, Tryz.results27, go_sem]; rfl) rfl ?_
  exact ⟨rfl, HB1.out⟩
set_option maxHeartbeats 1000000 in
theorem ratNum_3 (s : ByteArray) (w : World)
    (C1 : ∀ W : World, Below w.heap.size w W → Calls Tryz.prog 95 #[.string s] W (Bret (.tuple #[.agg #[.string ⟨#[]⟩, .string ⟨#[]⟩], .int .i64 3]) W)) :
    Calls Tryz.prog 27 #[.string s] w (Bret (errV 3) w) := by
  unfold errV
  have K1 := Lib.hid C1; clear C1
  go_enter Tryz.func27, Tryz.ntmps27
  go_wp2_with (go_at_call 95; refine (K1.out _ (Below.refl _ _)).mono ?_; rintro e w1 ⟨rfl, hb1⟩; refine Hid.out ?_)
  have B1 : Below w.heap.size w (w1.alloc (Obj.cells #[Value.string ⟨#[]⟩, Value.string ⟨#[]⟩] 103)) := Below.chain hb1 ((Below.refl _ _).alloc (Nat.le_refl _) _)
  have HB1 := Lib.hid B1; clear hb1 B1
  refine Lib.hid ?_
  go_wp2
  refine bodyPost_ret (by simp [results, Tryz.results27, go_sem]; rfl) rfl ?_
  exact ⟨rfl, HB1.out⟩
set_option maxHeartbeats 1000000 in
theorem ratNum_10 (s : ByteArray) (w : World)
    (C1 : ∀ W : World, Below w.heap.size w W → Calls Tryz.prog 95 #[.string s] W (Bret (.tuple #[.agg #[.string ⟨#[]⟩, .string ⟨#[]⟩], .int .i64 10]) W)) :
    Calls Tryz.prog 27 #[.string s] w (Bret (errV 10) w) := by
  unfold errV
  have K1 := Lib.hid C1; clear C1
  go_enter Tryz.func27, Tryz.ntmps27
  go_wp2_with (go_at_call 95; refine (K1.out _ (Below.refl _ _)).mono ?_; rintro e w1 ⟨rfl, hb1⟩; refine Hid.out ?_)
  have B1 : Below w.heap.size w (w1.alloc (Obj.cells #[Value.string ⟨#[]⟩, Value.string ⟨#[]⟩] 103)) := Below.chain hb1 ((Below.refl _ _).alloc (Nat.le_refl _) _)
  have HB1 := Lib.hid B1; clear hb1 B1
  refine Lib.hid ?_
  go_wp2
  refine bodyPost_ret (by simp [results, Tryz.results27, go_sem]; rfl) rfl ?_
  exact ⟨rfl, HB1.out⟩
theorem ratNum (s : ByteArray) (w : World) (hs : s.size ≤ 1000000000) (htab : Lib.TabIs Tryz.prog w "internal/strconv.uint64pow10" .u64 Lib.pow10Tab) :
    Calls Tryz.prog 27 #[.string s] w (Bret (ratR1 numQ (bytes s)) w) := by
  unfold ratR1
  by_cases h : rerr (bytes s) = 0
  · rw [if_pos h]
    exact ratNumS s _ w (rstr_of_rerr h) hs htab
  · rw [if_neg h]
    have C1 : ∀ W : World, Below w.heap.size w W → _ := fun W hW => parse_bad_any s W hs h ((Lib.tabBelow_of_tabIs htab).on hW).here
    rcases rerr_cases (bytes s) with h1 | h1 | h1
    · exact absurd h1 h
    · rw [h1] at C1 ⊢; exact ratNum_3 s w C1
    · rw [h1] at C1 ⊢; exact ratNum_10 s w C1

set_option maxHeartbeats 1000000 in
theorem ratDenS (s : ByteArray) (q : Rat) (w : World) (hs : RStr s q) (hls : s.size ≤ 1000000000) (htab : Lib.TabIs Tryz.prog w "internal/strconv.uint64pow10" .u64 Lib.pow10Tab) :
    Calls Tryz.prog 28 #[.string s] w (Bret (denQ q) w) := by
  have hT := Lib.tabBelow_of_tabIs htab
  have C1 : ∀ W : World, Below w.heap.size w W → Calls Tryz.prog 95 #[.string s] W (Bret (.tuple #[ratS q, .int .i64 0]) W) := fun W hW => parse_ok s q W hs hls (hT.on hW).here
  unfold ratS fracV at *
  unfold denQ
  generalize str (Lib.itoa q.num) = a1 at *
  generalize str (Lib.itoa (q.den : Int)) = a2 at *
  have K1 := Lib.hid C1
  clear C1 hs hls hT htab
  go_enter Tryz.func28, Tryz.ntmps28
  go_wp2_with (go_at_call 95; refine (K1.out _ (Below.refl _ _)).mono ?_; rintro e w1 ⟨rfl, hb1⟩; refine Hid.out ?_)
  have B1 : Below w.heap.size w (w1.alloc (Obj.cells #[Value.string a1, Value.string a2] 103)) := Below.chain hb1 ((Below.refl _ _).alloc (Nat.le_refl _) _)
  have HB1 := Lib.hid B1; clear hb1 B1
  refine Lib.hid ?_
  go_wp2
  refine bodyPost_ret (by simp [results, Tryz.results28, go_sem]; rfl) rfl ?_
  exact ⟨rfl, HB1.out⟩
set_option maxHeartbeats 1000000 in
theorem ratDen_3 (s : ByteArray) (w : World)
    (C1 : ∀ W : World, Below w.heap.size w W → Calls Tryz.prog 95 #[.string s] W (Bret (.tuple #[.agg #[.string ⟨#[]⟩, .string ⟨#[]⟩], .int .i64 3]) W)) :
    Calls Tryz.prog 28 #[.string s] w (Bret (errV 3) w) := by
  unfold errV
  have K1 := Lib.hid C1; clear C1
  go_enter Tryz.func28, Tryz.ntmps28
  go_wp2_with (go_at_call 95; refine (K1.out _ (Below.refl _ _)).mono ?_; rintro e w1 ⟨rfl, hb1⟩; refine Hid.out ?_)
  have B1 : Below w.heap.size w (w1.alloc (Obj.cells #[Value.string ⟨#[]⟩, Value.string ⟨#[]⟩] 103)) := Below.chain hb1 ((Below.refl _ _).alloc (Nat.le_refl _) _)
  have HB1 := Lib.hid B1; clear hb1 B1
  refine Lib.hid ?_
  go_wp2
  refine bodyPost_ret (by simp [results, Tryz.results28, go_sem]; rfl) rfl ?_
  exact ⟨rfl, HB1.out⟩
set_option maxHeartbeats 1000000 in
theorem ratDen_10 (s : ByteArray) (w : World)
    (C1 : ∀ W : World, Below w.heap.size w W → Calls Tryz.prog 95 #[.string s] W (Bret (.tuple #[.agg #[.string ⟨#[]⟩, .string ⟨#[]⟩], .int .i64 10]) W)) :
    Calls Tryz.prog 28 #[.string s] w (Bret (errV 10) w) := by
  unfold errV
  have K1 := Lib.hid C1; clear C1
  go_enter Tryz.func28, Tryz.ntmps28
  go_wp2_with (go_at_call 95; refine (K1.out _ (Below.refl _ _)).mono ?_; rintro e w1 ⟨rfl, hb1⟩; refine Hid.out ?_)
  have B1 : Below w.heap.size w (w1.alloc (Obj.cells #[Value.string ⟨#[]⟩, Value.string ⟨#[]⟩] 103)) := Below.chain hb1 ((Below.refl _ _).alloc (Nat.le_refl _) _)
  have HB1 := Lib.hid B1; clear hb1 B1
  refine Lib.hid ?_
  go_wp2
  refine bodyPost_ret (by simp [results, Tryz.results28, go_sem]; rfl) rfl ?_
  exact ⟨rfl, HB1.out⟩
theorem ratDen (s : ByteArray) (w : World) (hs : s.size ≤ 1000000000) (htab : Lib.TabIs Tryz.prog w "internal/strconv.uint64pow10" .u64 Lib.pow10Tab) :
    Calls Tryz.prog 28 #[.string s] w (Bret (ratR1 denQ (bytes s)) w) := by
  unfold ratR1
  by_cases h : rerr (bytes s) = 0
  · rw [if_pos h]
    exact ratDenS s _ w (rstr_of_rerr h) hs htab
  · rw [if_neg h]
    have C1 : ∀ W : World, Below w.heap.size w W → _ := fun W hW => parse_bad_any s W hs h ((Lib.tabBelow_of_tabIs htab).on hW).here
    rcases rerr_cases (bytes s) with h1 | h1 | h1
    · exact absurd h1 h
    · rw [h1] at C1 ⊢; exact ratDen_3 s w C1
    · rw [h1] at C1 ⊢; exact ratDen_10 s w C1

set_option maxHeartbeats 1000000 in
theorem ratNegS (s : ByteArray) (q : Rat) (w : World) (hs : RStr s q) (hls : s.size ≤ 1000000000) (htab : Lib.TabIs Tryz.prog w "internal/strconv.uint64pow10" .u64 Lib.pow10Tab) :
    Calls Tryz.prog 29 #[.string s] w (Bret (negQ q) w) := by
  have hT := Lib.tabBelow_of_tabIs htab
  have C1 : ∀ W : World, Below w.heap.size w W → Calls Tryz.prog 95 #[.string s] W (Bret (.tuple #[ratS q, .int .i64 0]) W) := fun W hW => parse_ok s q W hs hls (hT.on hW).here
  have C2 := fun W => negZ _ _ W hs.rs.num
  have C3 := fun W => text_rat (-q) W (by have := hs.rs.neg.num.size; omega) (by have := hs.rs.neg.den.size; omega)
  rw [Rat.neg_num, Rat.neg_den] at C3
  unfold ratS fracV at *
  unfold negQ
  generalize str (ratL (-q)) = r at *
  generalize str (Lib.itoa (-q.num)) = a3 at *
  generalize str (Lib.itoa q.num) = a1 at *
  generalize str (Lib.itoa (q.den : Int)) = a2 at *
  have K1 := Lib.hid C1; have K2 := Lib.hid C2; have K3 := Lib.hid C3
  clear C1 C2 C3 hs hls hT htab
  go_enter Tryz.func29, Tryz.ntmps29
  go_wp2_with (go_at_call 95; refine (K1.out _ (Below.refl _ _)).mono ?_; rintro e w1 ⟨rfl, hb1⟩; refine Hid.out ?_)
  have B1 : Below w.heap.size w (w1.alloc (Obj.cells #[Value.string a1, Value.string a2] 103)) := Below.chain hb1 ((Below.refl _ _).alloc (Nat.le_refl _) _)
  have HB1 := Lib.hid B1; clear hb1 B1
  refine Lib.hid ?_
  go_wp2_with (go_at_call 54; refine (K2.out _).mono ?_; rintro e w2 ⟨rfl, h⟩; subst h; refine Hid.out ?_)
  refine Lib.hid ?_
  go_wp2_with (go_at_call 96; refine (K3.out _).mono ?_; rintro e w3 ⟨rfl, hb3⟩; refine Hid.out ?_)
  have HB3 := Lib.hid (Below.chain HB1.out hb3); clear hb3
  refine Lib.hid ?_
  go_wp2
  refine bodyPost_ret (by simp [results, Tryz.results29, go_sem]; rfl) rfl ?_
  exact ⟨rfl, HB3.out⟩
set_option maxHeartbeats 1000000 in
theorem ratNeg_3 (s : ByteArray) (w : World)
    (C1 : ∀ W : World, Below w.heap.size w W → Calls Tryz.prog 95 #[.string s] W (Bret (.tuple #[.agg #[.string ⟨#[]⟩, .string ⟨#[]⟩], .int .i64 3]) W)) :
    Calls Tryz.prog 29 #[.string s] w (Bret (errV 3) w) := by
  unfold errV
  have K1 := Lib.hid C1; clear C1
  go_enter Tryz.func29, Tryz.ntmps29
  go_wp2_with (go_at_call 95; refine (K1.out _ (Below.refl _ _)).mono ?_; rintro e w1 ⟨rfl, hb1⟩; refine Hid.out ?_)
  have B1 : Below w.heap.size w (w1.alloc (Obj.cells #[Value.string ⟨#[]⟩, Value.string ⟨#[]⟩] 103)) := Below.chain hb1 ((Below.refl _ _).alloc (Nat.le_refl _) _)
  have HB1 := Lib.hid B1; clear hb1 B1
  refine Lib.hid ?_
  go_wp2
  refine bodyPost_ret (by simp [results, Tryz.results29, go_sem]; rfl) rfl ?_
  exact ⟨rfl, HB1.out⟩
set_option maxHeartbeats 1000000 in
theorem ratNeg_10 (s : ByteArray) (w : World)
    (C1 : ∀ W : World, Below w.heap.size w W → Calls Tryz.prog 95 #[.string s] W (Bret (.tuple #[.agg #[.string ⟨#[]⟩, .string ⟨#[]⟩], .int .i64 10]) W)) :
    Calls Tryz.prog 29 #[.string s] w (Bret (errV 10) w) := by
  unfold errV
  have K1 := Lib.hid C1; clear C1
  go_enter Tryz.func29, Tryz.ntmps29
  go_wp2_with (go_at_call 95; refine (K1.out _ (Below.refl _ _)).mono ?_; rintro e w1 ⟨rfl, hb1⟩; refine Hid.out ?_)
  have B1 : Below w.heap.size w (w1.alloc (Obj.cells #[Value.string ⟨#[]⟩, Value.string ⟨#[]⟩] 103)) := Below.chain hb1 ((Below.refl _ _).alloc (Nat.le_refl _) _)
  have HB1 := Lib.hid B1; clear hb1 B1
  refine Lib.hid ?_
  go_wp2
  refine bodyPost_ret (by simp [results, Tryz.results29, go_sem]; rfl) rfl ?_
  exact ⟨rfl, HB1.out⟩
theorem ratNeg (s : ByteArray) (w : World) (hs : s.size ≤ 1000000000) (htab : Lib.TabIs Tryz.prog w "internal/strconv.uint64pow10" .u64 Lib.pow10Tab) :
    Calls Tryz.prog 29 #[.string s] w (Bret (ratR1 negQ (bytes s)) w) := by
  unfold ratR1
  by_cases h : rerr (bytes s) = 0
  · rw [if_pos h]
    exact ratNegS s _ w (rstr_of_rerr h) hs htab
  · rw [if_neg h]
    have C1 : ∀ W : World, Below w.heap.size w W → _ := fun W hW => parse_bad_any s W hs h ((Lib.tabBelow_of_tabIs htab).on hW).here
    rcases rerr_cases (bytes s) with h1 | h1 | h1
    · exact absurd h1 h
    · rw [h1] at C1 ⊢; exact ratNeg_3 s w C1
    · rw [h1] at C1 ⊢; exact ratNeg_10 s w C1

set_option maxHeartbeats 1000000 in
theorem ratFloorS (s : ByteArray) (q : Rat) (w : World) (hs : RStr s q) (hls : s.size ≤ 1000000000) (htab : Lib.TabIs Tryz.prog w "internal/strconv.uint64pow10" .u64 Lib.pow10Tab) :
    Calls Tryz.prog 30 #[.string s] w (Bret (floorQ q) w) := by
  have hT := Lib.tabBelow_of_tabIs htab
  have C1 : ∀ W : World, Below w.heap.size w W → Calls Tryz.prog 95 #[.string s] W (Bret (.tuple #[ratS q, .int .i64 0]) W) := fun W hW => parse_ok s q W hs hls (hT.on hW).here
  have C2 : ∀ W : World, Below w.heap.size w W → Calls Tryz.prog 65 #[.string (str (Lib.itoa q.num)), .string (str (Lib.itoa (q.den : Int)))] W (Bret (.tuple #[.string (str (Lib.itoa q.floor)), .int .i64 0]) W) := fun W hW => by
    have := quoZ _ _ _ _ W hs.rs.num hs.rs.den (den_ne q) (hT.on hW).here
    rwa [resV_lit (fdiv_len (t := s) hs.rs.num (den_ne q)), fdiv_floor] at this
  unfold ratS fracV at *
  unfold floorQ
  generalize str (Lib.itoa q.floor) = r at *
  generalize str (Lib.itoa q.num) = a1 at *
  generalize str (Lib.itoa (q.den : Int)) = a2 at *
  have K1 := Lib.hid C1; have K2 := Lib.hid C2
  clear C1 C2 hs hls hT htab
  go_enter Tryz.func30, Tryz.ntmps30
  go_wp2_with (go_at_call 95; refine (K1.out _ (Below.refl _ _)).mono ?_; rintro e w1 ⟨rfl, hb1⟩; refine Hid.out ?_)
  have B1 : Below w.heap.size w (w1.alloc (Obj.cells #[Value.string a1, Value.string a2] 103)) := Below.chain hb1 ((Below.refl _ _).alloc (Nat.le_refl _) _)
  have HB1 := Lib.hid B1; clear hb1 B1
  refine Lib.hid ?_
  go_wp2_with (go_at_call 65; refine (K2.out _ HB1.out).mono ?_; rintro e w2 ⟨rfl, hb2⟩; refine Hid.out ?_)
  have HB2 := Lib.hid (Below.chain HB1.out hb2); clear hb2
  refine Lib.hid ?_
  go_wp2
  refine bodyPost_ret (by simp [results, Tryz.results30, go_sem]; rfl) rfl ?_
  exact ⟨rfl, HB2.out⟩
set_option maxHeartbeats 1000000 in
theorem ratFloor_3 (s : ByteArray) (w : World)
    (C1 : ∀ W : World, Below w.heap.size w W → Calls Tryz.prog 95 #[.string s] W (Bret (.tuple #[.agg #[.string ⟨#[]⟩, .string ⟨#[]⟩], .int .i64 3]) W)) :
    Calls Tryz.prog 30 #[.string s] w (Bret (errV 3) w) := by
  unfold errV
  have K1 := Lib.hid C1; clear C1
  go_enter Tryz.func30, Tryz.ntmps30
  go_wp2_with (go_at_call 95; refine (K1.out _ (Below.refl _ _)).mono ?_; rintro e w1 ⟨rfl, hb1⟩; refine Hid.out ?_)
  have B1 : Below w.heap.size w (w1.alloc (Obj.cells #[Value.string ⟨#[]⟩, Value.string ⟨#[]⟩] 103)) := Below.chain hb1 ((Below.refl _ _).alloc (Nat.le_refl _) _)
  have HB1 := Lib.hid B1; clear hb1 B1
  refine Lib.hid ?_
  go_wp2
  refine bodyPost_ret (by simp [results, Tryz.results30, go_sem]; rfl) rfl ?_
  exact ⟨rfl, HB1.out⟩
set_option maxHeartbeats 1000000 in
theorem ratFloor_10 (s : ByteArray) (w : World)
    (C1 : ∀ W : World, Below w.heap.size w W → Calls Tryz.prog 95 #[.string s] W (Bret (.tuple #[.agg #[.string ⟨#[]⟩, .string ⟨#[]⟩], .int .i64 10]) W)) :
    Calls Tryz.prog 30 #[.string s] w (Bret (errV 10) w) := by
  unfold errV
  have K1 := Lib.hid C1; clear C1
  go_enter Tryz.func30, Tryz.ntmps30
  go_wp2_with (go_at_call 95; refine (K1.out _ (Below.refl _ _)).mono ?_; rintro e w1 ⟨rfl, hb1⟩; refine Hid.out ?_)
  have B1 : Below w.heap.size w (w1.alloc (Obj.cells #[Value.string ⟨#[]⟩, Value.string ⟨#[]⟩] 103)) := Below.chain hb1 ((Below.refl _ _).alloc (Nat.le_refl _) _)
  have HB1 := Lib.hid B1; clear hb1 B1
  refine Lib.hid ?_
  go_wp2
  refine bodyPost_ret (by simp [results, Tryz.results30, go_sem]; rfl) rfl ?_
  exact ⟨rfl, HB1.out⟩
theorem ratFloor (s : ByteArray) (w : World) (hs : s.size ≤ 1000000000) (htab : Lib.TabIs Tryz.prog w "internal/strconv.uint64pow10" .u64 Lib.pow10Tab) :
    Calls Tryz.prog 30 #[.string s] w (Bret (ratR1 floorQ (bytes s)) w) := by
  unfold ratR1
  by_cases h : rerr (bytes s) = 0
  · rw [if_pos h]
    exact ratFloorS s _ w (rstr_of_rerr h) hs htab
  · rw [if_neg h]
    have C1 : ∀ W : World, Below w.heap.size w W → _ := fun W hW => parse_bad_any s W hs h ((Lib.tabBelow_of_tabIs htab).on hW).here
    rcases rerr_cases (bytes s) with h1 | h1 | h1
    · exact absurd h1 h
    · rw [h1] at C1 ⊢; exact ratFloor_3 s w C1
    · rw [h1] at C1 ⊢; exact ratFloor_10 s w C1

set_option maxHeartbeats 1000000 in
theorem ratCeilS (s : ByteArray) (q : Rat) (w : World) (hs : RStr s q) (hls : s.size ≤ 1000000000) (htab : Lib.TabIs Tryz.prog w "internal/strconv.uint64pow10" .u64 Lib.pow10Tab) :
    Calls Tryz.prog 31 #[.string s] w (Bret (ceilQ q) w) := by
  have hT := Lib.tabBelow_of_tabIs htab
  have C1 : ∀ W : World, Below w.heap.size w W → Calls Tryz.prog 95 #[.string s] W (Bret (.tuple #[ratS q, .int .i64 0]) W) := fun W hW => parse_ok s q W hs hls (hT.on hW).here
  have hneg : Str (str (Lib.itoa (-q.num))) (-q.num) := hs.rs.neg.num
  have hq := fdiv_len (t := s) hneg (den_ne q)
  have C2 := fun W => negZ _ _ W hs.rs.num
  have C3 : ∀ W : World, Below w.heap.size w W → Calls Tryz.prog 65 #[.string (str (Lib.itoa (-q.num))), .string (str (Lib.itoa (q.den : Int)))] W (Bret (.tuple #[.string (str (Lib.itoa ((-q.num).fdiv q.den))), .int .i64 0]) W) := fun W hW => by
    have := quoZ _ _ _ _ W hneg hs.rs.den (den_ne q) (hT.on hW).here
    rwa [resV_lit hq] at this
  have C4 := fun W => negZ _ _ W hq
  rw [fdiv_ceil] at C4
  clear hneg hq
  unfold ratS fracV at *
  unfold ceilQ
  generalize str (Lib.itoa q.ceil) = r at *
  generalize str (Lib.itoa ((-q.num).fdiv q.den)) = a4 at *
  generalize str (Lib.itoa (-q.num)) = a3 at *
  generalize str (Lib.itoa q.num) = a1 at *
  generalize str (Lib.itoa (q.den : Int)) = a2 at *
  have K1 := Lib.hid C1; have K2 := Lib.hid C2; have K3 := Lib.hid C3; have K4 := Lib.hid C4
  clear C1 C2 C3 C4 hs hls hT htab
  go_enter Tryz.func31, Tryz.ntmps31
  go_wp2_with (go_at_call 95; refine (K1.out _ (Below.refl _ _)).mono ?_; rintro e w1 ⟨rfl, hb1⟩; refine Hid.out ?_)
  have B1 : Below w.heap.size w (w1.alloc (Obj.cells #[Value.string a1, Value.string a2] 103)) := Below.chain hb1 ((Below.refl _ _).alloc (Nat.le_refl _) _)
  have HB1 := Lib.hid B1; clear hb1 B1
  refine Lib.hid ?_
  go_wp2_with (go_at_call 54; refine (K2.out _).mono ?_; rintro e w2 ⟨rfl, h⟩; subst h; refine Hid.out ?_)
  refine Lib.hid ?_
  go_wp2_with (go_at_call 65; refine (K3.out _ HB1.out).mono ?_; rintro e w3 ⟨rfl, hb3⟩; refine Hid.out ?_)
  have HB3 := Lib.hid (Below.chain HB1.out hb3); clear hb3
  refine Lib.hid ?_
  go_wp2_with (go_at_call 54; refine (K4.out _).mono ?_; rintro e w4 ⟨rfl, h⟩; subst h; refine Hid.out ?_)
  refine Lib.hid ?_
  go_wp2
  refine bodyPost_ret (by simp [results, Tryz.results31, go_sem]; rfl) rfl ?_
  exact ⟨rfl, HB3.out⟩
set_option maxHeartbeats 1000000 in
theorem ratCeil_3 (s : ByteArray) (w : World)
    (C1 : ∀ W : World, Below w.heap.size w W → Calls Tryz.prog 95 #[.string s] W (Bret (.tuple #[.agg #[.string ⟨#[]⟩, .string ⟨#[]⟩], .int .i64 3]) W)) :
    Calls Tryz.prog 31 #[.string s] w (Bret (errV 3) w) := by
  unfold errV
  have K1 := Lib.hid C1; clear C1
  go_enter Tryz.func31, Tryz.ntmps31
  go_wp2_with (go_at_call 95; refine (K1.out _ (Below.refl _ _)).mono ?_; rintro e w1 ⟨rfl, hb1⟩; refine Hid.out ?_)
  have B1 : Below w.heap.size w (w1.alloc (Obj.cells #[Value.string ⟨#[]⟩, Value.string ⟨#[]⟩] 103)) := Below.chain hb1 ((Below.refl _ _).alloc (Nat.le_refl _) _)
  have HB1 := Lib.hid B1; clear hb1 B1
  refine Lib.hid ?_
  go_wp2
  refine bodyPost_ret (by simp [results, Tryz.results31, go_sem]; rfl) rfl ?_
  exact ⟨rfl, HB1.out⟩
set_option maxHeartbeats 1000000 in
theorem ratCeil_10 (s : ByteArray) (w : World)
    (C1 : ∀ W : World, Below w.heap.size w W → Calls Tryz.prog 95 #[.string s] W (Bret (.tuple #[.agg #[.string ⟨#[]⟩, .string ⟨#[]⟩], .int .i64 10]) W)) :
    Calls Tryz.prog 31 #[.string s] w (Bret (errV 10) w) := by
  unfold errV
  have K1 := Lib.hid C1; clear C1
  go_enter Tryz.func31, Tryz.ntmps31
  go_wp2_with (go_at_call 95; refine (K1.out _ (Below.refl _ _)).mono ?_; rintro e w1 ⟨rfl, hb1⟩; refine Hid.out ?_)
  have B1 : Below w.heap.size w (w1.alloc (Obj.cells #[Value.string ⟨#[]⟩, Value.string ⟨#[]⟩] 103)) := Below.chain hb1 ((Below.refl _ _).alloc (Nat.le_refl _) _)
  have HB1 := Lib.hid B1; clear hb1 B1
  refine Lib.hid ?_
  go_wp2
  refine bodyPost_ret (by simp [results, Tryz.results31, go_sem]; rfl) rfl ?_
  exact ⟨rfl, HB1.out⟩
theorem ratCeil (s : ByteArray) (w : World) (hs : s.size ≤ 1000000000) (htab : Lib.TabIs Tryz.prog w "internal/strconv.uint64pow10" .u64 Lib.pow10Tab) :
    Calls Tryz.prog 31 #[.string s] w (Bret (ratR1 ceilQ (bytes s)) w) := by
  unfold ratR1
  by_cases h : rerr (bytes s) = 0
  · rw [if_pos h]
    exact ratCeilS s _ w (rstr_of_rerr h) hs htab
  · rw [if_neg h]
    have C1 : ∀ W : World, Below w.heap.size w W → _ := fun W hW => parse_bad_any s W hs h ((Lib.tabBelow_of_tabIs htab).on hW).here
    rcases rerr_cases (bytes s) with h1 | h1 | h1
    · exact absurd h1 h
    · rw [h1] at C1 ⊢; exact ratCeil_3 s w C1
    · rw [h1] at C1 ⊢; exact ratCeil_10 s w C1

set_option maxHeartbeats 1000000 in
theorem check_gen (s a1 a2 : ByteArray) (e : Nat) (w : World)
    (C1 : ∀ W : World, Below w.heap.size w W → Calls Tryz.prog 95 #[.string s] W (Bret (.tuple #[.agg #[.string a1, .string a2], .int .i64 e]) W)) :
    Calls Tryz.prog 37 #[.string s] w (Bret (.int .i64 e) w) := by
  have K1 := Lib.hid C1; clear C1
  go_enter Tryz.func37, Tryz.ntmps37
  go_wp2_with (go_at_call 95; refine (K1.out _ (Below.refl _ _)).mono ?_; rintro e w1 ⟨rfl, hb1⟩; refine Hid.out ?_)
  have B1 : Below w.heap.size w (w1.alloc (Obj.cells #[Value.string a1, Value.string a2] 103)) := Below.chain hb1 ((Below.refl _ _).alloc (Nat.le_refl _) _)
  have HB1 := Lib.hid B1; clear hb1 B1
  refine Lib.hid ?_
  go_wp2
  go_ret
  exact ⟨rfl, HB1.out⟩
theorem ratCheck (s : ByteArray) (w : World) (hs : s.size ≤ 1000000000) (htab : Lib.TabIs Tryz.prog w "internal/strconv.uint64pow10" .u64 Lib.pow10Tab) :
    Calls Tryz.prog 37 #[.string s] w (Bret (.int .i64 (rerr (bytes s) : Nat)) w) := by
  have hT := Lib.tabBelow_of_tabIs htab
  by_cases h : rerr (bytes s) = 0
  · rw [h]
    exact check_gen s _ _ 0 w fun W hW => by
      have := parse_ok s _ W (rstr_of_rerr h) hs (hT.on hW).here
      exact this
  · exact check_gen s _ _ _ w fun W hW => parse_bad_any s W hs h (hT.on hW).here
/-- What Compare returns. -/
def cmpQ (p q : Rat) : Value := if Fits (p.num * q.den) ∧ Fits (q.num * p.den) then .tuple #[.int .i64 (cmpI (p.num * q.den) (q.num * p.den)), .int .i64 0] else .tuple #[.int .i64 0, .int .i64 10]
def ratCmp (a b : List UInt8) : Value := if rerrBoth a b = 0 then cmpQ (ratV a) (ratV b) else .tuple #[.int .i64 0, .int .i64 (rerrBoth a b : Nat)]
theorem ratCmp_parts (a b : List UInt8) : ∃ (c : Int) (e : Nat), ratCmp a b = .tuple #[.int .i64 c, .int .i64 e] := by
  unfold ratCmp cmpQ; (repeat' split)
  · exact ⟨_, 0, rfl⟩
  · exact ⟨_, 10, rfl⟩
  · exact ⟨_, _, rfl⟩
set_option maxHeartbeats 2000000 in
theorem ratCompare (s t : ByteArray) (w : World) (hs : s.size ≤ 1000000000) (ht : t.size ≤ 1000000000) (htab : Lib.TabIs Tryz.prog w "internal/strconv.uint64pow10" .u64 Lib.pow10Tab) :
    Calls Tryz.prog 41 #[.string s, .string t] w (Bret (ratCmp (bytes s) (bytes t)) w) := by
  have hT := Lib.tabBelow_of_tabIs htab
  have C1 : ∀ W : World, Below w.heap.size w W → Calls Tryz.prog 106 #[.string s, .string t] W (Bret (bothR (bytes s) (bytes t)) W) := fun W hW => parseBoth_rat s t W hs ht (hT.on hW).here
  unfold ratCmp
  by_cases h : rerrBoth (bytes s) (bytes t) = 0
  · rw [bothR_ok h] at C1
    rw [if_pos h]
    obtain ⟨h1, h2⟩ := rerrBoth_zero h
    have hp := (rstr_of_rerr h1).rs; have hq := (rstr_of_rerr h2).rs
    generalize ratV (bytes s) = p at *
    generalize ratV (bytes t) = q at *
    have C2 : ∀ W : World, Below w.heap.size w W → Calls Tryz.prog 107 #[.string (str (Lib.itoa p.num)), .string (str (Lib.itoa (q.den : Int))), .string (str (Lib.itoa q.num)), .string (str (Lib.itoa (p.den : Int)))] W (Bret (prodR (p.num * q.den) (q.num * p.den)) W) := fun W hW => products_rat _ _ _ _ _ _ _ _ W hp.num hq.den hq.num hp.den (hT.on hW).here
    unfold prodR at C2
    unfold cmpQ
    unfold ratS fracV at C1
    generalize p.num * q.den = l at *
    generalize q.num * p.den = m at *
    generalize str (Lib.itoa p.num) = a1 at *
    generalize str (Lib.itoa (p.den : Int)) = a2 at *
    generalize str (Lib.itoa q.num) = b1 at *
    generalize str (Lib.itoa (q.den : Int)) = b2 at *
    clear hp hq
    by_cases hf : Fits l ∧ Fits m
    · rw [if_pos hf] at C2 ⊢
      have C3 := fun W => compareS _ _ _ _ W (fits_str hf.1) (fits_str hf.2)
      have hc := sgn_cases (l - m)
      generalize cmpI l m = c at *
      generalize str (Lib.itoa l) = sl at *
      generalize str (Lib.itoa m) = sm at *
      have K1 := Lib.hid C1; have K2 := Lib.hid C2; have K3 := Lib.hid C3; clear C1 C2 C3 hf hc h h1 h2 hs ht hT htab
      go_enter Tryz.func41, Tryz.ntmps41
      go_wp2_with (go_at_call 106; refine (K1.out _ (Below.refl _ _)).mono ?_; rintro e w1 ⟨rfl, hb1⟩; refine Hid.out ?_)
      have B1 : Below w.heap.size w ((w1.alloc (Obj.cells #[Value.string a1, Value.string a2] 103)).alloc (Obj.cells #[Value.string b1, Value.string b2] 103)) := Below.chain hb1 (by go_grown)
      have HB1 := Lib.hid B1; clear hb1 B1
      refine Lib.hid ?_
      go_wp2_with (go_at_call 107; refine (K2.out _ HB1.out).mono ?_; rintro e w2 ⟨rfl, hb2⟩; refine Hid.out ?_)
      have HB2 := Lib.hid (Below.chain HB1.out hb2); clear hb2
      refine Lib.hid ?_
      go_wp2_with (go_at_call 67; refine (K3.out _).mono ?_; rintro e w3 ⟨rfl, h⟩; subst h; refine Hid.out ?_)
      refine Lib.hid ?_
      go_wp2
      refine bodyPost_ret (by simp [results, Tryz.results41, go_sem]; rfl) rfl ?_
      exact ⟨rfl, HB2.out⟩
    · rw [if_neg hf] at C2 ⊢
      have K1 := Lib.hid C1; have K2 := Lib.hid C2; clear C1 C2 hf h h1 h2 hs ht hT htab
      go_enter Tryz.func41, Tryz.ntmps41
      go_wp2_with (go_at_call 106; refine (K1.out _ (Below.refl _ _)).mono ?_; rintro e w1 ⟨rfl, hb1⟩; refine Hid.out ?_)
      have B1 : Below w.heap.size w ((w1.alloc (Obj.cells #[Value.string a1, Value.string a2] 103)).alloc (Obj.cells #[Value.string b1, Value.string b2] 103)) := Below.chain hb1 (by go_grown)
      have HB1 := Lib.hid B1; clear hb1 B1
      refine Lib.hid ?_
      go_wp2_with (go_at_call 107; refine (K2.out _ HB1.out).mono ?_; rintro e w2 ⟨rfl, hb2⟩; refine Hid.out ?_)
      have HB2 := Lib.hid (Below.chain HB1.out hb2); clear hb2
      refine Lib.hid ?_
      go_wp2
      refine bodyPost_ret (by simp [results, Tryz.results41, go_sem]; rfl) rfl ?_
      exact ⟨rfl, HB2.out⟩
  · rw [bothR_bad h] at C1
    rw [if_neg h]
    unfold noFrac at C1
    have hc := rerrBoth_cases (bytes s) (bytes t)
    generalize rerrBoth (bytes s) (bytes t) = c at *
    have K1 := Lib.hid C1; clear C1 hs ht hT htab
    rcases hc with rfl | rfl | rfl
    · exact absurd rfl h
    all_goals
      clear h
      go_enter Tryz.func41, Tryz.ntmps41
      go_wp2_with (go_at_call 106; refine (K1.out _ (Below.refl _ _)).mono ?_; rintro e w1 ⟨rfl, hb1⟩; refine Hid.out ?_)
      have B1 : Below w.heap.size w ((w1.alloc (Obj.cells #[Value.string ⟨#[]⟩, Value.string ⟨#[]⟩] 103)).alloc (Obj.cells #[Value.string ⟨#[]⟩, Value.string ⟨#[]⟩] 103)) := Below.chain hb1 (by go_grown)
      have HB1 := Lib.hid B1; clear hb1 B1
      refine Lib.hid ?_
      go_wp2
      refine bodyPost_ret (by simp [results, Tryz.results41, go_sem]; rfl) rfl ?_
      exact ⟨rfl, HB1.out⟩
end Go.Proofs.YtbadibbdoljjhaaGreatDoor
