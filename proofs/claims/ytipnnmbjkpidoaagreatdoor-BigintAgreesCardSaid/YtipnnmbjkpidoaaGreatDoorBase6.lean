import Derived.Test.YtipnnmbjkpidoaaGreatDoorBase5
import Derived.Test.YtipnnmbjkpidoaaGreatDoorBase2
import Derived.Lib.Bytealg

set_option linter.unusedVariables false
/-
  bigint: Check, order.
-/
namespace Go.Proofs.YtipnnmbjkpidoaaGreatDoor
open Go Go.Proofs Go.RowKit

set_option maxHeartbeats 1000000 in
theorem check_any (s : ByteArray) (w : World) (hs : s.size ≤ 9223372036854775807) :
    Calls Tryz.prog 24 #[.string s] w fun e w' => e = .returned (.int .i64 (errOf (bytes s) : Nat)) ∧ w' = w := by
  have C1 := fun W => isCanonical_any s W hs
  have C2 := fun W => isLong_any s W hs
  have he : errOf (bytes s) = if canonB (bytes s) = true then (if decide (4096 < (digL (bytes s)).length) = true then 10 else 0) else 3 := by
    unfold errOf; simp
  generalize errOf (bytes s) = e0 at *
  generalize canonB (bytes s) = c at *
  generalize decide (4096 < (digL (bytes s)).length) = d at *
  cases c
  · have : e0 = 3 := he
    subst this
    clear he C2
    go_enter Tryz.func24, Tryz.ntmps24
    go_wp2_with (go_at_call 70; refine (C1 _).mono ?_; rintro e w1 ⟨rfl, rfl⟩)
    go_ret
    exact ⟨rfl, rfl⟩
  · cases d
    · have : e0 = 0 := he
      subst this
      clear he
      go_enter Tryz.func24, Tryz.ntmps24
      go_wp2_with (first | (go_at_call 70; refine (C1 _).mono ?_; rintro e w1 ⟨rfl, rfl⟩) | (go_at_call 71; refine (C2 _).mono ?_; rintro e w1 ⟨rfl, rfl⟩))
      go_ret
      exact ⟨rfl, rfl⟩
    · have : e0 = 10 := he
      subst this
      clear he
      go_enter Tryz.func24, Tryz.ntmps24
      go_wp2_with (first | (go_at_call 70; refine (C1 _).mono ?_; rintro e w1 ⟨rfl, rfl⟩) | (go_at_call 71; refine (C2 _).mono ?_; rintro e w1 ⟨rfl, rfl⟩))
      go_ret
      exact ⟨rfl, rfl⟩

/-- The error of two integers: that of the first one, then that of the second one. -/
def errBoth (a b : List UInt8) : Nat := if errOf a = 0 then errOf b else errOf a

theorem errOf_cases (l : List UInt8) : errOf l = 0 ∨ errOf l = 3 ∨ errOf l = 10 := by
  unfold errOf; split
  · split <;> simp
  · simp

set_option maxHeartbeats 1000000 in
theorem checkBoth_any (s t : ByteArray) (w : World) (hs : s.size ≤ 9223372036854775807) (ht : t.size ≤ 9223372036854775807) :
    Calls Tryz.prog 73 #[.string s, .string t] w fun e w' => e = .returned (.int .i64 (errBoth (bytes s) (bytes t) : Nat)) ∧ w' = w := by
  have C1 := fun W => check_any s W hs
  have C2 := fun W => check_any t W ht
  have he : errBoth (bytes s) (bytes t) = if errOf (bytes s) = 0 then errOf (bytes t) else errOf (bytes s) := rfl
  have hc := errOf_cases (bytes s)
  generalize errBoth (bytes s) (bytes t) = e0 at *
  generalize errOf (bytes s) = c at *
  generalize errOf (bytes t) = d at *
  by_cases h0 : c = 0
  · subst h0
    rw [if_pos rfl] at he
    subst he
    clear hc
    go_enter Tryz.func73, Tryz.ntmps73
    go_wp2_with (go_at_call 24; refine (C1 _).mono ?_; rintro e w1 ⟨rfl, rfl⟩; refine Hid.out ?_)
    refine Lib.hid ?_
    go_wp2_with (go_at_call 24; refine (C2 _).mono ?_; rintro e w2 ⟨rfl, rfl⟩)
    go_ret
    exact ⟨rfl, rfl⟩
  · rw [if_neg h0] at he
    subst he
    have hc' : e0 = 3 ∨ e0 = 10 := by omega
    clear hc h0
    rcases hc' with rfl | rfl
    all_goals
      go_enter Tryz.func73, Tryz.ntmps73
      go_wp2_with (go_at_call 24; refine (C1 _).mono ?_; rintro e w1 ⟨rfl, rfl⟩)
      go_ret
      exact ⟨rfl, rfl⟩
end Go.Proofs.YtipnnmbjkpidoaaGreatDoor

/-
  The order of notations.
-/
namespace Go.Proofs.YtipnnmbjkpidoaaGreatDoor
open Go Go.Proofs

theorem cmp_dec : ∀ (a b : List UInt8), a.length = b.length → AllDig a → AllDig b → Lib.compareBytes a b = cmpN (dec a) (dec b)
  | [], [], _, _, _ => rfl
  | [], _ :: _, h, _, _ => by simp at h
  | _ :: _, [], h, _, _ => by simp at h
  | c :: s, d :: t, h, ha, hb => by
    have hl : s.length = t.length := by simpa using h
    have hs : AllDig s := fun y hy => ha y (List.mem_cons_of_mem _ hy)
    have ht : AllDig t := fun y hy => hb y (List.mem_cons_of_mem _ hy)
    have hc := isDig_iff.1 (ha c (List.mem_cons_self ..))
    have hd := isDig_iff.1 (hb d (List.mem_cons_self ..))
    have h1 := dec_lt hs
    have h2 := dec_lt ht
    have e1 : dec (c :: s) = (c.toNat - 48) * 10 ^ s.length + dec s := rfl
    have e2 : dec (d :: t) = (d.toNat - 48) * 10 ^ t.length + dec t := rfl
    rw [e1, e2]
    unfold Lib.compareBytes
    rw [hl] at h1 ⊢
    generalize 10 ^ t.length = p at *
    by_cases hlt : c < d
    · rw [if_pos hlt]
      have hn : c.toNat < d.toNat := UInt8.lt_iff_toNat_lt.1 hlt
      have : (c.toNat - 48 + 1) * p ≤ (d.toNat - 48) * p := Nat.mul_le_mul_right _ (by omega)
      rw [Nat.add_mul, Nat.one_mul] at this
      unfold cmpN
      rw [if_pos (by omega)]
    · rw [if_neg hlt]
      by_cases hgt : d < c
      · rw [if_pos hgt]
        have hn : d.toNat < c.toNat := UInt8.lt_iff_toNat_lt.1 hgt
        have : (d.toNat - 48 + 1) * p ≤ (c.toNat - 48) * p := Nat.mul_le_mul_right _ (by omega)
        rw [Nat.add_mul, Nat.one_mul] at this
        unfold cmpN
        rw [if_neg (by omega), if_neg (by omega)]
      · rw [if_neg hgt]
        have hn1 : ¬ c.toNat < d.toNat := fun e => hlt (UInt8.lt_iff_toNat_lt.2 e)
        have hn2 : ¬ d.toNat < c.toNat := fun e => hgt (UInt8.lt_iff_toNat_lt.2 e)
        have hcd : c.toNat = d.toNat := by omega
        rw [hcd, cmp_dec s t hl hs ht]
        unfold cmpN
        generalize (d.toNat - 48) * p = q
        (repeat' split) <;> omega

/-- The order of rows of digits: first by length. -/
def ordL (a b : List UInt8) : Int := if a.length < b.length then -1 else if b.length < a.length then 1 else Lib.compareBytes a b

theorem lt_of_shorter {u v : Nat} (h : (Lib.decDigits u).length < (Lib.decDigits v).length) : u < v := by
  have h1 := dec_lt (allDig_decDigits u)
  rw [dec_decDigits] at h1
  have hk : 1 ≤ (Lib.decDigits u).length := List.length_pos_iff.2 (decDigits_ne_nil u)
  have h2 := pow_le_of_nDigits (u := v) hk (by rwa [← Lib.decDigits_length])
  omega

theorem ordL_dec (u v : Nat) : ordL (Lib.decDigits u) (Lib.decDigits v) = cmpN u v := by
  unfold ordL
  by_cases h1 : (Lib.decDigits u).length < (Lib.decDigits v).length
  · rw [if_pos h1]; unfold cmpN; rw [if_pos (lt_of_shorter h1)]
  · rw [if_neg h1]
    by_cases h2 : (Lib.decDigits v).length < (Lib.decDigits u).length
    · have := lt_of_shorter h2
      rw [if_pos h2]; unfold cmpN; rw [if_neg (by omega), if_neg (by omega)]
    · rw [if_neg h2, cmp_dec _ _ (by omega) (allDig_decDigits _) (allDig_decDigits _), dec_decDigits, dec_decDigits]

/-- The order of two notations of integers. -/
def ordZ (a b : List UInt8) : Int :=
  if negB a = true then (if negB b = true then ordL (digL b) (digL a) else -1) else (if negB b = true then 1 else ordL (digL a) (digL b))

theorem ordZ_itoa (x y : Int) : ordZ (Lib.itoa x) (Lib.itoa y) = cmpI x y := by
  unfold ordZ
  rw [negB_itoa, negB_itoa, digL_itoa, digL_itoa, ordL_dec, ordL_dec]
  unfold cmpN cmpI
  by_cases hx : x < 0 <;> by_cases hy : y < 0 <;> simp only [hx, hy, decide_true, decide_false, if_true, if_false, reduceCtorEq] <;> (repeat' split) <;> omega
end Go.Proofs.YtipnnmbjkpidoaaGreatDoor

/-
  bigint: the order.
-/
namespace Go.Proofs.YtipnnmbjkpidoaaGreatDoor
open Go Go.Proofs Go.RowKit

set_option maxHeartbeats 1000000 in
theorem orderDigits_any (a b : ByteArray) (w : World) (ha : a.size ≤ 9223372036854775807) (hb : b.size ≤ 9223372036854775807) :
    Calls Tryz.prog 66 #[.string a, .string b] w fun e w' => e = .returned (.int .i64 (ordL (bytes a) (bytes b))) ∧ w' = w := by
  have C : ∀ W : World, Calls Tryz.prog 107 #[.string a, .string b] W fun e w' => e = .returned (.int .i64 (Lib.compareBytes (bytes a) (bytes b))) ∧ w' = W := fun W => Tryz.strings_Compare a b W
  have he : ordL (bytes a) (bytes b) = if a.size < b.size then -1 else if b.size < a.size then 1 else Lib.compareBytes (bytes a) (bytes b) := rfl
  generalize ordL (bytes a) (bytes b) = r at *
  generalize Lib.compareBytes (bytes a) (bytes b) = q at *
  have HE := Lib.hid he; clear he
  by_cases h1 : a.size < b.size
  · have hr : r = -1 := by rw [HE.out, if_pos h1]
    subst hr
    go_enter Tryz.func66, Tryz.ntmps66
    go_wp2
    go_ret
    exact ⟨rfl, rfl⟩
  · by_cases h2 : b.size < a.size
    · have hr : r = 1 := by rw [HE.out, if_neg h1, if_pos h2]
      subst hr
      go_enter Tryz.func66, Tryz.ntmps66
      go_wp2
      go_ret
      exact ⟨rfl, rfl⟩
    · have hr : r = q := by rw [HE.out, if_neg h1, if_neg h2]
      subst hr
      clear HE
      go_enter Tryz.func66, Tryz.ntmps66
      go_wp2_with (go_at_call 107; refine (C _).mono ?_; rintro e w1 ⟨rfl, rfl⟩)
      go_ret
      exact ⟨rfl, rfl⟩

theorem digL_le (l : List UInt8) : (digL l).length ≤ l.length := by
  rcases neg_cases l with ⟨-, h⟩ | ⟨-, h⟩
  · rw [congrArg List.length h]; simp
  · rw [h]; exact Nat.le_refl _

set_option maxHeartbeats 2000000 in
theorem order_any (a b : ByteArray) (w : World) (ha : a.size ≤ 9223372036854775807) (hb : b.size ≤ 9223372036854775807) :
    Calls Tryz.prog 74 #[.string a, .string b] w fun e w' => e = .returned (.int .i64 (ordZ (bytes a) (bytes b))) ∧ w' = w := by
  have CA := isNegative_any a
  have CB := isNegative_any b
  have DA := digits_any a
  have DB := digits_any b
  have ha' : (str (digL (bytes a))).size ≤ 9223372036854775807 := by rw [str_size]; exact Nat.le_trans (digL_le _) ha
  have hb' : (str (digL (bytes b))).size ≤ 9223372036854775807 := by rw [str_size]; exact Nat.le_trans (digL_le _) hb
  have OAB := fun W => orderDigits_any (str (digL (bytes a))) (str (digL (bytes b))) W ha' hb'
  have OBA := fun W => orderDigits_any (str (digL (bytes b))) (str (digL (bytes a))) W hb' ha'
  rw [bytes_str, bytes_str] at OAB OBA
  have he : ordZ (bytes a) (bytes b) = if negB (bytes a) = true then (if negB (bytes b) = true then ordL (digL (bytes b)) (digL (bytes a)) else -1) else (if negB (bytes b) = true then 1 else ordL (digL (bytes a)) (digL (bytes b))) := rfl
  generalize ordZ (bytes a) (bytes b) = r at *
  generalize negB (bytes a) = na at *
  generalize negB (bytes b) = nb at *
  generalize ordL (digL (bytes b)) (digL (bytes a)) = rba at *
  generalize ordL (digL (bytes a)) (digL (bytes b)) = rab at *
  generalize str (digL (bytes a)) = da at *
  generalize str (digL (bytes b)) = db at *
  clear ha' hb'
  cases na <;> cases nb
  · have hr : r = rab := he
    subst hr; clear he OBA
    go_enter Tryz.func74, Tryz.ntmps74
    go_wp2_with (go_at_call 64; refine (CA _).mono ?_; rintro e w1 ⟨rfl, rfl⟩; refine Hid.out ?_)
    refine Lib.hid ?_
    go_wp2_with (go_at_call 64; refine (CA _).mono ?_; rintro e w1 ⟨rfl, rfl⟩; refine Hid.out ?_)
    refine Lib.hid ?_
    go_wp2_with (go_at_call 64; refine (CB _).mono ?_; rintro e w1 ⟨rfl, rfl⟩; refine Hid.out ?_)
    refine Lib.hid ?_
    go_wp2_with (go_at_call 65; refine (DA _).mono ?_; rintro e w1 ⟨rfl, rfl⟩; refine Hid.out ?_)
    refine Lib.hid ?_
    go_wp2_with (go_at_call 65; refine (DB _).mono ?_; rintro e w1 ⟨rfl, rfl⟩; refine Hid.out ?_)
    refine Lib.hid ?_
    go_wp2_with (go_at_call 66; refine (OAB _).mono ?_; rintro e w1 ⟨rfl, rfl⟩; refine Hid.out ?_)
    refine Lib.hid ?_
    go_wp2
    go_ret
    exact ⟨rfl, rfl⟩
  · have hr : r = 1 := he
    subst hr; clear he OBA OAB
    go_enter Tryz.func74, Tryz.ntmps74
    go_wp2_with (go_at_call 64; refine (CA _).mono ?_; rintro e w1 ⟨rfl, rfl⟩; refine Hid.out ?_)
    refine Lib.hid ?_
    go_wp2_with (go_at_call 64; refine (CA _).mono ?_; rintro e w1 ⟨rfl, rfl⟩; refine Hid.out ?_)
    refine Lib.hid ?_
    go_wp2_with (go_at_call 64; refine (CB _).mono ?_; rintro e w1 ⟨rfl, rfl⟩; refine Hid.out ?_)
    refine Lib.hid ?_
    go_wp2
    go_ret
    exact ⟨rfl, rfl⟩
  · have hr : r = -1 := he
    subst hr; clear he OBA OAB
    go_enter Tryz.func74, Tryz.ntmps74
    go_wp2_with (go_at_call 64; refine (CA _).mono ?_; rintro e w1 ⟨rfl, rfl⟩; refine Hid.out ?_)
    refine Lib.hid ?_
    go_wp2_with (go_at_call 64; refine (CB _).mono ?_; rintro e w1 ⟨rfl, rfl⟩; refine Hid.out ?_)
    refine Lib.hid ?_
    go_wp2_with (go_at_call 64; refine (CA _).mono ?_; rintro e w1 ⟨rfl, rfl⟩; refine Hid.out ?_)
    refine Lib.hid ?_
    go_wp2
    go_ret
    exact ⟨rfl, rfl⟩
  · have hr : r = rba := he
    subst hr; clear he OAB
    go_enter Tryz.func74, Tryz.ntmps74
    go_wp2_with (go_at_call 64; refine (CA _).mono ?_; rintro e w1 ⟨rfl, rfl⟩; refine Hid.out ?_)
    refine Lib.hid ?_
    go_wp2_with (go_at_call 64; refine (CB _).mono ?_; rintro e w1 ⟨rfl, rfl⟩; refine Hid.out ?_)
    refine Lib.hid ?_
    go_wp2_with (go_at_call 65; refine (DB _).mono ?_; rintro e w1 ⟨rfl, rfl⟩; refine Hid.out ?_)
    refine Lib.hid ?_
    go_wp2_with (go_at_call 65; refine (DA _).mono ?_; rintro e w1 ⟨rfl, rfl⟩; refine Hid.out ?_)
    refine Lib.hid ?_
    go_wp2_with (go_at_call 66; refine (OBA _).mono ?_; rintro e w1 ⟨rfl, rfl⟩; refine Hid.out ?_)
    refine Lib.hid ?_
    go_wp2
    go_ret
    exact ⟨rfl, rfl⟩

/-- What Compare returns. -/
def cmpR (a b : List UInt8) : Value := .tuple #[.int .i64 (if errBoth a b = 0 then ordZ a b else 0), .int .i64 (errBoth a b : Nat)]

theorem errBoth_cases (a b : List UInt8) : errBoth a b = 0 ∨ errBoth a b = 3 ∨ errBoth a b = 10 := by
  unfold errBoth; split
  · exact errOf_cases b
  · exact errOf_cases a

set_option maxHeartbeats 2000000 in
theorem compareZ_any (a b : ByteArray) (w : World) (ha : a.size ≤ 9223372036854775807) (hb : b.size ≤ 9223372036854775807) :
    Calls Tryz.prog 30 #[.string a, .string b] w fun e w' => e = .returned (cmpR (bytes a) (bytes b)) ∧ w' = w := by
  have C1 := fun W => checkBoth_any a b W ha hb
  have C2 := fun W => order_any a b W ha hb
  have hc := errBoth_cases (bytes a) (bytes b)
  unfold cmpR
  generalize errBoth (bytes a) (bytes b) = c at *
  generalize ordZ (bytes a) (bytes b) = r at *
  rcases hc with rfl | rfl | rfl
  · go_enter Tryz.func30, Tryz.ntmps30
    go_wp2_with (go_at_call 73; refine (C1 _).mono ?_; rintro e w1 ⟨rfl, rfl⟩; refine Hid.out ?_)
    refine Lib.hid ?_
    go_wp2_with (go_at_call 74; refine (C2 _).mono ?_; rintro e w1 ⟨rfl, rfl⟩; refine Hid.out ?_)
    refine Lib.hid ?_
    go_wp2
    refine bodyPost_ret (by simp [results, Tryz.results30, go_sem]; rfl) rfl ?_
    exact ⟨rfl, rfl⟩
  all_goals
    go_enter Tryz.func30, Tryz.ntmps30
    go_wp2_with (go_at_call 73; refine (C1 _).mono ?_; rintro e w1 ⟨rfl, rfl⟩; refine Hid.out ?_)
    refine Lib.hid ?_
    go_wp2
    refine bodyPost_ret (by simp [results, Tryz.results30, go_sem]; rfl) rfl ?_
    exact ⟨rfl, rfl⟩
end Go.Proofs.YtipnnmbjkpidoaaGreatDoor
