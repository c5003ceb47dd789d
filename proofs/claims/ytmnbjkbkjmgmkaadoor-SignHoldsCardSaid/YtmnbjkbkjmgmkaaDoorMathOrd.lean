/-
  The order of notations.
-/
import Derived.Test.YtmnbjkbkjmgmkaaDoorMathInt
import Derived.Test.YtmnbjkbkjmgmkaaDoorBase
import Derived.Lib.Bytealg
set_option linter.unusedSimpArgs false
set_option linter.unusedVariables false
namespace Go.Proofs.YtmnbjkbkjmgmkaaDoor
open Go Go.Proofs

theorem cmp_dec : ∀ (a b : List UInt8), a.length = b.length → AllDig a → AllDig b → Lib.compareBytes a b = cmpN (dec a) (dec b)
  | [], [], _, _, _ => rfl
  | [], _ :: _, h, _, _ => by simp at h
  | _ :: _, [], h, _, _ => by simp at h
  | c :: s, d :: t, h, ha, hb => by
    have hl : s.length = t.length := by simpa using h
    have hs : AllDig s := fun y hy => ha y (List.mem_cons_of_mem _ hy)
    have ht : AllDig t := fun y hy => hb y (List.mem_cons_of_mem _ hy)
    have hc := isDig_iff.1 (ha c (List.mem_cons_self ..))
    have hd := isDig_iff.1 (hb d (List.mem_cons_self ..))
    have h1 := dec_lt hs
    have h2 := dec_lt ht
    have e1 : dec (c :: s) = (c.toNat - 48) * 10 ^ s.length + dec s := rfl
    have e2 : dec (d :: t) = (d.toNat - 48) * 10 ^ t.length + dec t := rfl
    rw [e1, e2]
    unfold Lib.compareBytes
    rw [hl] at h1 ⊢
    generalize 10 ^ t.length = p at *
    by_cases hlt : c < d
    · rw [if_pos hlt]
      have hn : c.toNat < d.toNat := UInt8.lt_iff_toNat_lt.1 hlt
      have : (c.toNat - 48 + 1) * p ≤ (d.toNat - 48) * p := Nat.mul_le_mul_right _ (by omega)
      rw [Nat.add_mul, Nat.one_mul] at this
      unfold cmpN
      rw [if_pos (by omega)]
    · rw [if_neg hlt]
      by_cases hgt : d < c
      · rw [if_pos hgt]
        have hn : d.toNat < c.toNat := UInt8.lt_iff_toNat_lt.1 hgt
        have : (d.toNat - 48 + 1) * p ≤ (c.toNat - 48) * p := Nat.mul_le_mul_right _ (by omega)
        rw [Nat.add_mul, Nat.one_mul] at this
        unfold cmpN
        rw [if_neg (by omega), if_neg (by omega)]
      · rw [if_neg hgt]
        have hn1 : ¬ c.toNat < d.toNat := fun e => hlt (UInt8.lt_iff_toNat_lt.2 e)
        have hn2 : ¬ d.toNat < c.toNat := fun e => hgt (UInt8.lt_iff_toNat_lt.2 e)
        have hcd : c.toNat = d.toNat := by omega
        rw [hcd, cmp_dec s t hl hs ht]
        unfold cmpN
        generalize (d.toNat - 48) * p = q
        (repeat' split) <;> omega

/-- The order of rows of digits: first by length. -/
def ordL (a b : List UInt8) : Int := if a.length < b.length then -1 else if b.length < a.length then 1 else Lib.compareBytes a b

theorem lt_of_shorter {u v : Nat} (h : (Lib.decDigits u).length < (Lib.decDigits v).length) : u < v := by
  have h1 := dec_lt (allDig_decDigits u)
  rw [dec_decDigits] at h1
  have hk : 1 ≤ (Lib.decDigits u).length := List.length_pos_iff.2 (decDigits_ne_nil u)
  have h2 := pow_le_of_nDigits (u := v) hk (by rwa [← Lib.decDigits_length])
  omega

theorem ordL_dec (u v : Nat) : ordL (Lib.decDigits u) (Lib.decDigits v) = cmpN u v := by
  unfold ordL
  by_cases h1 : (Lib.decDigits u).length < (Lib.decDigits v).length
  · rw [if_pos h1]; unfold cmpN; rw [if_pos (lt_of_shorter h1)]
  · rw [if_neg h1]
    by_cases h2 : (Lib.decDigits v).length < (Lib.decDigits u).length
    · have := lt_of_shorter h2
      rw [if_pos h2]; unfold cmpN; rw [if_neg (by omega), if_neg (by omega)]
    · rw [if_neg h2, cmp_dec _ _ (by omega) (allDig_decDigits _) (allDig_decDigits _), dec_decDigits, dec_decDigits]

/-- The order of two notations of integers. -/
def ordZ (a b : List UInt8) : Int :=
  if negB a = true then (if negB b = true then ordL (digL b) (digL a) else -1) else (if negB b = true then 1 else ordL (digL a) (digL b))

theorem ordZ_itoa (x y : Int) : ordZ (Lib.itoa x) (Lib.itoa y) = cmpI x y := by
  unfold ordZ
  rw [negB_itoa, negB_itoa, digL_itoa, digL_itoa, ordL_dec, ordL_dec]
  unfold cmpN cmpI
  by_cases hx : x < 0 <;> by_cases hy : y < 0 <;> simp only [hx, hy, decide_true, decide_false, if_true, if_false, reduceCtorEq] <;> (repeat' split) <;> omega
end Go.Proofs.YtmnbjkbkjmgmkaaDoor
