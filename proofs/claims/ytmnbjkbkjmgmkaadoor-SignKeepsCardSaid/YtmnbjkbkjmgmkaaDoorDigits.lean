import Derived.Test.YtmnbjkbkjmgmkaaDoorBase
import Derived.Lib.Strings
set_option linter.unusedSimpArgs false
set_option linter.unusedVariables false
namespace Go.Proofs.YtmnbjkbkjmgmkaaDoor
open Go Go.Proofs Go.RowKit

/-- Digits, and at least one. -/
def digB (l : List UInt8) : Bool := !l.isEmpty && l.all isDig

def bytes (s : ByteArray) : List UInt8 := s.data.toList
theorem bytes_length (s : ByteArray) : (bytes s).length = s.size := rfl
theorem bytes_get (s : ByteArray) (k : Nat) (h : k < s.size) : (bytes s)[k]'h = s[k] := rfl
/-- A byte of a string as a number. -/
def byteAt (s : ByteArray) (k : Nat) : Nat := ((bytes s).getD k 0).toNat
theorem byteAt_get (s : ByteArray) : ∀ (k : Nat) (h : k < s.size), ((s[k]'h).toNat : Int) = (byteAt s k : Int) := fun k h => by
  unfold byteAt
  rw [List.getD_eq_getElem?_getD, List.getElem?_eq_getElem (by rw [bytes_length]; exact h)]
  rfl

theorem all_take_succ (l : List UInt8) (k : Nat) (h : k < l.length) : (l.take (k + 1)).all isDig = ((l.take k).all isDig && isDig l[k]) := by
  rw [List.take_succ_eq_append_getElem h, List.all_append]; simp

theorem digB_bad (l : List UInt8) (k : Nat) (hb : (l.take (k + 1)).all isDig = false) : digB l = false := by
  have e : l.all isDig = ((l.take (k + 1)).all isDig && (l.drop (k + 1)).all isDig) := by rw [← List.all_append, List.take_append_drop]
  unfold digB
  rw [e, hb]; simp

theorem isDig_byte (s : ByteArray) (k : Nat) (h : k < s.size) : isDig (bytes s)[k] = (decide (48 ≤ byteAt s k) && decide (byteAt s k ≤ 57)) := by
  unfold byteAt isDig
  rw [List.getD_eq_getElem?_getD, List.getElem?_eq_getElem (by rw [bytes_length]; exact h)]
  rfl

theorem dec_take_succ (l : List UInt8) (k : Nat) (h : k < l.length) : dec (l.take (k + 1)) = 10 * dec (l.take k) + (l[k].toNat - 48) := by
  rw [List.take_succ_eq_append_getElem h, dec_snoc]

theorem byteAt_eq (s : ByteArray) (k : Nat) (h : k < s.size) : ((bytes s)[k]'h).toNat = byteAt s k := by
  unfold byteAt
  rw [List.getD_eq_getElem?_getD, List.getElem?_eq_getElem (by rw [bytes_length]; exact h)]
  rfl

theorem dec_small (l : List UInt8) (k : Nat) (hd : AllDig l) (hk : k < 9) : dec (l.take k) < 100000000 := by
  have h1 := dec_lt (hd.take k)
  have h2 : 10 ^ (l.take k).length ≤ 10 ^ 8 := Nat.pow_le_pow_right (by decide) (by simp; omega)
  omega

end Go.Proofs.YtmnbjkbkjmgmkaaDoor
