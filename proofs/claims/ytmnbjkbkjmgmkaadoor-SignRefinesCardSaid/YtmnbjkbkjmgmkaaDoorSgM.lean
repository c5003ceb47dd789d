/-
  sign: mathematics of sets of signs (no program).
-/
import Derived.Test.YtmnbjkbkjmgmkaaDoorProg
import Derived.KernelRfl
import Derived.WalkKit
set_option linter.unusedSimpArgs false
set_option linter.unusedVariables false
namespace Go.Proofs.YtmnbjkbkjmgmkaaDoor
open Go Go.Proofs Go.RowKit

/-- The places of the signs of a set. -/
def plc (s : Nat) : List Nat := (List.range 3).filter fun k => s / 2 ^ k % 2 == 1
/-- The table of the operations. -/
def resTab : List Nat := [1, 1, 7, 1, 2, 4, 7, 4, 4, 7, 1, 1, 4, 2, 1, 4, 4, 7, 4, 2, 1, 2, 2, 2, 1, 2, 4, 6, 0, 1, 2, 0, 2, 1, 0, 6, 3, 0, 6, 2, 0, 2, 3, 0, 6]
def rowS (op a b : Nat) : Nat := resTab.getD (op * 9 + a * 3 + b) 0
def cmbRow (op a acc : Nat) (bs : List Nat) : Nat := bs.foldl (fun r b => r ||| rowS op a b) acc
def cmbL (op : Nat) (xs bs : List Nat) : Nat := xs.foldl (fun r a => cmbRow op a r bs) 0
def cmb (op s t : Nat) : Nat := cmbL op (plc s) (plc t)
theorem cmbRow_snoc (op a acc : Nat) (bs : List Nat) (b : Nat) : cmbRow op a acc (bs ++ [b]) = cmbRow op a acc bs ||| rowS op a b := by simp [cmbRow]
theorem cmbL_snoc (op : Nat) (xs bs : List Nat) (a : Nat) : cmbL op (xs ++ [a]) bs = cmbRow op a (cmbL op xs bs) bs := by simp [cmbL]

/-- The partners of a sign under a comparison: rows for equal, unequal, less, at most. -/
def parTab : List Nat := [1, 2, 4, 7, 5, 7, 7, 4, 4, 7, 6, 4]
def parS (op a : Nat) : Nat := parTab.getD (op * 3 + a) 0
def rfnStep (op t : Nat) (p : Nat × Nat) (a : Nat) : Nat × Nat := if parS op a &&& t = 0 then p else (p.1 ||| 2 ^ a, p.2 ||| (parS op a &&& t))
def rfnL (op t : Nat) (xs : List Nat) : Nat × Nat := xs.foldl (rfnStep op t) (0, 0)
def rfn (op s t : Nat) : Nat × Nat := rfnL op t (plc s)
theorem rfnL_snoc (op t : Nat) (xs : List Nat) (a : Nat) : rfnL op t (xs ++ [a]) = rfnStep op t (rfnL op t xs) a := by simp [rfnL]

theorem bits_and8 : ∀ x y : Fin 8, bits .and .i64 (x.val : Int) (y.val : Int) = ((x.val &&& y.val : Nat) : Int) := by decide +kernel
theorem bits_or8 : ∀ x y : Fin 8, bits .or .i64 (x.val : Int) (y.val : Int) = ((x.val ||| y.val : Nat) : Int) := by decide +kernel
theorem bits_andNot8 : ∀ x y : Fin 8, bits .andNot .i64 (x.val : Int) (y.val : Int) = ((x.val - (x.val &&& y.val) : Nat) : Int) := by decide +kernel
theorem bAnd {x y : Nat} (hx : x < 8) (hy : y < 8) : bits .and .i64 (x : Int) (y : Int) = ((x &&& y : Nat) : Int) := bits_and8 ⟨x, hx⟩ ⟨y, hy⟩
theorem bOr {x y : Nat} (hx : x < 8) (hy : y < 8) : bits .or .i64 (x : Int) (y : Int) = ((x ||| y : Nat) : Int) := bits_or8 ⟨x, hx⟩ ⟨y, hy⟩
theorem bAndNot {x y : Nat} (hx : x < 8) (hy : y < 8) : bits .andNot .i64 (x : Int) (y : Int) = ((x - (x &&& y) : Nat) : Int) := bits_andNot8 ⟨x, hx⟩ ⟨y, hy⟩
theorem and_lt8 {x y : Nat} (hx : x < 8) : x &&& y < 8 := Nat.lt_of_le_of_lt Nat.and_le_left hx
theorem or_lt8 {x y : Nat} (hx : x < 8) (hy : y < 8) : x ||| y < 8 := Nat.or_lt_two_pow (n := 3) hx hy

theorem rowS_lt (op a b : Nat) : rowS op a b < 8 := by
  have h : ∀ x ∈ resTab, x < 8 := by decide
  unfold rowS
  rcases Nat.lt_or_ge (op * 9 + a * 3 + b) resTab.length with q | q
  · rw [List.getD_eq_getElem?_getD, List.getElem?_eq_getElem q]; exact h _ (List.getElem_mem q)
  · rw [List.getD_eq_getElem?_getD, List.getElem?_eq_none q]; decide
theorem parS_lt (op a : Nat) : parS op a < 8 := by
  have h : ∀ x ∈ parTab, x < 8 := by decide
  unfold parS
  rcases Nat.lt_or_ge (op * 3 + a) parTab.length with q | q
  · rw [List.getD_eq_getElem?_getD, List.getElem?_eq_getElem q]; exact h _ (List.getElem_mem q)
  · rw [List.getD_eq_getElem?_getD, List.getElem?_eq_none q]; decide
theorem cmbRow_lt (op a acc : Nat) (bs : List Nat) (h : acc < 8) : cmbRow op a acc bs < 8 := by
  unfold cmbRow
  induction bs generalizing acc with
  | nil => exact h
  | cons b bs ih => exact ih _ (or_lt8 h (rowS_lt _ _ _))
theorem cmbL_lt (op : Nat) (xs bs : List Nat) : cmbL op xs bs < 8 := by
  have : ∀ (xs : List Nat) (acc : Nat), acc < 8 → xs.foldl (fun r a => cmbRow op a r bs) acc < 8 := by
    intro xs
    induction xs with
    | nil => exact fun _ h => h
    | cons a xs ih => exact fun acc h => ih _ (cmbRow_lt _ _ _ _ h)
  exact this xs 0 (by decide)
theorem cmb_lt (op s t : Nat) : cmb op s t < 8 := cmbL_lt _ _ _
theorem plc_lt {s k : Nat} (h : k ∈ plc s) : k < 3 := by
  unfold plc at h
  simp at h; exact h.1

/-! The reference's words. -/
/-- The set of the sign of a number. -/
def sgnS (n : Int) : Nat := if n < 0 then 1 else if n = 0 then 2 else 4
theorem sgnS_lt (n : Int) : sgnS n < 8 := by unfold sgnS; repeat' split
                                             all_goals decide
def hasS (s : Nat) (n : Int) : Bool := s &&& sgnS n != 0
/-- What an operation yields, where it does. -/
def valS (op : Nat) (a b : Int) : Option Int :=
  if 3 ≤ op ∧ b = 0 then none else some (match op with | 0 => a + b | 1 => a - b | 2 => a * b | 3 => a.fdiv b | _ => a.fmod b)
def sevenI : List Int := [-3, -2, -1, 0, 1, 2, 3]
def sgStep (op s t : Nat) (a : Int) (r : Nat) (b : Int) : Nat := match valS op a b with | none => r | some n => if hasS s a && hasS t b then r ||| sgnS n else r
def sgRow (op s t : Nat) (a : Int) (acc : Nat) (bs : List Int) : Nat := bs.foldl (sgStep op s t a) acc
def sgL (op s t : Nat) (xs : List Int) : Nat := xs.foldl (fun r a => sgRow op s t a r sevenI) 0
def sg (op s t : Nat) : Nat := sgL op s t sevenI
theorem sg_eq8 : ∀ op : Fin 5, ∀ s t : Fin 8, sg op.val s.val t.val = cmb op.val s.val t.val := by decide +kernel
theorem sg_eq {op s t : Nat} (ho : op < 5) (hs : s < 8) (ht : t < 8) : sg op s t = cmb op s t := sg_eq8 ⟨op, ho⟩ ⟨s, hs⟩ ⟨t, ht⟩
def trueS (op : Nat) (a b : Int) : Bool := match op with | 0 => a == b | 1 => a != b | 2 => decide (a < b) | _ => decide (a ≤ b)
def rgStep (op s t : Nat) (a : Int) (p : Nat × Nat) (b : Int) : Nat × Nat := if hasS s a && hasS t b && trueS op a b then (p.1 ||| sgnS a, p.2 ||| sgnS b) else p
def rgRow (op s t : Nat) (a : Int) (p : Nat × Nat) (bs : List Int) : Nat × Nat := bs.foldl (rgStep op s t a) p
def rgL (op s t : Nat) (xs : List Int) : Nat × Nat := xs.foldl (fun r a => rgRow op s t a r sevenI) (0, 0)
def rg (op s t : Nat) : Nat × Nat := rgL op s t sevenI
theorem rg_eq8 : ∀ op : Fin 4, ∀ s t : Fin 8, rg op.val s.val t.val = rfn op.val s.val t.val := by decide +kernel
theorem rg_eq {op s t : Nat} (ho : op < 4) (hs : s < 8) (ht : t < 8) : rg op s t = rfn op s t := rg_eq8 ⟨op, ho⟩ ⟨s, hs⟩ ⟨t, ht⟩
end Go.Proofs.YtmnbjkbkjmgmkaaDoor
