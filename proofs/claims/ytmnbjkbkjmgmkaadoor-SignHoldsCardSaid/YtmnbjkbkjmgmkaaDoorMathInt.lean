/-
  Integers and their notations.
-/
import Derived.Test.YtmnbjkbkjmgmkaaDoorMathText
import Derived.Lib.Strings
import Derived.Lib.ItoaNum
set_option linter.unusedSimpArgs false
set_option linter.unusedVariables false
namespace Go.Proofs.YtmnbjkbkjmgmkaaDoor
open Go Go.Proofs

def digL (l : List UInt8) : List UInt8 := Lib.trimPrefix l [45]
def negB (l : List UInt8) : Bool := Lib.hasPrefix l [45]
def canonB (l : List UInt8) : Bool := !(digL l).isEmpty && !((digL l).head? == some 48 && decide (1 < l.length)) && (digL l).all isDig
def errOf (l : List UInt8) : Nat := if canonB l = true then (if 4096 < (digL l).length then 10 else 0) else 3
def valZ (l : List UInt8) : Int := if negB l = true then -((dec (digL l) : Nat) : Int) else ((dec (digL l) : Nat) : Int)

theorem neg_cons (l : List UInt8) : negB (45 :: l) = true := by simp [negB, Lib.hasPrefix]
theorem dig_cons (l : List UInt8) : digL (45 :: l) = l := by simp [digL, Lib.trimPrefix, Lib.hasPrefix]
theorem neg_cases (l : List UInt8) : (negB l = true ∧ l = 45 :: digL l) ∨ (negB l = false ∧ digL l = l) := by
  cases h : negB l
  · right; unfold negB at h; simp [digL, Lib.trimPrefix, h]
  · left
    refine ⟨rfl, ?_⟩
    unfold negB Lib.hasPrefix at h
    match l, h with
    | [], h => simp at h
    | c :: t, h =>
      have : c = 45 := by simpa using (by simpa [List.isPrefixOf] using h : 45 = c).symm
      subst this
      rw [dig_cons]

theorem not_neg_dig {l : List UInt8} (h : AllDig l) : negB l = false := by
  cases hn : negB l
  · rfl
  · unfold negB Lib.hasPrefix at hn
    match l, hn with
    | [], hn => simp at hn
    | c :: t, hn =>
      have : c = 45 := by simpa using (by simpa [List.isPrefixOf] using hn : 45 = c).symm
      subst this
      exact absurd (h 45 (List.mem_cons_self ..)) (by decide)
theorem dig_of_dig {l : List UInt8} (h : AllDig l) : digL l = l := by
  rcases neg_cases l with ⟨h1, -⟩ | ⟨-, h2⟩
  · rw [not_neg_dig h] at h1; cases h1
  · exact h2

theorem itoa_neg {z : Int} (h : z < 0) : Lib.itoa z = 45 :: Lib.decDigits z.natAbs := by unfold Lib.itoa; rw [if_pos h]
theorem itoa_nonneg {z : Int} (h : ¬ z < 0) : Lib.itoa z = Lib.decDigits z.natAbs := by
  unfold Lib.itoa; rw [if_neg h]; congr 1; omega
theorem negB_itoa (z : Int) : negB (Lib.itoa z) = decide (z < 0) := by
  by_cases h : z < 0
  · rw [itoa_neg h, neg_cons, decide_eq_true h]
  · rw [itoa_nonneg h, not_neg_dig (allDig_decDigits _), decide_eq_false h]
theorem digL_itoa (z : Int) : digL (Lib.itoa z) = Lib.decDigits z.natAbs := by
  by_cases h : z < 0
  · rw [itoa_neg h, dig_cons]
  · rw [itoa_nonneg h, dig_of_dig (allDig_decDigits _)]
theorem valZ_itoa (z : Int) : valZ (Lib.itoa z) = z := by
  unfold valZ
  rw [negB_itoa, digL_itoa, dec_decDigits]
  by_cases h : z < 0
  · rw [decide_eq_true h, if_pos rfl]; omega
  · rw [decide_eq_false h, if_neg (by simp)]; omega
theorem itoa_inj {a b : Int} (h : Lib.itoa a = Lib.itoa b) : a = b := by rw [← valZ_itoa a, h, valZ_itoa]
theorem head?_decDigits (u : Nat) (hu : u ≠ 0) : (Lib.decDigits u).head? ≠ some 48 := by
  rw [List.head?_eq_some_head (decDigits_ne_nil u)]
  intro e
  exact decDigits_head u hu (Option.some.inj e)
theorem dec0' : Lib.decDigits 0 = [48] := (eq_decDigits (l := [48]) (by intro c hc; simp at hc; subst hc; rfl) (by simp) (.inl rfl)).symm
theorem canonB_itoa (z : Int) : canonB (Lib.itoa z) = true := by
  unfold canonB
  rw [digL_itoa]
  have h1 : (Lib.decDigits z.natAbs).isEmpty = false := by
    cases he : (Lib.decDigits z.natAbs).isEmpty
    · rfl
    · exact absurd (List.isEmpty_iff.1 he) (decDigits_ne_nil _)
  have h2 : (Lib.decDigits z.natAbs).all isDig = true := List.all_eq_true.2 (allDig_decDigits _)
  rw [h1, h2]
  by_cases h0 : z = 0
  · subst h0
    rw [itoa_nonneg (by omega)]
    simp [dec0']
  · have := head?_decDigits z.natAbs (by omega)
    simp [this]
theorem itoa_valZ {l : List UInt8} (h : canonB l = true) : l = Lib.itoa (valZ l) := by
  unfold canonB at h
  simp only [Bool.and_eq_true, Bool.not_eq_true', Bool.and_eq_false_iff, beq_eq_false_iff_ne, decide_eq_false_iff_not] at h
  obtain ⟨⟨h1, h2⟩, h3⟩ := h
  have hne : digL l ≠ [] := fun e => by rw [e] at h1; simp at h1
  have hd : AllDig (digL l) := List.all_eq_true.1 h3
  have hlen : 0 < (digL l).length := List.length_pos_iff.2 hne
  rcases neg_cases l with ⟨hn, hl⟩ | ⟨hn, hl⟩
  · have hl2 : l.length = (digL l).length + 1 := by rw [congrArg List.length hl]; simp
    have hh : (digL l).head hne ≠ 48 := by
      rcases h2 with h2 | h2
      · intro e; exact h2 (by rw [List.head?_eq_some_head hne, e])
      · omega
    have e := eq_decDigits hd hne (.inr hh)
    have hpos : dec (digL l) ≠ 0 := by
      intro e0
      rw [e0, dec0'] at e
      have : (digL l).head? = some 48 := by rw [e]; rfl
      rw [List.head?_eq_some_head hne] at this
      exact hh (Option.some.inj this)
    unfold valZ
    rw [hn, if_pos rfl, itoa_neg (by omega)]
    rw [Int.natAbs_neg, Int.natAbs_natCast, ← e]
    exact hl
  · have h0 : digL l = [48] ∨ (digL l).head hne ≠ 48 := by
      rcases h2 with h2 | h2
      · right; intro e; exact h2 (by rw [List.head?_eq_some_head hne, e])
      · by_cases hz : (digL l).head hne = 48
        · left
          rw [hl] at hlen
          match l, h2, hlen with
          | [c], _, _ =>
            simp only [hl] at hz ⊢
            simpa using hz
          | c :: d :: t, h2, _ => exact absurd (by simp : 1 < (c :: d :: t).length) h2
        · exact .inr hz
    have e := eq_decDigits hd hne h0
    unfold valZ
    rw [hn, if_neg (by simp), itoa_nonneg (by omega), Int.natAbs_natCast, ← e]
    exact hl.symm
theorem errOf_itoa (z : Int) (h : (Lib.decDigits z.natAbs).length ≤ 4096) : errOf (Lib.itoa z) = 0 := by
  unfold errOf
  rw [canonB_itoa, if_pos rfl, digL_itoa, if_neg (by omega)]
end Go.Proofs.YtmnbjkbkjmgmkaaDoor
