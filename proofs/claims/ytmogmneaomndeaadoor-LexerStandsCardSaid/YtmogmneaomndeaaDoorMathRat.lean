/-
  Rational numbers: their notation.
-/
import Derived.Test.YtmogmneaomndeaaDoorMathInt
import Derived.Lib.Bytealg
namespace Go.Proofs.YtmogmneaomndeaaDoor
open Go Go.Proofs

theorem indexByte_miss {l : List UInt8} {c : UInt8} (h : c ∉ l) : Lib.indexByte l c = -1 := by
  induction l with
  | nil => rfl
  | cons b t ih =>
    unfold Lib.indexByte
    have h1 : (b == c) = false := by rw [beq_eq_false_iff_ne]; intro e; exact h (e ▸ List.mem_cons_self ..)
    rw [h1, ih (fun hm => h (List.mem_cons_of_mem _ hm))]
    rfl
theorem indexByte_hit {a b : List UInt8} {c : UInt8} (h : c ∉ a) : Lib.indexByte (a ++ c :: b) c = a.length := by
  induction a with
  | nil => simp [Lib.indexByte]
  | cons x t ih =>
    rw [List.cons_append]
    unfold Lib.indexByte
    have h1 : (x == c) = false := by rw [beq_eq_false_iff_ne]; intro e; exact h (e ▸ List.mem_cons_self ..)
    rw [h1, ih (fun hm => h (List.mem_cons_of_mem _ hm))]
    have h2 : (((t.length : Nat) : Int) == -1) = false := by rw [beq_eq_false_iff_ne]; omega
    rw [h2]
    simp
/-- Either the byte is not there, or it is at its index, and not ahead of it. -/
theorem indexByte_cases (l : List UInt8) (c : UInt8) : (Lib.indexByte l c = -1 ∧ c ∉ l) ∨ (∃ i : Nat, Lib.indexByte l c = i ∧ i < l.length ∧ l = l.take i ++ c :: l.drop (i + 1) ∧ c ∉ l.take i) := by
  induction l with
  | nil => left; exact ⟨rfl, by simp⟩
  | cons b t ih =>
    by_cases hb : b = c
    · right
      refine ⟨0, ?_, by simp, by simp [hb], by simp⟩
      unfold Lib.indexByte
      simp [hb]
    · have h1 : (b == c) = false := by rw [beq_eq_false_iff_ne]; exact hb
      rcases ih with ⟨h, hm⟩ | ⟨i, h, hi, he, hm⟩
      · left
        refine ⟨?_, ?_⟩
        · unfold Lib.indexByte; rw [h1, h]; rfl
        · intro k; rcases List.mem_cons.1 k with k | k
          · exact hb k.symm
          · exact hm k
      · right
        refine ⟨i + 1, ?_, by simp; omega, ?_, ?_⟩
        · unfold Lib.indexByte
          rw [h1, h]
          have h2 : ((i : Int) == -1) = false := by rw [beq_eq_false_iff_ne]; omega
          rw [h2]; simp
        · rw [List.take_succ_cons, List.drop_succ_cons, List.cons_append, ← he]
        · rw [List.take_succ_cons]
          intro k; rcases List.mem_cons.1 k with k | k
          · exact hb k.symm
          · exact hm k

/-- The place of the first slash, or -1. -/
def slashAt (l : List UInt8) : Int := Lib.indexByte l 47
def hasB (l : List UInt8) : Bool := decide (0 ≤ slashAt l)
/-- What is above the line, and below it. -/
def topL (l : List UInt8) : List UInt8 := if hasB l = true then l.take (slashAt l).toNat else l
def botL (l : List UInt8) : List UInt8 := if hasB l = true then l.drop ((slashAt l).toNat + 1) else [49]

theorem slash_none {l : List UInt8} (h : (47 : UInt8) ∉ l) : hasB l = false ∧ topL l = l ∧ botL l = [49] := by
  have h0 : hasB l = false := by unfold hasB slashAt; rw [indexByte_miss h]; rfl
  exact ⟨h0, by unfold topL; rw [h0]; rfl, by unfold botL; rw [h0]; rfl⟩
theorem slash_some {a b : List UInt8} (h : (47 : UInt8) ∉ a) : hasB (a ++ 47 :: b) = true ∧ topL (a ++ 47 :: b) = a ∧ botL (a ++ 47 :: b) = b := by
  have h1 : slashAt (a ++ 47 :: b) = a.length := indexByte_hit h
  have h0 : hasB (a ++ 47 :: b) = true := by unfold hasB; rw [h1]; simp
  refine ⟨h0, ?_, ?_⟩
  · unfold topL; rw [h0, if_pos rfl, h1, Int.toNat_natCast, List.take_left']; rfl
  · unfold botL; rw [h0, if_pos rfl, h1, Int.toNat_natCast]
    have : a ++ 47 :: b = (a ++ [47]) ++ b := by simp
    rw [this, List.drop_left']
    simp
theorem slash_cases (l : List UInt8) : (hasB l = false ∧ topL l = l ∧ botL l = [49]) ∨ (hasB l = true ∧ l = topL l ++ 47 :: botL l) := by
  rcases indexByte_cases l 47 with ⟨-, h⟩ | ⟨i, h, hi, he, hm⟩
  · exact .inl (slash_none h)
  · right
    have hs : slashAt l = i := h
    have h0 : hasB l = true := by unfold hasB; rw [hs]; simp
    refine ⟨h0, ?_⟩
    unfold topL botL
    rw [h0, if_pos rfl, if_pos rfl, hs, Int.toNat_natCast]
    exact he

theorem noSlash_dec (u : Nat) : (47 : UInt8) ∉ Lib.decDigits u := fun h => by
  have := isDig_iff.1 (allDig_decDigits u _ h)
  simp at this
theorem noSlash_itoa (z : Int) : (47 : UInt8) ∉ Lib.itoa z := by
  by_cases h : z < 0
  · rw [itoa_neg h]
    intro k; rcases List.mem_cons.1 k with k | k
    · exact absurd k (by decide)
    · exact noSlash_dec _ k
  · rw [itoa_nonneg h]; exact noSlash_dec _

/-- The notation of a rational number. -/
def ratL (q : Rat) : List UInt8 := if q.den = 1 then Lib.itoa q.num else Lib.itoa q.num ++ 47 :: Lib.itoa (q.den : Int)
theorem itoa_one : Lib.itoa 1 = [49] := by decide +kernel
theorem topL_rat (q : Rat) : topL (ratL q) = Lib.itoa q.num := by
  unfold ratL; split
  · exact (slash_none (noSlash_itoa _)).2.1
  · exact (slash_some (noSlash_itoa _)).2.1
theorem botL_rat (q : Rat) : botL (ratL q) = Lib.itoa (q.den : Int) := by
  unfold ratL; split
  · next h => rw [(slash_none (noSlash_itoa _)).2.2, h]; exact itoa_one.symm
  · exact (slash_some (noSlash_itoa _)).2.2
theorem hasB_rat (q : Rat) : hasB (ratL q) = !decide (q.den = 1) := by
  unfold ratL; split
  · next h => rw [(slash_none (noSlash_itoa _)).1]; simp [h]
  · next h => rw [(slash_some (noSlash_itoa _)).1]; simp [h]
theorem ratL_inj {p q : Rat} (h : ratL p = ratL q) : p = q := by
  have h1 := topL_rat p; have h2 := botL_rat p
  rw [h, topL_rat] at h1
  rw [h, botL_rat] at h2
  exact Rat.ext (itoa_inj h1).symm (Int.ofNat.inj (itoa_inj h2)).symm

/-- Is this a number in canonical notation? -/
def ratOk (l : List UInt8) : Bool := canonB (topL l) && canonB (botL l) && (!hasB l || (decide (1 < valZ (botL l)) && decide (Int.gcd (valZ (topL l)) (valZ (botL l)) = 1)))
def ratV (l : List UInt8) : Rat := Rat.divInt (valZ (topL l)) (valZ (botL l))
/-- The error of a rational number. -/
def rerr (l : List UInt8) : Nat := if ratOk l = true then (if errOf (topL l) = 0 ∧ errOf (botL l) = 0 then 0 else 10) else 3

theorem divInt_low {n d : Int} (hd : 0 < d) (hg : Int.gcd n d = 1) : (Rat.divInt n d).num = n ∧ ((Rat.divInt n d).den : Int) = d := by
  have hg' : Int.gcd d n = 1 := by rw [Int.gcd_comm]; exact hg
  refine ⟨?_, ?_⟩
  · rw [Rat.num_divInt, hg', Int.sign_eq_one_of_pos hd]; simp
  · rw [Rat.den_divInt, hg', if_neg (by omega)]; simp; omega
theorem ratOk_spec {l : List UInt8} (h : ratOk l = true) : canonB (topL l) = true ∧ canonB (botL l) = true ∧ 0 < valZ (botL l) ∧ Int.gcd (valZ (topL l)) (valZ (botL l)) = 1 ∧ (hasB l = true → 1 < valZ (botL l)) := by
  unfold ratOk at h
  simp only [Bool.and_eq_true, Bool.or_eq_true, Bool.not_eq_true', decide_eq_true_eq] at h
  obtain ⟨⟨h1, h2⟩, h3⟩ := h
  rcases h3 with h3 | ⟨h3, h4⟩
  · rcases slash_cases l with ⟨h0, -, hb⟩ | ⟨h0, -⟩
    · refine ⟨h1, h2, ?_, ?_, fun k => by rw [h3] at k; cases k⟩
      · rw [hb, ← itoa_one, valZ_itoa]; decide
      · rw [hb, ← itoa_one, valZ_itoa]; simp
    · rw [h3] at h0; cases h0
  · exact ⟨h1, h2, by omega, h4, fun _ => h3⟩
theorem ratV_parts {l : List UInt8} (h : ratOk l = true) : (ratV l).num = valZ (topL l) ∧ ((ratV l).den : Int) = valZ (botL l) := by
  obtain ⟨-, -, h3, h4, -⟩ := ratOk_spec h
  exact divInt_low h3 h4
theorem ratL_ratV {l : List UInt8} (h : ratOk l = true) : l = ratL (ratV l) := by
  obtain ⟨h1, h2, h3, h4, h5⟩ := ratOk_spec h
  obtain ⟨e1, e2⟩ := ratV_parts h
  unfold ratL
  rw [e1, e2, ← itoa_valZ h1, ← itoa_valZ h2]
  rcases slash_cases l with ⟨h0, ht, hb⟩ | ⟨h0, he⟩
  · have : (ratV l).den = 1 := by
      have : ((ratV l).den : Int) = 1 := by rw [e2, hb, ← itoa_one, valZ_itoa]
      omega
    rw [if_pos this, ht]
  · have := h5 h0
    rw [if_neg (by omega)]
    exact he
theorem ratOk_rat (q : Rat) : ratOk (ratL q) = true := by
  unfold ratOk
  rw [topL_rat, botL_rat, hasB_rat, canonB_itoa, canonB_itoa, valZ_itoa, valZ_itoa]
  by_cases h : q.den = 1
  · simp [h]
  · have h0 := q.den_pos
    have hr : Int.gcd q.num (q.den : Int) = 1 := q.reduced
    simp [h]
    exact ⟨by omega, hr⟩
theorem ratV_rat (q : Rat) : ratV (ratL q) = q := by
  unfold ratV
  rw [topL_rat, botL_rat, valZ_itoa, valZ_itoa]
  exact Rat.num_divInt_den q
theorem ratOk_iff (l : List UInt8) : ratOk l = true ↔ ∃ q, l = ratL q := ⟨fun h => ⟨_, ratL_ratV h⟩, fun ⟨q, e⟩ => by rw [e]; exact ratOk_rat q⟩
theorem rerr_rat {q : Rat} (hn : (Lib.decDigits q.num.natAbs).length ≤ 4096) (hd : (Lib.decDigits q.den).length ≤ 4096) : rerr (ratL q) = 0 := by
  unfold rerr
  rw [ratOk_rat, if_pos rfl, topL_rat, botL_rat, errOf_itoa _ hn, errOf_itoa _ (by rwa [Int.natAbs_natCast]), if_pos ⟨rfl, rfl⟩]
theorem rerr_cases (l : List UInt8) : rerr l = 0 ∨ rerr l = 3 ∨ rerr l = 10 := by
  unfold rerr; (repeat' split) <;> simp
end Go.Proofs.YtmogmneaomndeaaDoor
