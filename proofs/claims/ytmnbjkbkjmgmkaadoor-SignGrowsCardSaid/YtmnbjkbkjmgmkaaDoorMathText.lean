/-
  Plain mathematics of decimal texts: no program, no model.
-/
import Derived.Lib.ItoaNum
import Derived.Test.YtmnbjkbkjmgmkaaDoorMathLimbs
set_option linter.unusedSimpArgs false
set_option linter.unusedVariables false
namespace Go.Proofs.YtmnbjkbkjmgmkaaDoor
open Go

/-- Is a byte a digit? -/
def isDig (c : UInt8) : Bool := 48 ≤ c.toNat && c.toNat ≤ 57
def AllDig (l : List UInt8) : Prop := ∀ c ∈ l, isDig c = true

/-- The value of digits. -/
def dec : List UInt8 → Nat
  | [] => 0
  | c :: cs => (c.toNat - 48) * 10 ^ cs.length + dec cs

theorem dec_append (a b : List UInt8) : dec (a ++ b) = dec a * 10 ^ b.length + dec b := by
  induction a with
  | nil => simp [dec]
  | cons x xs ih => simp only [List.cons_append, dec, ih, List.length_append, Nat.pow_add]; grind

theorem dec_snoc (a : List UInt8) (c : UInt8) : dec (a ++ [c]) = 10 * dec a + (c.toNat - 48) := by
  rw [dec_append]; simp [dec]; omega

theorem isDig_iff {c : UInt8} : isDig c = true ↔ 48 ≤ c.toNat ∧ c.toNat ≤ 57 := by
  simp [isDig]

theorem AllDig.append {a b : List UInt8} (ha : AllDig a) (hb : AllDig b) : AllDig (a ++ b) := by
  intro y hy; rcases List.mem_append.1 hy with hy | hy
  · exact ha y hy
  · exact hb y hy
theorem AllDig.take {l : List UInt8} (h : AllDig l) (i : Nat) : AllDig (l.take i) := fun y hy => h y (List.mem_of_mem_take hy)
theorem AllDig.drop {l : List UInt8} (h : AllDig l) (i : Nat) : AllDig (l.drop i) := fun y hy => h y (List.mem_of_mem_drop hy)

theorem dec_lt {l : List UInt8} (h : AllDig l) : dec l < 10 ^ l.length := by
  induction l with
  | nil => simp [dec]
  | cons x xs ih =>
    have h1 := ih (fun y hy => h y (List.mem_cons_of_mem _ hy))
    have h2 := isDig_iff.1 (h x (List.mem_cons_self ..))
    simp only [dec, List.length_cons, Nat.pow_succ]
    have h3 : (x.toNat - 48) * 10 ^ xs.length ≤ 9 * 10 ^ xs.length := Nat.mul_le_mul_right _ (by omega)
    omega

theorem toNat_dig (d : Nat) (h : d < 10) : (UInt8.ofNat (48 + d)).toNat = 48 + d := by
  rw [UInt8.toNat_ofNat']; omega

theorem isDig_ofNat (d : Nat) (h : d < 10) : isDig (UInt8.ofNat (48 + d)) = true := by
  rw [isDig_iff, toNat_dig d h]; omega

theorem allDig_decDigits (u : Nat) : AllDig (Lib.decDigits u) := by
  induction u using Nat.strongRecOn with
  | _ u ih =>
    rw [Lib.decDigits]
    split
    · intro c hc
      rw [List.mem_singleton.1 hc]
      exact isDig_ofNat _ ‹_›
    · refine (ih _ (by omega)).append ?_
      intro c hc
      rw [List.mem_singleton.1 hc]
      exact isDig_ofNat _ (by omega)

theorem dec_decDigits (u : Nat) : dec (Lib.decDigits u) = u := by
  induction u using Nat.strongRecOn with
  | _ u ih =>
    rw [Lib.decDigits]
    split
    · simp only [dec, List.length_nil, Nat.pow_zero]; rw [toNat_dig _ ‹_›]; omega
    · rw [dec_snoc, ih _ (by omega), toNat_dig _ (by omega)]; omega

theorem decDigits_ne_nil (u : Nat) : Lib.decDigits u ≠ [] := by
  rw [Lib.decDigits]; split <;> simp

theorem decDigits_inj {a b : Nat} (h : Lib.decDigits a = Lib.decDigits b) : a = b := by
  rw [← dec_decDigits a, h, dec_decDigits]

/-- Two lists of as many digits with the same value are the same. -/
theorem dec_inj {a b : List UInt8} (ha : AllDig a) (hb : AllDig b) (hl : a.length = b.length) (h : dec a = dec b) : a = b := by
  induction a generalizing b with
  | nil => cases b with
    | nil => rfl
    | cons _ _ => simp at hl
  | cons x xs ih => cases b with
    | nil => simp at hl
    | cons y ys =>
      have hax : AllDig xs := fun z hz => ha z (List.mem_cons_of_mem _ hz)
      have hbx : AllDig ys := fun z hz => hb z (List.mem_cons_of_mem _ hz)
      have hl' : xs.length = ys.length := by simpa using hl
      have h1 := dec_lt hax; have h2 := dec_lt hbx
      have h3 := isDig_iff.1 (ha x (List.mem_cons_self ..))
      have h4 := isDig_iff.1 (hb y (List.mem_cons_self ..))
      simp only [dec] at h
      rw [hl'] at h h1
      have e0 : x.toNat - 48 = y.toNat - 48 := by
        rcases Nat.lt_trichotomy (x.toNat - 48) (y.toNat - 48) with hlt | he | hgt
        · have : (x.toNat - 48 + 1) * 10 ^ ys.length ≤ (y.toNat - 48) * 10 ^ ys.length := Nat.mul_le_mul_right _ hlt
          rw [Nat.add_mul] at this; omega
        · exact he
        · have : (y.toNat - 48 + 1) * 10 ^ ys.length ≤ (x.toNat - 48) * 10 ^ ys.length := Nat.mul_le_mul_right _ hgt
          rw [Nat.add_mul] at this; omega
      have e1 : x = y := UInt8.toNat.inj (by omega)
      subst e1
      rw [ih hax hbx hl' (by omega)]

theorem nDigits_le_of_lt {u k : Nat} (hk : 1 ≤ k) (h : u < 10 ^ k) : Lib.nDigits u ≤ k := by
  induction k generalizing u with
  | zero => omega
  | succ k ih =>
    by_cases h1 : u < 10
    · rw [Lib.nDigits_small h1]; omega
    · rw [Lib.nDigits_big h1]
      rcases Nat.eq_zero_or_pos k with rfl | hk'
      · simp at h; omega
      · have := ih hk' (u := u / 10) (by rw [Nat.pow_succ] at h; omega)
        omega

theorem pow_le_of_nDigits {u k : Nat} (hk : 1 ≤ k) (h : k < Lib.nDigits u) : 10 ^ k ≤ u := by
  rcases Nat.lt_or_ge u (10 ^ k) with h1 | h1
  · have := nDigits_le_of_lt hk h1; omega
  · exact h1

/-- Digits without a zero in front are the digits of their value. -/
theorem eq_decDigits {l : List UInt8} (h : AllDig l) (hne : l ≠ []) (h0 : l = [48] ∨ l.head hne ≠ 48) : l = Lib.decDigits (dec l) := by
  refine dec_inj h (allDig_decDigits _) ?_ (dec_decDigits _).symm
  rw [Lib.decDigits_length]
  rcases h0 with rfl | h0
  · rw [Lib.nDigits_small (by simp [dec])]; rfl
  · cases l with
    | nil => exact absurd rfl hne
    | cons x xs =>
      have h2 := dec_lt h
      have h3 := isDig_iff.1 (h x (List.mem_cons_self ..))
      have h4 : x.toNat ≠ 48 := by
        intro e; apply h0; simp only [List.head_cons]; exact UInt8.toNat.inj (by rw [e]; rfl)
      have h5 : 1 * 10 ^ xs.length ≤ (x.toNat - 48) * 10 ^ xs.length := Nat.mul_le_mul_right _ (by omega)
      have h6 : 10 ^ xs.length ≤ dec (x :: xs) := by simp only [dec]; omega
      have := Lib.nDigits_unique xs.length (dec (x :: xs)) h6 (by simpa using h2)
      rw [this]; simp

theorem decDigits_head (u : Nat) (hu : u ≠ 0) : (Lib.decDigits u).head (decDigits_ne_nil u) ≠ 48 := by
  induction u using Nat.strongRecOn with
  | _ u ih =>
    by_cases h : u < 10
    · have e : Lib.decDigits u = [UInt8.ofNat (48 + u)] := by rw [Lib.decDigits, dif_pos h]
      simp only [e, List.head_cons]
      intro c
      have := congrArg UInt8.toNat c
      rw [toNat_dig u h] at this
      have h48 : (48 : UInt8).toNat = 48 := rfl
      omega
    · have e : Lib.decDigits u = Lib.decDigits (u / 10) ++ [UInt8.ofNat (48 + u % 10)] := by rw [Lib.decDigits, dif_neg h]
      simp only [e]
      rw [List.head_append_of_ne_nil (decDigits_ne_nil _)]
      exact ih (u / 10) (by omega) (by omega)

end Go.Proofs.YtmnbjkbkjmgmkaaDoor
