import Derived.Lib.ItoaNum
import Derived.Test.YtipnnmbjkpidoaaGreatDoorProg
import Derived.Tactics
import Derived.Tactics2
import Derived.WalkKit
import Derived.WalkLawsBesides
import Derived.Deep.QuietTactic
import Derived.BigQuiet
import Derived.Lib.Hide
import Derived.Handy
import Derived.Outline
import Derived.KernelRfl
import Derived.Lib.Strings

set_option linter.unusedVariables false
/-
  Plain mathematics of numbers in limbs of nine digits: no program, no model.
-/
namespace Go.Proofs.YtipnnmbjkpidoaaGreatDoor

/-- The value of limbs, the lowest one first. -/
def val : List Nat → Nat
  | [] => 0
  | x :: xs => x + 1000000000 * val xs

def Small (l : List Nat) : Prop := ∀ x ∈ l, x < 1000000000

theorem val_nil : val [] = 0 := rfl
theorem val_cons (x : Nat) (xs : List Nat) : val (x :: xs) = x + 1000000000 * val xs := rfl

theorem val_append (a b : List Nat) : val (a ++ b) = val a + 1000000000 ^ a.length * val b := by
  induction a with
  | nil => simp [val]
  | cons x xs ih => simp only [List.cons_append, val, ih, List.length_cons, Nat.pow_succ]; grind

theorem val_take_succ (l : List Nat) (i : Nat) (h : i < l.length) : val (l.take (i+1)) = val (l.take i) + l[i] * 1000000000 ^ i := by
  rw [List.take_succ_eq_append_getElem h, val_append]
  simp [val, Nat.min_eq_left (Nat.le_of_lt h)]
  grind

theorem val_split (l : List Nat) (i : Nat) (h : i ≤ l.length) : val l = val (l.take i) + 1000000000 ^ i * val (l.drop i) := by
  conv => lhs; rw [← List.take_append_drop i l, val_append]
  rw [List.length_take, Nat.min_eq_left h]

theorem Small.tail {x : Nat} {xs : List Nat} (h : Small (x :: xs)) : Small xs := fun y hy => h y (List.mem_cons_of_mem _ hy)
theorem Small.head {x : Nat} {xs : List Nat} (h : Small (x :: xs)) : x < 1000000000 := h x (List.mem_cons_self ..)
theorem Small.nil : Small [] := fun _ h => by cases h
theorem Small.cons {x : Nat} {xs : List Nat} (hx : x < 1000000000) (h : Small xs) : Small (x :: xs) := by
  intro y hy; rcases List.mem_cons.1 hy with rfl | hy
  · exact hx
  · exact h y hy
theorem Small.append {a b : List Nat} (ha : Small a) (hb : Small b) : Small (a ++ b) := by
  intro y hy; rcases List.mem_append.1 hy with hy | hy
  · exact ha y hy
  · exact hb y hy
theorem Small.take {l : List Nat} (h : Small l) (i : Nat) : Small (l.take i) := fun y hy => h y (List.mem_of_mem_take hy)
theorem Small.drop {l : List Nat} (h : Small l) (i : Nat) : Small (l.drop i) := fun y hy => h y (List.mem_of_mem_drop hy)
theorem Small.get {l : List Nat} (h : Small l) (i : Nat) (hi : i < l.length) : l[i] < 1000000000 := h _ (List.getElem_mem hi)
theorem Small.set {l : List Nat} (h : Small l) (i v : Nat) (hv : v < 1000000000) : Small (l.set i v) := by
  intro y hy
  rcases List.mem_or_eq_of_mem_set hy with hy | rfl
  · exact h y hy
  · exact hv
theorem Small.replicate (n : Nat) : Small (List.replicate n 0) := by
  intro y hy
  rw [List.eq_of_mem_replicate hy]; decide

theorem val_lt {l : List Nat} (h : Small l) : val l < 1000000000 ^ l.length := by
  induction l with
  | nil => simp [val]
  | cons x xs ih =>
    have h1 := ih h.tail
    have h2 := h.head
    simp only [val, List.length_cons, Nat.pow_succ]
    omega

theorem val_replicate (n : Nat) : val (List.replicate n 0) = 0 := by
  induction n with
  | zero => rfl
  | succ n ih => simp [List.replicate_succ, val, ih]

theorem val_set (l : List Nat) (i v : Nat) (h : i < l.length) : val (l.set i v) + l[i] * 1000000000 ^ i = val l + v * 1000000000 ^ i := by
  induction l generalizing i with
  | nil => simp at h
  | cons x xs ih =>
    cases i with
    | zero => simp [val]; omega
    | succ i =>
      have := ih i (by simpa using h)
      simp only [List.set_cons_succ, val, List.getElem_cons_succ, Nat.pow_succ]
      grind

/-- Two lists of as many limbs with the same value are the same. -/
theorem val_inj {a b : List Nat} (ha : Small a) (hb : Small b) (hl : a.length = b.length) (h : val a = val b) : a = b := by
  induction a generalizing b with
  | nil => cases b with
    | nil => rfl
    | cons _ _ => simp at hl
  | cons x xs ih => cases b with
    | nil => simp at hl
    | cons y ys =>
      have h1 := ha.head; have h2 := hb.head
      simp only [val] at h
      have e1 : x = y := by omega
      have e2 : val xs = val ys := by omega
      rw [e1, ih ha.tail hb.tail (by simpa using hl) e2]

theorem getD_lt (l : List Nat) (k : Nat) (h : k < l.length) : l.getD k 0 = l[k] := by simp [List.getD_eq_getElem?_getD, h]
theorem getD_ge (l : List Nat) (k : Nat) (h : l.length ≤ k) : l.getD k 0 = 0 := by simp [List.getD_eq_getElem?_getD, h]
theorem Small.getD {l : List Nat} (h : Small l) (k : Nat) : l.getD k 0 < 1000000000 := by
  by_cases hk : k < l.length
  · rw [getD_lt l k hk]; exact h.get k hk
  · rw [getD_ge l k (by omega)]; decide

/-- The limbs of a number, without a zero at the end. -/
def limbs (n : Nat) : List Nat := if h : n = 0 then [] else n % 1000000000 :: limbs (n / 1000000000)
termination_by n
decreasing_by omega

theorem limbs_zero : limbs 0 = [] := by rw [limbs]; rfl
theorem limbs_pos {n : Nat} (h : n ≠ 0) : limbs n = n % 1000000000 :: limbs (n / 1000000000) := by rw [limbs, dif_neg h]

theorem limbs_small (n : Nat) : Small (limbs n) := by
  induction n using Nat.strongRecOn with
  | _ n ih =>
    by_cases h : n = 0
    · rw [h, limbs_zero]; exact Small.nil
    · rw [limbs_pos h]; exact Small.cons (by omega) (ih _ (by omega))

theorem val_limbs (n : Nat) : val (limbs n) = n := by
  induction n using Nat.strongRecOn with
  | _ n ih =>
    by_cases h : n = 0
    · rw [h, limbs_zero]; rfl
    · rw [limbs_pos h, val_cons, ih _ (by omega)]; omega

theorem limbs_nil_iff {n : Nat} : limbs n = [] ↔ n = 0 := by
  constructor
  · intro h; rw [← val_limbs n, h]; rfl
  · rintro rfl; exact limbs_zero

/-- No zero at the end. -/
def Norm (l : List Nat) : Prop := ∀ h : l ≠ [], l.getLast h ≠ 0

theorem limbs_norm (n : Nat) : Norm (limbs n) := by
  induction n using Nat.strongRecOn with
  | _ n ih =>
    intro h
    by_cases h0 : n = 0
    · exact absurd (limbs_nil_iff.2 h0) h
    · have e := limbs_pos h0
      by_cases hq : n / 1000000000 = 0
      · have e2 : limbs n = [n % 1000000000] := by rw [e, hq, limbs_zero]
        have : (limbs n).getLast h = n % 1000000000 := by simp [e2]
        omega
      · have hne : limbs (n / 1000000000) ≠ [] := fun c => hq (limbs_nil_iff.1 c)
        have := ih (n / 1000000000) (by omega) hne
        have e3 : (limbs n).getLast h = (limbs (n / 1000000000)).getLast hne := by
          simp only [e]; rw [List.getLast_cons hne]
        rw [e3]; exact this

theorem norm_tail {x : Nat} {xs : List Nat} (h : Norm (x :: xs)) : Norm xs := by
  intro hne; have := h (by simp); rwa [List.getLast_cons hne] at this

theorem norm_val_pos {l : List Nat} (hn : Norm l) (h : l ≠ []) : 0 < val l := by
  induction l with
  | nil => exact absurd rfl h
  | cons x xs ih =>
    by_cases hx : xs = []
    · subst hx; have := hn (by simp); simp at this; simp [val]; omega
    · have := ih (norm_tail hn) hx; simp [val]; omega

/-- What has no zero at the end is the limbs of its value. -/
theorem eq_limbs {l : List Nat} (hs : Small l) (hn : Norm l) : l = limbs (val l) := by
  induction l with
  | nil => rw [val_nil, limbs_zero]
  | cons x xs ih =>
    have hp := norm_val_pos hn (by simp)
    have h1 := hs.head
    rw [limbs_pos (by omega)]
    have e1 : val (x :: xs) % 1000000000 = x := by simp only [val]; omega
    have e2 : val (x :: xs) / 1000000000 = val xs := by simp only [val]; omega
    rw [e1, e2, ← ih hs.tail (norm_tail hn)]

theorem limbs_length_le {n k : Nat} (h : n < 1000000000 ^ k) : (limbs n).length ≤ k := by
  induction k generalizing n with
  | zero => have : n = 0 := by simpa using h
            subst this; simp [limbs_zero]
  | succ k ih =>
    by_cases h0 : n = 0
    · subst h0; simp [limbs_zero]
    · rw [limbs_pos h0, List.length_cons]
      have := @ih (n / 1000000000) (by rw [Nat.pow_succ] at h; exact Nat.div_lt_of_lt_mul (by rw [Nat.mul_comm]; exact h))
      omega

theorem lt_pow_limbs (n : Nat) : n < 1000000000 ^ (limbs n).length := by
  have := val_lt (limbs_small n); rwa [val_limbs] at this

theorem pow_le_of_limbs {n k : Nat} (h : k < (limbs n).length) : 1000000000 ^ k ≤ n := by
  rcases Nat.lt_or_ge n (1000000000 ^ k) with h1 | h1
  · have := limbs_length_le h1; omega
  · exact h1

theorem limbs_length_mono {m n : Nat} (h : m ≤ n) : (limbs m).length ≤ (limbs n).length :=
  limbs_length_le (Nat.lt_of_le_of_lt h (lt_pow_limbs n))

theorem lt_of_limbs_length {m n : Nat} (h : (limbs m).length < (limbs n).length) : m < n :=
  Nat.lt_of_lt_of_le (lt_pow_limbs m) (pow_le_of_limbs h)

/-- The order of numbers with as many limbs is told by the highest limb that differs. -/
theorem val_lt_of_top {a b : List Nat} (hs : Small a) (hl : a.length = b.length) (i : Nat) (hi : i < a.length)
    (hd : a.drop (i + 1) = b.drop (i + 1)) (h : a[i] < b[i]'(hl ▸ hi)) : val a < val b := by
  rw [val_split a (i + 1) (by omega), val_split b (i + 1) (by omega), hd, val_take_succ a i hi, val_take_succ b i (by omega)]
  have h1 := val_lt (hs.take i)
  rw [List.length_take, Nat.min_eq_left (by omega)] at h1
  have h2 : (a[i] + 1) * 1000000000 ^ i ≤ b[i] * 1000000000 ^ i := Nat.mul_le_mul_right _ h
  rw [Nat.add_mul] at h2
  omega

end Go.Proofs.YtipnnmbjkpidoaaGreatDoor

/-
  Plain mathematics of decimal texts: no program, no model.
-/
namespace Go.Proofs.YtipnnmbjkpidoaaGreatDoor
open Go

/-- Is a byte a digit? -/
def isDig (c : UInt8) : Bool := 48 ≤ c.toNat && c.toNat ≤ 57
def AllDig (l : List UInt8) : Prop := ∀ c ∈ l, isDig c = true

/-- The value of digits. -/
def dec : List UInt8 → Nat
  | [] => 0
  | c :: cs => (c.toNat - 48) * 10 ^ cs.length + dec cs

theorem dec_append (a b : List UInt8) : dec (a ++ b) = dec a * 10 ^ b.length + dec b := by
  induction a with
  | nil => simp [dec]
  | cons x xs ih => simp only [List.cons_append, dec, ih, List.length_append, Nat.pow_add]; grind

theorem dec_snoc (a : List UInt8) (c : UInt8) : dec (a ++ [c]) = 10 * dec a + (c.toNat - 48) := by
  rw [dec_append]; simp [dec]; omega

theorem isDig_iff {c : UInt8} : isDig c = true ↔ 48 ≤ c.toNat ∧ c.toNat ≤ 57 := by
  simp [isDig]

theorem AllDig.append {a b : List UInt8} (ha : AllDig a) (hb : AllDig b) : AllDig (a ++ b) := by
  intro y hy; rcases List.mem_append.1 hy with hy | hy
  · exact ha y hy
  · exact hb y hy
theorem AllDig.take {l : List UInt8} (h : AllDig l) (i : Nat) : AllDig (l.take i) := fun y hy => h y (List.mem_of_mem_take hy)
theorem AllDig.drop {l : List UInt8} (h : AllDig l) (i : Nat) : AllDig (l.drop i) := fun y hy => h y (List.mem_of_mem_drop hy)

theorem dec_lt {l : List UInt8} (h : AllDig l) : dec l < 10 ^ l.length := by
  induction l with
  | nil => simp [dec]
  | cons x xs ih =>
    have h1 := ih (fun y hy => h y (List.mem_cons_of_mem _ hy))
    have h2 := isDig_iff.1 (h x (List.mem_cons_self ..))
    simp only [dec, List.length_cons, Nat.pow_succ]
    have h3 : (x.toNat - 48) * 10 ^ xs.length ≤ 9 * 10 ^ xs.length := Nat.mul_le_mul_right _ (by omega)
    omega

theorem toNat_dig (d : Nat) (h : d < 10) : (UInt8.ofNat (48 + d)).toNat = 48 + d := by
  rw [UInt8.toNat_ofNat']; omega

theorem isDig_ofNat (d : Nat) (h : d < 10) : isDig (UInt8.ofNat (48 + d)) = true := by
  rw [isDig_iff, toNat_dig d h]; omega

theorem allDig_decDigits (u : Nat) : AllDig (Lib.decDigits u) := by
  induction u using Nat.strongRecOn with
  | _ u ih =>
    rw [Lib.decDigits]
    split
    · intro c hc
      rw [List.mem_singleton.1 hc]
      exact isDig_ofNat _ ‹_›
    · refine (ih _ (by omega)).append ?_
      intro c hc
      rw [List.mem_singleton.1 hc]
      exact isDig_ofNat _ (by omega)

theorem dec_decDigits (u : Nat) : dec (Lib.decDigits u) = u := by
  induction u using Nat.strongRecOn with
  | _ u ih =>
    rw [Lib.decDigits]
    split
    · simp only [dec, List.length_nil, Nat.pow_zero]; rw [toNat_dig _ ‹_›]; omega
    · rw [dec_snoc, ih _ (by omega), toNat_dig _ (by omega)]; omega

theorem decDigits_ne_nil (u : Nat) : Lib.decDigits u ≠ [] := by
  rw [Lib.decDigits]; split <;> simp

theorem decDigits_inj {a b : Nat} (h : Lib.decDigits a = Lib.decDigits b) : a = b := by
  rw [← dec_decDigits a, h, dec_decDigits]

/-- Two lists of as many digits with the same value are the same. -/
theorem dec_inj {a b : List UInt8} (ha : AllDig a) (hb : AllDig b) (hl : a.length = b.length) (h : dec a = dec b) : a = b := by
  induction a generalizing b with
  | nil => cases b with
    | nil => rfl
    | cons _ _ => simp at hl
  | cons x xs ih => cases b with
    | nil => simp at hl
    | cons y ys =>
      have hax : AllDig xs := fun z hz => ha z (List.mem_cons_of_mem _ hz)
      have hbx : AllDig ys := fun z hz => hb z (List.mem_cons_of_mem _ hz)
      have hl' : xs.length = ys.length := by simpa using hl
      have h1 := dec_lt hax; have h2 := dec_lt hbx
      have h3 := isDig_iff.1 (ha x (List.mem_cons_self ..))
      have h4 := isDig_iff.1 (hb y (List.mem_cons_self ..))
      simp only [dec] at h
      rw [hl'] at h h1
      have e0 : x.toNat - 48 = y.toNat - 48 := by
        rcases Nat.lt_trichotomy (x.toNat - 48) (y.toNat - 48) with hlt | he | hgt
        · have : (x.toNat - 48 + 1) * 10 ^ ys.length ≤ (y.toNat - 48) * 10 ^ ys.length := Nat.mul_le_mul_right _ hlt
          rw [Nat.add_mul] at this; omega
        · exact he
        · have : (y.toNat - 48 + 1) * 10 ^ ys.length ≤ (x.toNat - 48) * 10 ^ ys.length := Nat.mul_le_mul_right _ hgt
          rw [Nat.add_mul] at this; omega
      have e1 : x = y := UInt8.toNat.inj (by omega)
      subst e1
      rw [ih hax hbx hl' (by omega)]

theorem nDigits_le_of_lt {u k : Nat} (hk : 1 ≤ k) (h : u < 10 ^ k) : Lib.nDigits u ≤ k := by
  induction k generalizing u with
  | zero => omega
  | succ k ih =>
    by_cases h1 : u < 10
    · rw [Lib.nDigits_small h1]; omega
    · rw [Lib.nDigits_big h1]
      rcases Nat.eq_zero_or_pos k with rfl | hk'
      · simp at h; omega
      · have := ih hk' (u := u / 10) (by rw [Nat.pow_succ] at h; omega)
        omega

theorem pow_le_of_nDigits {u k : Nat} (hk : 1 ≤ k) (h : k < Lib.nDigits u) : 10 ^ k ≤ u := by
  rcases Nat.lt_or_ge u (10 ^ k) with h1 | h1
  · have := nDigits_le_of_lt hk h1; omega
  · exact h1

/-- Digits without a zero in front are the digits of their value. -/
theorem eq_decDigits {l : List UInt8} (h : AllDig l) (hne : l ≠ []) (h0 : l = [48] ∨ l.head hne ≠ 48) : l = Lib.decDigits (dec l) := by
  refine dec_inj h (allDig_decDigits _) ?_ (dec_decDigits _).symm
  rw [Lib.decDigits_length]
  rcases h0 with rfl | h0
  · rw [Lib.nDigits_small (by simp [dec])]; rfl
  · cases l with
    | nil => exact absurd rfl hne
    | cons x xs =>
      have h2 := dec_lt h
      have h3 := isDig_iff.1 (h x (List.mem_cons_self ..))
      have h4 : x.toNat ≠ 48 := by
        intro e; apply h0; simp only [List.head_cons]; exact UInt8.toNat.inj (by rw [e]; rfl)
      have h5 : 1 * 10 ^ xs.length ≤ (x.toNat - 48) * 10 ^ xs.length := Nat.mul_le_mul_right _ (by omega)
      have h6 : 10 ^ xs.length ≤ dec (x :: xs) := by simp only [dec]; omega
      have := Lib.nDigits_unique xs.length (dec (x :: xs)) h6 (by simpa using h2)
      rw [this]; simp

theorem decDigits_head (u : Nat) (hu : u ≠ 0) : (Lib.decDigits u).head (decDigits_ne_nil u) ≠ 48 := by
  induction u using Nat.strongRecOn with
  | _ u ih =>
    by_cases h : u < 10
    · have e : Lib.decDigits u = [UInt8.ofNat (48 + u)] := by rw [Lib.decDigits, dif_pos h]
      simp only [e, List.head_cons]
      intro c
      have := congrArg UInt8.toNat c
      rw [toNat_dig u h] at this
      have h48 : (48 : UInt8).toNat = 48 := rfl
      omega
    · have e : Lib.decDigits u = Lib.decDigits (u / 10) ++ [UInt8.ofNat (48 + u % 10)] := by rw [Lib.decDigits, dif_neg h]
      simp only [e]
      rw [List.head_append_of_ne_nil (decDigits_ne_nil _)]
      exact ih (u / 10) (by omega) (by omega)

end Go.Proofs.YtipnnmbjkpidoaaGreatDoor

/-
  What a number in limbs is in memory; words for the contracts.
-/
namespace Go.Proofs.YtipnnmbjkpidoaaGreatDoor
open Go Go.Proofs Go.RowKit

/-- The limbs l lie in w behind the slice with this address and capacity. -/
def RowAt (w : World) (ao : Option Addr) (c : Nat) (l : List Nat) : Prop :=
  l.length ≤ c ∧ c ≤ 9223372036854775807 ∧ ((l = [] ∧ (ao = none → c = 0)) ∨ ∃ b off, ao = some ⟨b, off, none⟩ ∧ b < w.heap.size ∧ ∀ k, k < l.length → w.cell? ⟨b, off + k, none⟩ = some (.int .u32 (l.getD k 0 : Nat)))

/-- A value of type natural.Number that stands for x. -/
def NumAt (w : World) (v : Value) (x : Nat) : Prop := ∃ ao c, v = .agg #[.slice ao (limbs x).length c] ∧ RowAt w ao c (limbs x)

theorem RowAt.mono {w w' : World} {ao : Option Addr} {c : Nat} {l : List Nat} (h : RowAt w ao c l) (hb : Below w.heap.size w w') : RowAt w' ao c l := by
  obtain ⟨h1, h2, h3⟩ := h
  refine ⟨h1, h2, ?_⟩
  rcases h3 with h3 | ⟨b, off, he, hlt, hc⟩
  · exact .inl h3
  · refine .inr ⟨b, off, he, Nat.lt_of_lt_of_le hlt hb.size, fun k hk => ?_⟩
    rw [hb.cell (p := ⟨b, off + k, none⟩) hlt]; exact hc k hk

theorem NumAt.mono {w w' : World} {v : Value} {x : Nat} (h : NumAt w v x) (hb : Below w.heap.size w w') : NumAt w' v x := by
  obtain ⟨ao, c, he, hr⟩ := h
  exact ⟨ao, c, he, hr.mono hb⟩

theorem Below.chain {a b c : World} (h : Below a.heap.size a b) (k : Below b.heap.size b c) : Below a.heap.size a c :=
  h.trans (k.mono h.size)

theorem ret_int {k : IntKind} {a b : Int} (h : a = b) : Ending.returned (.int k a) = .returned (.int k b) := by rw [h]
theorem ret_bool {a b : Bool} (h : a = b) : Ending.returned (.bool a) = .returned (.bool b) := by rw [h]

/-- The order of two numbers. -/
def cmpN (x y : Nat) : Int := if x < y then -1 else if x = y then 0 else 1
def cmpI (x y : Int) : Int := if x < y then -1 else if x = y then 0 else 1

/-- What a row of limbs gives a walk: its cells by a function that the walk does not open. -/
theorem RowAt.open {w : World} {ao : Option Addr} {c : Nat} {l : List Nat} (h : RowAt w ao c l) (hs : Small l) :
    ∃ d : Nat → Int, (∀ k, k < l.length → d k = (l.getD k 0 : Nat)) ∧ (∀ k, 0 ≤ d k ∧ d k < 1000000000) ∧
      (l = [] ∨ ∃ b off, ao = some ⟨b, off, none⟩ ∧ b < w.heap.size ∧ ∀ k, k < l.length → w.cell? ⟨b, off + k, none⟩ = some (.int .u32 (d k))) := by
  refine ⟨fun k => (l.getD k 0 : Nat), fun k _ => rfl, fun k => ⟨Int.natCast_nonneg _, ?_⟩, h.2.2.imp (fun h => h.1) id⟩
  have := hs.getD k
  show ((l.getD k 0 : Nat) : Int) < 1000000000
  omega

/-- A contract of a function that turns nothing, at a call within a region behind draws: the count of draws goes on. -/
theorem drawsOn {P : Program} {f : FuncId} {args : Array Value} {w : World} {m n : Nat} {v : Value}
    (c : Calls P f args (w.drewN (m + n)) fun e w' => e = .returned v ∧ w.drewN (m + n) = w') :
    Calls P f args (w.drewN (m + n)) fun e w' => e = .returned v ∧ ∃ k, w' = w.drewN (m + k) :=
  c.mono fun _ _ h => ⟨h.1, n, h.2.symm⟩
theorem drawsHere {P : Program} {f : FuncId} {args : Array Value} {w : World} {n : Nat} {v : Value}
    (c : Calls P f args (w.drewN n) fun e w' => e = .returned v ∧ w.drewN n = w') :
    Calls P f args (w.drewN n) fun e w' => e = .returned v ∧ ∃ k, w' = w.drewN k :=
  c.mono fun _ _ h => ⟨h.1, n, h.2.symm⟩

theorem cellSet {w : World} {a : Addr} {u : Value} (h : w.cell? a = some u) (v : Value) : (w.setCell a v).cell? a = some v :=
  World.cell?_setCell_same' _ _ _ (by rw [h]; rfl)

/-- Two boxes that are laid one behind the other. -/
structure Two (w W : World) (v1 v2 : Value) : Prop where
  size : W.heap.size = w.heap.size + 2
  c1 : W.cell? ⟨w.heap.size, 0, none⟩ = some v1
  c2 : W.cell? ⟨w.heap.size + 1, 0, none⟩ = some v2
  f1 : W.frozen? ⟨w.heap.size, 0, none⟩ = false
  f2 : W.frozen? ⟨w.heap.size + 1, 0, none⟩ = false
  below : Below w.heap.size w W
theorem two_new (w : World) (v1 v2 : Value) (t1 t2 : TypeId) : Two w ((w.alloc (Obj.cells #[v1] t1)).alloc (Obj.cells #[v2] t2)) v1 v2 :=
  ⟨by simp, by go_cell, by go_cell, by go_cell, by go_cell, by go_grown⟩

end Go.Proofs.YtipnnmbjkpidoaaGreatDoor

namespace Go.Proofs.YtipnnmbjkpidoaaGreatDoor
open Go Go.Proofs Go.RowKit

/-- Digits, and at least one. -/
def digB (l : List UInt8) : Bool := !l.isEmpty && l.all isDig

def bytes (s : ByteArray) : List UInt8 := s.data.toList
theorem bytes_length (s : ByteArray) : (bytes s).length = s.size := rfl
theorem bytes_get (s : ByteArray) (k : Nat) (h : k < s.size) : (bytes s)[k]'h = s[k] := rfl
/-- A byte of a string as a number. -/
def byteAt (s : ByteArray) (k : Nat) : Nat := ((bytes s).getD k 0).toNat
theorem byteAt_get (s : ByteArray) : ∀ (k : Nat) (h : k < s.size), ((s[k]'h).toNat : Int) = (byteAt s k : Int) := fun k h => by
  unfold byteAt
  rw [List.getD_eq_getElem?_getD, List.getElem?_eq_getElem (by rw [bytes_length]; exact h)]
  rfl

theorem all_take_succ (l : List UInt8) (k : Nat) (h : k < l.length) : (l.take (k + 1)).all isDig = ((l.take k).all isDig && isDig l[k]) := by
  rw [List.take_succ_eq_append_getElem h, List.all_append]; simp

theorem digB_bad (l : List UInt8) (k : Nat) (hb : (l.take (k + 1)).all isDig = false) : digB l = false := by
  have e : l.all isDig = ((l.take (k + 1)).all isDig && (l.drop (k + 1)).all isDig) := by rw [← List.all_append, List.take_append_drop]
  unfold digB
  rw [e, hb]; simp

theorem isDig_byte (s : ByteArray) (k : Nat) (h : k < s.size) : isDig (bytes s)[k] = (decide (48 ≤ byteAt s k) && decide (byteAt s k ≤ 57)) := by
  unfold byteAt isDig
  rw [List.getD_eq_getElem?_getD, List.getElem?_eq_getElem (by rw [bytes_length]; exact h)]
  rfl

set_option maxHeartbeats 1000000 in
theorem allDigits_any (s : ByteArray) (w : World) (hs : s.size ≤ 9223372036854775807) :
    Calls Tryz.prog 176 #[.string s] w fun e w' => e = .returned (.bool (digB (bytes s))) ∧ w = w' := by
  have hnil : s.toList = bytes s := Lib.toList_data s
  have HNIL := Lib.hid hnil
  go_enter Tryz.func176, Tryz.ntmps176
  go_wp2_with fail
  go_loop [6] (fun iv => ∃ k : Nat, k ≤ s.size ∧ iv = .int .i64 k ∧ ((bytes s).take k).all isDig = true) (fun iv => s.size - (intOf iv).toNat)
  case atStart => exact ⟨0, Nat.zero_le _, rfl, rfl⟩
  case round =>
    obtain ⟨k, hk, rfl, hall⟩ := hrel
    by_cases hlt : k < s.size
    · have hgk := byteAt_get s k hlt
      have h1 := all_take_succ (bytes s) k hlt
      rw [isDig_byte s k hlt, hall] at h1
      have H1 := Lib.hid h1; have HALL := Lib.hid hall
      clear h1 hall hnil
      generalize byteAt s k = b at *
      by_cases hd : 48 ≤ b ∧ b ≤ 57
      · obtain ⟨hd1, hd2⟩ := hd
        have e1 : (List.take (k + 1) (bytes s)).all isDig = true := by rw [H1.out]; simp [hd1, hd2]
        have E1 := Lib.hid e1; clear e1
        go_wp2
        go_round
        case rel => exact ⟨k + 1, by omega, by go_num, E1.out⟩
        case measure => simp [intOf]; omega
      · have e1 : digB (bytes s) = false := digB_bad (bytes s) k (by rw [H1.out]; simp; omega)
        have E1 := Lib.hid e1; clear e1
        go_wp2
        all_goals first
          | (exfalso; omega)
          | (go_ret; exact ⟨ret_bool E1.out.symm, rfl⟩)
    · have hkn : k = s.size := by omega
      subst hkn
      rw [List.take_of_length_le (l := bytes s) (i := s.size) (Nat.le_refl s.size)] at hall
      have HALL := Lib.hid hall; clear hall hnil
      go_wp2
      go_ret
      refine ⟨ret_bool ?_, rfl⟩
      rw [HNIL.out]
      unfold digB
      rw [HALL.out, Bool.and_true]
theorem dec_take_succ (l : List UInt8) (k : Nat) (h : k < l.length) : dec (l.take (k + 1)) = 10 * dec (l.take k) + (l[k].toNat - 48) := by
  rw [List.take_succ_eq_append_getElem h, dec_snoc]

theorem byteAt_eq (s : ByteArray) (k : Nat) (h : k < s.size) : ((bytes s)[k]'h).toNat = byteAt s k := by
  unfold byteAt
  rw [List.getD_eq_getElem?_getD, List.getElem?_eq_getElem (by rw [bytes_length]; exact h)]
  rfl

theorem dec_small (l : List UInt8) (k : Nat) (hd : AllDig l) (hk : k < 9) : dec (l.take k) < 100000000 := by
  have h1 := dec_lt (hd.take k)
  have h2 : 10 ^ (l.take k).length ≤ 10 ^ 8 := Nat.pow_le_pow_right (by decide) (by simp; omega)
  omega

set_option maxHeartbeats 1000000 in
theorem limbOf_any (s : ByteArray) (w : World) (hs : s.size ≤ 9) (hd : AllDig (bytes s)) :
    Calls Tryz.prog 198 #[.string s] w fun e w' => e = .returned (.int .u32 (dec (bytes s) : Nat)) ∧ w = w' := by
  have HD := Lib.hid hd; clear hd
  have hs2 : s.size ≤ 9223372036854775807 := by omega
  go_enter Tryz.func198, Tryz.ntmps198
  go_wp2_with fail
  go_loop [3, 7] (fun lv iv => ∃ k : Nat, k ≤ s.size ∧ iv = .int .i64 k ∧ lv = .int .u32 (dec ((bytes s).take k) : Nat)) (fun _ iv => s.size - (intOf iv).toNat)
  case atStart => exact ⟨0, Nat.zero_le _, rfl, rfl⟩
  case round =>
    obtain ⟨k, hk, rfl, rfl⟩ := hrel
    by_cases hlt : k < s.size
    · have hgk := byteAt_get s k hlt
      have h1 := dec_take_succ (bytes s) k hlt
      rw [byteAt_eq s k hlt] at h1
      have h2 := isDig_iff.1 (HD.out _ (List.getElem_mem (l := bytes s) hlt))
      rw [byteAt_eq s k hlt] at h2
      have h3 := dec_small (bytes s) k HD.out (by omega)
      obtain ⟨h4, h5⟩ := h2
      have H1 := Lib.hid h1
      clear h1
      generalize byteAt s k = b at *
      generalize dec ((bytes s).take k) = m at *
      go_wp2
      go_round
      case rel => exact ⟨k + 1, by omega, by go_num, by rw [H1.out]; go_num⟩
      case measure => simp [intOf]; omega
    · have hkn : k = s.size := by omega
      subst hkn
      rw [List.take_of_length_le (l := bytes s) (i := s.size) (Nat.le_refl s.size)]
      go_wp2
      go_ret
      exact ⟨rfl, rfl⟩
end Go.Proofs.YtipnnmbjkpidoaaGreatDoor

namespace Go.Proofs.YtipnnmbjkpidoaaGreatDoor
open Go Go.Proofs Go.RowKit

theorem isZero_any (x : Nat) (v : Value) (w : World) (hv : NumAt w v x) :
    Calls Tryz.prog 150 #[v] w fun e w' => e = .returned (.bool (decide (x = 0))) ∧ Below w.heap.size w w' := by
  obtain ⟨ao, c, rfl, h1, h2, -⟩ := hv
  have hx : ((((limbs x).length : Nat) : Int) == 0) = decide (x = 0) := by
    rw [Bool.eq_iff_iff]; simp [limbs_nil_iff]
  generalize (limbs x).length = n at *
  have HX := Lib.hid hx; clear hx
  have h3 : n ≤ 9223372036854775807 := by omega
  go_enter Tryz.func150, Tryz.ntmps150
  go_wp2
  go_ret
  exact ⟨ret_bool HX.out, by go_grown⟩

theorem direction_any (b : Bool) (w : World) :
    Calls Tryz.prog 191 #[.bool b] w fun e w' => e = .returned (.int .i64 (if b then -1 else 1)) ∧ w = w' := by
  cases b
  all_goals
    go_enter Tryz.func191, Tryz.ntmps191
    go_wp2
    go_ret
    exact ⟨rfl, rfl⟩
end Go.Proofs.YtipnnmbjkpidoaaGreatDoor

namespace Go.Proofs.YtipnnmbjkpidoaaGreatDoor
open Go Go.Proofs Go.RowKit

theorem cmp_len (x y : Nat) (h : (limbs x).length ≠ (limbs y).length) : (if (limbs x).length < (limbs y).length then (-1 : Int) else 1) = cmpN x y := by
  unfold cmpN
  by_cases hl : (limbs x).length < (limbs y).length
  · rw [if_pos hl, if_pos (lt_of_limbs_length hl)]
  · have := lt_of_limbs_length (m := y) (n := x) (by omega)
    rw [if_neg hl, if_neg (by omega), if_neg (by omega)]

set_option maxHeartbeats 1000000 in
theorem compare_len (x y : Nat) (vx vy : Value) (w : World) (hx : NumAt w vx x) (hy : NumAt w vy y) (hne : (limbs x).length ≠ (limbs y).length) :
    Calls Tryz.prog 168 #[vx, vy] w fun e w' => e = .returned (.int .i64 (cmpN x y)) ∧ Below w.heap.size w w' := by
  obtain ⟨ao, c, rfl, h1, h2, -⟩ := hx
  obtain ⟨ap, d, rfl, h3, h4, -⟩ := hy
  have hr := cmp_len x y hne
  have ht : (((limbs x).length : Int) != ((limbs y).length : Int)) = true := by simp; omega
  generalize (limbs x).length = m at *
  generalize (limbs y).length = n at *
  have HR := Lib.hid hr; clear hr
  have h5 : m ≤ 9223372036854775807 := by omega
  have h6 : n ≤ 9223372036854775807 := by omega
  clear h1 h2 h3 h4 hne
  by_cases hl : m < n
  all_goals
    go_enter Tryz.func168, Tryz.ntmps168
    go_wp2_with (go_at_call 191; refine (direction_any _ _).mono ?_; rintro e w' ⟨rfl, rfl⟩)
    go_ret
    refine ⟨ret_int ?_, by go_grown⟩
    rw [← HR.out]; simp [hl]
end Go.Proofs.YtipnnmbjkpidoaaGreatDoor
