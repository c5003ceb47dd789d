import Derived.Lib.ItoaNum
import Derived.Test.YtjjkabgbcflipaaProg
import Derived.Tactics
import Derived.Tactics2
import Derived.WalkKit
import Derived.WalkLawsBesides
import Derived.Deep.QuietTactic
import Derived.BigQuiet
import Derived.Lib.Hide
import Derived.Handy
import Derived.Outline
import Derived.KernelRfl
import Derived.WalkMore
import Derived.Laws.AppendOwn
import Derived.Laws.OwnMore
import Derived.Deep.AppendLies
import Derived.Maps.AppendAt
import Derived.Deep.WholeRow
import Derived.Deep.MidRow
set_option linter.unusedSimpArgs false
set_option linter.unusedVariables false
namespace Go.Proofs.Ytjjkabgbcflipaa

/-- The value of limbs, the lowest one first. -/
def val : List Nat → Nat
  | [] => 0
  | x :: xs => x + 1000000000 * val xs

def Small (l : List Nat) : Prop := ∀ x ∈ l, x < 1000000000

theorem val_nil : val [] = 0 := rfl
theorem val_cons (x : Nat) (xs : List Nat) : val (x :: xs) = x + 1000000000 * val xs := rfl

theorem val_append (a b : List Nat) : val (a ++ b) = val a + 1000000000 ^ a.length * val b := by
  induction a with
  | nil => simp [val]
  | cons x xs ih => simp only [List.cons_append, val, ih, List.length_cons, Nat.pow_succ]; grind

theorem val_take_succ (l : List Nat) (i : Nat) (h : i < l.length) : val (l.take (i+1)) = val (l.take i) + l[i] * 1000000000 ^ i := by
  rw [List.take_succ_eq_append_getElem h, val_append]
  simp [val, Nat.min_eq_left (Nat.le_of_lt h)]
  grind

theorem val_split (l : List Nat) (i : Nat) (h : i ≤ l.length) : val l = val (l.take i) + 1000000000 ^ i * val (l.drop i) := by
  conv => lhs; rw [← List.take_append_drop i l, val_append]
  rw [List.length_take, Nat.min_eq_left h]

theorem Small.tail {x : Nat} {xs : List Nat} (h : Small (x :: xs)) : Small xs := fun y hy => h y (List.mem_cons_of_mem _ hy)
theorem Small.head {x : Nat} {xs : List Nat} (h : Small (x :: xs)) : x < 1000000000 := h x (List.mem_cons_self ..)
theorem Small.nil : Small [] := fun _ h => by cases h
theorem Small.cons {x : Nat} {xs : List Nat} (hx : x < 1000000000) (h : Small xs) : Small (x :: xs) := by
  intro y hy; rcases List.mem_cons.1 hy with rfl | hy
  · exact hx
  · exact h y hy
theorem Small.append {a b : List Nat} (ha : Small a) (hb : Small b) : Small (a ++ b) := by
  intro y hy; rcases List.mem_append.1 hy with hy | hy
  · exact ha y hy
  · exact hb y hy
theorem Small.take {l : List Nat} (h : Small l) (i : Nat) : Small (l.take i) := fun y hy => h y (List.mem_of_mem_take hy)
theorem Small.drop {l : List Nat} (h : Small l) (i : Nat) : Small (l.drop i) := fun y hy => h y (List.mem_of_mem_drop hy)
theorem Small.get {l : List Nat} (h : Small l) (i : Nat) (hi : i < l.length) : l[i] < 1000000000 := h _ (List.getElem_mem hi)
theorem Small.set {l : List Nat} (h : Small l) (i v : Nat) (hv : v < 1000000000) : Small (l.set i v) := by
  intro y hy
  rcases List.mem_or_eq_of_mem_set hy with hy | rfl
  · exact h y hy
  · exact hv
theorem Small.replicate (n : Nat) : Small (List.replicate n 0) := by
  intro y hy
  rw [List.eq_of_mem_replicate hy]; decide

theorem val_lt {l : List Nat} (h : Small l) : val l < 1000000000 ^ l.length := by
  induction l with
  | nil => simp [val]
  | cons x xs ih =>
    have h1 := ih h.tail
    have h2 := h.head
    simp only [val, List.length_cons, Nat.pow_succ]
    omega

theorem val_replicate (n : Nat) : val (List.replicate n 0) = 0 := by
  induction n with
  | zero => rfl
  | succ n ih => simp [List.replicate_succ, val, ih]

theorem val_set (l : List Nat) (i v : Nat) (h : i < l.length) : val (l.set i v) + l[i] * 1000000000 ^ i = val l + v * 1000000000 ^ i := by
  induction l generalizing i with
  | nil => simp at h
  | cons x xs ih =>
    cases i with
    | zero => simp [val]; omega
    | succ i =>
      have := ih i (by simpa using h)
      simp only [List.set_cons_succ, val, List.getElem_cons_succ, Nat.pow_succ]
      grind

/-- Two lists of as many limbs with the same value are the same. -/
theorem val_inj {a b : List Nat} (ha : Small a) (hb : Small b) (hl : a.length = b.length) (h : val a = val b) : a = b := by
  induction a generalizing b with
  | nil => cases b with
    | nil => rfl
    | cons _ _ => simp at hl
  | cons x xs ih => cases b with
    | nil => simp at hl
    | cons y ys =>
      have h1 := ha.head; have h2 := hb.head
      simp only [val] at h
      have e1 : x = y := by omega
      have e2 : val xs = val ys := by omega
      rw [e1, ih ha.tail hb.tail (by simpa using hl) e2]

theorem getD_lt (l : List Nat) (k : Nat) (h : k < l.length) : l.getD k 0 = l[k] := by simp [List.getD_eq_getElem?_getD, h]
theorem getD_ge (l : List Nat) (k : Nat) (h : l.length ≤ k) : l.getD k 0 = 0 := by simp [List.getD_eq_getElem?_getD, h]
theorem Small.getD {l : List Nat} (h : Small l) (k : Nat) : l.getD k 0 < 1000000000 := by
  by_cases hk : k < l.length
  · rw [getD_lt l k hk]; exact h.get k hk
  · rw [getD_ge l k (by omega)]; decide

/-- The limbs of a number, without a zero at the end. -/
def limbs (n : Nat) : List Nat := if h : n = 0 then [] else n % 1000000000 :: limbs (n / 1000000000)
termination_by n
decreasing_by omega

theorem limbs_zero : limbs 0 = [] := by rw [limbs]; rfl
theorem limbs_pos {n : Nat} (h : n ≠ 0) : limbs n = n % 1000000000 :: limbs (n / 1000000000) := by rw [limbs, dif_neg h]

theorem limbs_small (n : Nat) : Small (limbs n) := by
  induction n using Nat.strongRecOn with
  | _ n ih =>
    by_cases h : n = 0
    · rw [h, limbs_zero]; exact Small.nil
    · rw [limbs_pos h]; exact Small.cons (by omega) (ih _ (by omega))

theorem val_limbs (n : Nat) : val (limbs n) = n := by
  induction n using Nat.strongRecOn with
  | _ n ih =>
    by_cases h : n = 0
    · rw [h, limbs_zero]; rfl
    · rw [limbs_pos h, val_cons, ih _ (by omega)]; omega

theorem limbs_nil_iff {n : Nat} : limbs n = [] ↔ n = 0 := by
  constructor
  · intro h; rw [← val_limbs n, h]; rfl
  · rintro rfl; exact limbs_zero

/-- No zero at the end. -/
def Norm (l : List Nat) : Prop := ∀ h : l ≠ [], l.getLast h ≠ 0

theorem limbs_norm (n : Nat) : Norm (limbs n) := by
  induction n using Nat.strongRecOn with
  | _ n ih =>
    intro h
    by_cases h0 : n = 0
    · exact absurd (limbs_nil_iff.2 h0) h
    · have e := limbs_pos h0
      by_cases hq : n / 1000000000 = 0
      · have e2 : limbs n = [n % 1000000000] := by rw [e, hq, limbs_zero]
        have : (limbs n).getLast h = n % 1000000000 := by simp [e2]
        omega
      · have hne : limbs (n / 1000000000) ≠ [] := fun c => hq (limbs_nil_iff.1 c)
        have := ih (n / 1000000000) (by omega) hne
        have e3 : (limbs n).getLast h = (limbs (n / 1000000000)).getLast hne := by
          simp only [e]; rw [List.getLast_cons hne]
        rw [e3]; exact this

theorem norm_tail {x : Nat} {xs : List Nat} (h : Norm (x :: xs)) : Norm xs := by
  intro hne; have := h (by simp); rwa [List.getLast_cons hne] at this

theorem norm_val_pos {l : List Nat} (hn : Norm l) (h : l ≠ []) : 0 < val l := by
  induction l with
  | nil => exact absurd rfl h
  | cons x xs ih =>
    by_cases hx : xs = []
    · subst hx; have := hn (by simp); simp at this; simp [val]; omega
    · have := ih (norm_tail hn) hx; simp [val]; omega

/-- What has no zero at the end is the limbs of its value. -/
theorem eq_limbs {l : List Nat} (hs : Small l) (hn : Norm l) : l = limbs (val l) := by
  induction l with
  | nil => rw [val_nil, limbs_zero]
  | cons x xs ih =>
    have hp := norm_val_pos hn (by simp)
    have h1 := hs.head
    rw [limbs_pos (by omega)]
    have e1 : val (x :: xs) % 1000000000 = x := by simp only [val]; omega
    have e2 : val (x :: xs) / 1000000000 = val xs := by simp only [val]; omega
    rw [e1, e2, ← ih hs.tail (norm_tail hn)]

theorem limbs_length_le {n k : Nat} (h : n < 1000000000 ^ k) : (limbs n).length ≤ k := by
  induction k generalizing n with
  | zero => have : n = 0 := by simpa using h
            subst this; simp [limbs_zero]
  | succ k ih =>
    by_cases h0 : n = 0
    · subst h0; simp [limbs_zero]
    · rw [limbs_pos h0, List.length_cons]
      have := @ih (n / 1000000000) (by rw [Nat.pow_succ] at h; exact Nat.div_lt_of_lt_mul (by rw [Nat.mul_comm]; exact h))
      omega

theorem lt_pow_limbs (n : Nat) : n < 1000000000 ^ (limbs n).length := by
  have := val_lt (limbs_small n); rwa [val_limbs] at this

theorem pow_le_of_limbs {n k : Nat} (h : k < (limbs n).length) : 1000000000 ^ k ≤ n := by
  rcases Nat.lt_or_ge n (1000000000 ^ k) with h1 | h1
  · have := limbs_length_le h1; omega
  · exact h1

theorem limbs_length_mono {m n : Nat} (h : m ≤ n) : (limbs m).length ≤ (limbs n).length :=
  limbs_length_le (Nat.lt_of_le_of_lt h (lt_pow_limbs n))

theorem lt_of_limbs_length {m n : Nat} (h : (limbs m).length < (limbs n).length) : m < n :=
  Nat.lt_of_lt_of_le (lt_pow_limbs m) (pow_le_of_limbs h)

/-- The order of numbers with as many limbs is told by the highest limb that differs. -/
theorem val_lt_of_top {a b : List Nat} (hs : Small a) (hl : a.length = b.length) (i : Nat) (hi : i < a.length)
    (hd : a.drop (i + 1) = b.drop (i + 1)) (h : a[i] < b[i]'(hl ▸ hi)) : val a < val b := by
  rw [val_split a (i + 1) (by omega), val_split b (i + 1) (by omega), hd, val_take_succ a i hi, val_take_succ b i (by omega)]
  have h1 := val_lt (hs.take i)
  rw [List.length_take, Nat.min_eq_left (by omega)] at h1
  have h2 : (a[i] + 1) * 1000000000 ^ i ≤ b[i] * 1000000000 ^ i := Nat.mul_le_mul_right _ h
  rw [Nat.add_mul] at h2
  omega

end Go.Proofs.Ytjjkabgbcflipaa
namespace Go.Proofs.Ytjjkabgbcflipaa
open Go

/-- Is a byte a digit? -/
def isDig (c : UInt8) : Bool := 48 ≤ c.toNat && c.toNat ≤ 57
def AllDig (l : List UInt8) : Prop := ∀ c ∈ l, isDig c = true

/-- The value of digits. -/
def dec : List UInt8 → Nat
  | [] => 0
  | c :: cs => (c.toNat - 48) * 10 ^ cs.length + dec cs

theorem dec_append (a b : List UInt8) : dec (a ++ b) = dec a * 10 ^ b.length + dec b := by
  induction a with
  | nil => simp [dec]
  | cons x xs ih => simp only [List.cons_append, dec, ih, List.length_append, Nat.pow_add]; grind

theorem dec_snoc (a : List UInt8) (c : UInt8) : dec (a ++ [c]) = 10 * dec a + (c.toNat - 48) := by
  rw [dec_append]; simp [dec]; omega

theorem isDig_iff {c : UInt8} : isDig c = true ↔ 48 ≤ c.toNat ∧ c.toNat ≤ 57 := by
  simp [isDig]

theorem AllDig.append {a b : List UInt8} (ha : AllDig a) (hb : AllDig b) : AllDig (a ++ b) := by
  intro y hy; rcases List.mem_append.1 hy with hy | hy
  · exact ha y hy
  · exact hb y hy
theorem AllDig.take {l : List UInt8} (h : AllDig l) (i : Nat) : AllDig (l.take i) := fun y hy => h y (List.mem_of_mem_take hy)
theorem AllDig.drop {l : List UInt8} (h : AllDig l) (i : Nat) : AllDig (l.drop i) := fun y hy => h y (List.mem_of_mem_drop hy)

theorem dec_lt {l : List UInt8} (h : AllDig l) : dec l < 10 ^ l.length := by
  induction l with
  | nil => simp [dec]
  | cons x xs ih =>
    have h1 := ih (fun y hy => h y (List.mem_cons_of_mem _ hy))
    have h2 := isDig_iff.1 (h x (List.mem_cons_self ..))
    simp only [dec, List.length_cons, Nat.pow_succ]
    have h3 : (x.toNat - 48) * 10 ^ xs.length ≤ 9 * 10 ^ xs.length := Nat.mul_le_mul_right _ (by omega)
    omega

theorem toNat_dig (d : Nat) (h : d < 10) : (UInt8.ofNat (48 + d)).toNat = 48 + d := by
  rw [UInt8.toNat_ofNat']; omega

theorem isDig_ofNat (d : Nat) (h : d < 10) : isDig (UInt8.ofNat (48 + d)) = true := by
  rw [isDig_iff, toNat_dig d h]; omega

theorem allDig_decDigits (u : Nat) : AllDig (Lib.decDigits u) := by
  induction u using Nat.strongRecOn with
  | _ u ih =>
    rw [Lib.decDigits]
    split
    · intro c hc
      rw [List.mem_singleton.1 hc]
      exact isDig_ofNat _ ‹_›
    · refine (ih _ (by omega)).append ?_
      intro c hc
      rw [List.mem_singleton.1 hc]
      exact isDig_ofNat _ (by omega)

theorem dec_decDigits (u : Nat) : dec (Lib.decDigits u) = u := by
  induction u using Nat.strongRecOn with
  | _ u ih =>
    rw [Lib.decDigits]
    split
    · simp only [dec, List.length_nil, Nat.pow_zero]; rw [toNat_dig _ ‹_›]; omega
    · rw [dec_snoc, ih _ (by omega), toNat_dig _ (by omega)]; omega

theorem decDigits_ne_nil (u : Nat) : Lib.decDigits u ≠ [] := by
  rw [Lib.decDigits]; split <;> simp

theorem decDigits_inj {a b : Nat} (h : Lib.decDigits a = Lib.decDigits b) : a = b := by
  rw [← dec_decDigits a, h, dec_decDigits]

/-- Two lists of as many digits with the same value are the same. -/
theorem dec_inj {a b : List UInt8} (ha : AllDig a) (hb : AllDig b) (hl : a.length = b.length) (h : dec a = dec b) : a = b := by
  induction a generalizing b with
  | nil => cases b with
    | nil => rfl
    | cons _ _ => simp at hl
  | cons x xs ih => cases b with
    | nil => simp at hl
    | cons y ys =>
      have hax : AllDig xs := fun z hz => ha z (List.mem_cons_of_mem _ hz)
      have hbx : AllDig ys := fun z hz => hb z (List.mem_cons_of_mem _ hz)
      have hl' : xs.length = ys.length := by simpa using hl
      have h1 := dec_lt hax; have h2 := dec_lt hbx
      have h3 := isDig_iff.1 (ha x (List.mem_cons_self ..))
      have h4 := isDig_iff.1 (hb y (List.mem_cons_self ..))
      simp only [dec] at h
      rw [hl'] at h h1
      have e0 : x.toNat - 48 = y.toNat - 48 := by
        rcases Nat.lt_trichotomy (x.toNat - 48) (y.toNat - 48) with hlt | he | hgt
        · have : (x.toNat - 48 + 1) * 10 ^ ys.length ≤ (y.toNat - 48) * 10 ^ ys.length := Nat.mul_le_mul_right _ hlt
          rw [Nat.add_mul] at this; omega
        · exact he
        · have : (y.toNat - 48 + 1) * 10 ^ ys.length ≤ (x.toNat - 48) * 10 ^ ys.length := Nat.mul_le_mul_right _ hgt
          rw [Nat.add_mul] at this; omega
      have e1 : x = y := UInt8.toNat.inj (by omega)
      subst e1
      rw [ih hax hbx hl' (by omega)]

theorem nDigits_le_of_lt {u k : Nat} (hk : 1 ≤ k) (h : u < 10 ^ k) : Lib.nDigits u ≤ k := by
  induction k generalizing u with
  | zero => omega
  | succ k ih =>
    by_cases h1 : u < 10
    · rw [Lib.nDigits_small h1]; omega
    · rw [Lib.nDigits_big h1]
      rcases Nat.eq_zero_or_pos k with rfl | hk'
      · simp at h; omega
      · have := ih hk' (u := u / 10) (by rw [Nat.pow_succ] at h; omega)
        omega

theorem pow_le_of_nDigits {u k : Nat} (hk : 1 ≤ k) (h : k < Lib.nDigits u) : 10 ^ k ≤ u := by
  rcases Nat.lt_or_ge u (10 ^ k) with h1 | h1
  · have := nDigits_le_of_lt hk h1; omega
  · exact h1

/-- Digits without a zero in front are the digits of their value. -/
theorem eq_decDigits {l : List UInt8} (h : AllDig l) (hne : l ≠ []) (h0 : l = [48] ∨ l.head hne ≠ 48) : l = Lib.decDigits (dec l) := by
  refine dec_inj h (allDig_decDigits _) ?_ (dec_decDigits _).symm
  rw [Lib.decDigits_length]
  rcases h0 with rfl | h0
  · rw [Lib.nDigits_small (by simp [dec])]; rfl
  · cases l with
    | nil => exact absurd rfl hne
    | cons x xs =>
      have h2 := dec_lt h
      have h3 := isDig_iff.1 (h x (List.mem_cons_self ..))
      have h4 : x.toNat ≠ 48 := by
        intro e; apply h0; simp only [List.head_cons]; exact UInt8.toNat.inj (by rw [e]; rfl)
      have h5 : 1 * 10 ^ xs.length ≤ (x.toNat - 48) * 10 ^ xs.length := Nat.mul_le_mul_right _ (by omega)
      have h6 : 10 ^ xs.length ≤ dec (x :: xs) := by simp only [dec]; omega
      have := Lib.nDigits_unique xs.length (dec (x :: xs)) h6 (by simpa using h2)
      rw [this]; simp

theorem decDigits_head (u : Nat) (hu : u ≠ 0) : (Lib.decDigits u).head (decDigits_ne_nil u) ≠ 48 := by
  induction u using Nat.strongRecOn with
  | _ u ih =>
    by_cases h : u < 10
    · have e : Lib.decDigits u = [UInt8.ofNat (48 + u)] := by rw [Lib.decDigits, dif_pos h]
      simp only [e, List.head_cons]
      intro c
      have := congrArg UInt8.toNat c
      rw [toNat_dig u h] at this
      have h48 : (48 : UInt8).toNat = 48 := rfl
      omega
    · have e : Lib.decDigits u = Lib.decDigits (u / 10) ++ [UInt8.ofNat (48 + u % 10)] := by rw [Lib.decDigits, dif_neg h]
      simp only [e]
      rw [List.head_append_of_ne_nil (decDigits_ne_nil _)]
      exact ih (u / 10) (by omega) (by omega)

end Go.Proofs.Ytjjkabgbcflipaa
namespace Go.Proofs.Ytjjkabgbcflipaa
open Go Go.Proofs Go.RowKit

/-- The limbs l lie in w behind the slice with this address and capacity. -/
def RowAt (w : World) (ao : Option Addr) (c : Nat) (l : List Nat) : Prop :=
  l.length ≤ c ∧ c ≤ 9223372036854775807 ∧ ((l = [] ∧ (ao = none → c = 0)) ∨ ∃ b off, ao = some ⟨b, off, none⟩ ∧ b < w.heap.size ∧ ∀ k, k < l.length → w.cell? ⟨b, off + k, none⟩ = some (.int .u32 (l.getD k 0 : Nat)))

/-- A value of type natural.Number that stands for x. -/
def NumAt (w : World) (v : Value) (x : Nat) : Prop := ∃ ao c, v = .agg #[.slice ao (limbs x).length c] ∧ RowAt w ao c (limbs x)

theorem RowAt.mono {w w' : World} {ao : Option Addr} {c : Nat} {l : List Nat} (h : RowAt w ao c l) (hb : Below w.heap.size w w') : RowAt w' ao c l := by
  obtain ⟨h1, h2, h3⟩ := h
  refine ⟨h1, h2, ?_⟩
  rcases h3 with h3 | ⟨b, off, he, hlt, hc⟩
  · exact .inl h3
  · refine .inr ⟨b, off, he, Nat.lt_of_lt_of_le hlt hb.size, fun k hk => ?_⟩
    rw [hb.cell (p := ⟨b, off + k, none⟩) hlt]; exact hc k hk

theorem NumAt.mono {w w' : World} {v : Value} {x : Nat} (h : NumAt w v x) (hb : Below w.heap.size w w') : NumAt w' v x := by
  obtain ⟨ao, c, he, hr⟩ := h
  exact ⟨ao, c, he, hr.mono hb⟩

theorem Below.chain {a b c : World} (h : Below a.heap.size a b) (k : Below b.heap.size b c) : Below a.heap.size a c :=
  h.trans (k.mono h.size)

theorem ret_int {k : IntKind} {a b : Int} (h : a = b) : Ending.returned (.int k a) = .returned (.int k b) := by rw [h]
theorem ret_bool {a b : Bool} (h : a = b) : Ending.returned (.bool a) = .returned (.bool b) := by rw [h]

/-- The order of two numbers. -/
def cmpN (x y : Nat) : Int := if x < y then -1 else if x = y then 0 else 1
def cmpI (x y : Int) : Int := if x < y then -1 else if x = y then 0 else 1

/-- What a row of limbs gives a walk: its cells by a function that the walk does not open. -/
theorem RowAt.open {w : World} {ao : Option Addr} {c : Nat} {l : List Nat} (h : RowAt w ao c l) (hs : Small l) :
    ∃ d : Nat → Int, (∀ k, k < l.length → d k = (l.getD k 0 : Nat)) ∧ (∀ k, 0 ≤ d k ∧ d k < 1000000000) ∧
      (l = [] ∨ ∃ b off, ao = some ⟨b, off, none⟩ ∧ b < w.heap.size ∧ ∀ k, k < l.length → w.cell? ⟨b, off + k, none⟩ = some (.int .u32 (d k))) := by
  refine ⟨fun k => (l.getD k 0 : Nat), fun k _ => rfl, fun k => ⟨Int.natCast_nonneg _, ?_⟩, h.2.2.imp (fun h => h.1) id⟩
  have := hs.getD k
  show ((l.getD k 0 : Nat) : Int) < 1000000000
  omega

/-- A contract of a function that turns nothing, at a call within a region behind draws: the count of draws goes on. -/
theorem drawsOn {P : Program} {f : FuncId} {args : Array Value} {w : World} {m n : Nat} {v : Value}
    (c : Calls P f args (w.drewN (m + n)) fun e w' => e = .returned v ∧ w.drewN (m + n) = w') :
    Calls P f args (w.drewN (m + n)) fun e w' => e = .returned v ∧ ∃ k, w' = w.drewN (m + k) :=
  c.mono fun _ _ h => ⟨h.1, n, h.2.symm⟩
theorem drawsHere {P : Program} {f : FuncId} {args : Array Value} {w : World} {n : Nat} {v : Value}
    (c : Calls P f args (w.drewN n) fun e w' => e = .returned v ∧ w.drewN n = w') :
    Calls P f args (w.drewN n) fun e w' => e = .returned v ∧ ∃ k, w' = w.drewN k :=
  c.mono fun _ _ h => ⟨h.1, n, h.2.symm⟩

theorem cellSet {w : World} {a : Addr} {u : Value} (h : w.cell? a = some u) (v : Value) : (w.setCell a v).cell? a = some v :=
  World.cell?_setCell_same' _ _ _ (by rw [h]; rfl)

/-- Two boxes that are laid one behind the other. -/
structure Two (w W : World) (v1 v2 : Value) : Prop where
  size : W.heap.size = w.heap.size + 2
  c1 : W.cell? ⟨w.heap.size, 0, none⟩ = some v1
  c2 : W.cell? ⟨w.heap.size + 1, 0, none⟩ = some v2
  f1 : W.frozen? ⟨w.heap.size, 0, none⟩ = false
  f2 : W.frozen? ⟨w.heap.size + 1, 0, none⟩ = false
  below : Below w.heap.size w W
theorem two_new (w : World) (v1 v2 : Value) (t1 t2 : TypeId) : Two w ((w.alloc (Obj.cells #[v1] t1)).alloc (Obj.cells #[v2] t2)) v1 v2 :=
  ⟨by simp, by go_cell, by go_cell, by go_cell, by go_cell, by go_grown⟩

end Go.Proofs.Ytjjkabgbcflipaa
namespace Go.Proofs.Ytjjkabgbcflipaa
open Go Go.Proofs Go.RowKit

/-- All blocks but those of a set lie as they lay. -/
structure But (S : Nat → Prop) (w w' : World) : Prop where
  os : w'.os = w.os
  tape : w'.tape = w.tape
  output : w'.output = w.output
  size : w.heap.size ≤ w'.heap.size
  block : ∀ k, k < w.heap.size → ¬ S k → w'.heap[k]? = w.heap[k]?
section
variable {S T : Nat → Prop} {a b c w w' : World}
theorem But.refl (S : Nat → Prop) (w : World) : But S w w := ⟨rfl, rfl, rfl, Nat.le_refl _, fun _ _ _ => rfl⟩
theorem But.trans (h : But S a b) (k : But T b c) (hs : ∀ k, k < a.heap.size → T k → S k) : But S a c :=
  ⟨k.os.trans h.os, k.tape.trans h.tape, k.output.trans h.output, Nat.le_trans h.size k.size, fun i hi hn => (k.block i (Nat.lt_of_lt_of_le hi h.size) (fun t => hn (hs i hi t))).trans (h.block i hi hn)⟩
theorem But.seq (h : But S a b) (k : But T b c) : But (fun i => S i ∨ T i) a c := ⟨k.os.trans h.os, k.tape.trans h.tape, k.output.trans h.output, Nat.le_trans h.size k.size, fun i hi hn => (k.block i (Nat.lt_of_lt_of_le hi h.size) (fun t => hn (.inr t))).trans (h.block i hi (fun t => hn (.inl t)))⟩
theorem But.of_below (h : Below w.heap.size w w') : But S w w' := ⟨h.os, h.tape, h.output, h.size, fun k hk _ => h.block k hk⟩
theorem But.below (h : But S w w') (hs : ∀ k, k < w.heap.size → ¬ S k) : Below w.heap.size w w' := ⟨h.os, h.tape, h.output, h.size, fun k hk => h.block k hk (hs k hk)⟩
theorem But.of_grown {row : Option Nat} (h : w.grownBy w' row) (hs : ∀ k, row = some k → S k) : But S w w' := ⟨h.os, h.tape, h.output, h.size, fun k hk hn => h.block k hk (fun e => hn (hs k e.symm))⟩
theorem But.mono (h : But S w w') (hs : ∀ k, k < w.heap.size → S k → T k) : But T w w' := ⟨h.os, h.tape, h.output, h.size, fun k hk hn => h.block k hk (fun s => hn (hs k hk s))⟩
theorem But.cell (h : But S w w') {p : Addr} (hp : p.block < w.heap.size) (hn : ¬ S p.block) : w'.cell? p = w.cell? p := World.cell?_of_block (h.block _ hp hn)
theorem But.frozen (h : But S w w') {p : Addr} (hp : p.block < w.heap.size) (hn : ¬ S p.block) : w'.frozen? p = w.frozen? p := World.frozen?_of_block (h.block _ hp hn)
theorem But.set (h : But S a w) (p : Addr) (v : Value) (hs : p.block < a.heap.size → S p.block) : But S a (w.setCell p v) :=
  ⟨h.os, h.tape, h.output, by simpa using h.size, fun k hk hn => by
    rw [heap_setCell_other w p k v (fun e => hn (by rw [e]; exact hs (by rw [← e]; exact hk)))]; exact h.block k hk hn⟩
theorem But.alloc (h : But S a w) (o : Obj) : But S a (w.alloc o) := h.trans (But.of_below (S := fun _ => False) ((Below.refl _ _).alloc (Nat.le_refl _) o)) (fun _ _ f => f.elim)
theorem But.next (h : But S a w) (k : Below w.heap.size w w') : But S a w' := h.trans (But.of_below (S := fun _ => False) k) (fun _ _ f => f.elim)
end

/-- An edge: where it comes from, where it leads to, and all of its cells. -/
structure Ed where
  f : Int
  t : Int
  a2 : Int
  a3 : Int
  a4 : Int
  a5 : Int
  a6 : Int
  a7 : Int
  a8 : Int
  s9 : ByteArray
  a10 : Int
  o11 : Option Addr
  n11 : Nat
  c11 : Nat
  a12 : Int
  s13 : ByteArray
  a14 : Int
  o15 : Option Addr
  n15 : Nat
  c15 : Nat
  a16 : Int
  o17 : Option Addr
  n17 : Nat
  c17 : Nat
  o18 : Option Addr
  n18 : Nat
  c18 : Nat
  o19 : Option Addr
  n19 : Nat
  c19 : Nat
  o20 : Option Addr
  n20 : Nat
  c20 : Nat
def Ed.cs (x : Ed) : Array Value := #[.int .i64 x.f, .int .i64 x.t, .int .i64 x.a2, .int .i64 x.a3, .int .i64 x.a4, .int .i64 x.a5, .int .i64 x.a6, .int .i64 x.a7, .int .i64 x.a8, .string x.s9, .int .i64 x.a10, .slice x.o11 x.n11 x.c11, .int .i64 x.a12, .string x.s13, .int .i64 x.a14, .slice x.o15 x.n15 x.c15, .int .i64 x.a16, .slice x.o17 x.n17 x.c17, .slice x.o18 x.n18 x.c18, .slice x.o19 x.n19 x.c19, .slice x.o20 x.n20 x.c20]
structure Ed.ok (x : Ed) : Prop where
  size : x.cs.size = 21
  f0 : x.cs[0]? = some (.int .i64 x.f)
  t1 : x.cs[1]? = some (.int .i64 x.t)
  one : x.cs.all (·.oneCell') = true
theorem Ed.good (x : Ed) : x.ok := ⟨rfl, rfl, rfl, by simp [Ed.cs, Value.oneCell']⟩
def edCells : List Ed → List Value
  | [] => []
  | x :: l => x.cs.toList ++ edCells l
theorem edCells_length : ∀ (l : List Ed), (∀ x ∈ l, x.ok) → (edCells l).length = l.length * 21
  | [], _ => rfl
  | x :: l, h => by simp only [edCells, List.length_cons, List.length_append, edCells_length l (fun y hy => h y (List.mem_cons_of_mem _ hy)), Array.length_toList, (h x (List.mem_cons_self ..)).size]; omega
theorem edCells_app : ∀ (l m : List Ed), edCells (l ++ m) = edCells l ++ edCells m
  | [], m => rfl
  | x :: l, m => by simp only [edCells, List.cons_append, edCells_app l m, List.append_assoc]
/-- The cells of an edge from an offset on. -/
def EdAt (W : World) (b o : Nat) (x : Ed) : Prop := ∀ j u, x.cs[j]? = some u → W.cell? ⟨b, o + j, none⟩ = some u
/-- A slice of edges. -/
def ERow (A : Nat → Prop) (W : World) (ao : Option Addr) (c : Nat) (l : List Ed) : Prop :=
  l.length ≤ c ∧ c ≤ maxLen ∧ (∀ x ∈ l, x.ok) ∧ (l = [] ∨ ∃ b o, ao = some ⟨b, o, none⟩ ∧ A b ∧ b < W.heap.size ∧ ∀ j u, (edCells l)[j]? = some u → W.cell? ⟨b, o + j, none⟩ = some u)
def edD (l : List Ed) (j : Nat) : Ed := l.getD j ⟨0, 0, 0, 0, 0, 0, 0, 0, 0, ⟨#[]⟩, 0, none, 0, 0, 0, ⟨#[]⟩, 0, none, 0, 0, 0, none, 0, 0, none, 0, 0, none, 0, 0, none, 0, 0⟩
theorem edD_eq {l : List Ed} {j : Nat} (h : j < l.length) : edD l j = l[j]'h := by unfold edD; rw [List.getD_eq_getElem?_getD, List.getElem?_eq_getElem h]; rfl
theorem edD_drop {l : List Ed} {j : Nat} (h : j < l.length) : l.drop j = edD l j :: l.drop (j + 1) := by rw [edD_eq h]; exact List.drop_eq_getElem_cons h
theorem edD_mem {l : List Ed} {j : Nat} (h : j < l.length) : edD l j ∈ l := by rw [edD_eq h]; exact List.getElem_mem h
theorem edD_take {l : List Ed} {j : Nat} (h : j < l.length) : l.take (j + 1) = l.take j ++ [edD l j] := by rw [edD_eq h]; exact (List.take_append_getElem h).symm
theorem ed_cells_at {W : World} {b : Nat} : ∀ (l : List Ed) (o j : Nat) (h : j < l.length), (∀ x ∈ l, x.ok) → (∀ i u, (edCells l)[i]? = some u → W.cell? ⟨b, o + i, none⟩ = some u) → EdAt W b (o + j * 21) (edD l j)
  | [], o, j, h, _, hc => by simp at h
  | x :: l, o, 0, h, _, hc => by
    have e : edD (x :: l) 0 = x := rfl
    rw [e, Nat.zero_mul, Nat.add_zero]
    intro i u hi
    refine hc i u ?_
    rw [edCells, List.getElem?_append_left (by rw [Array.length_toList]; exact (Array.getElem?_eq_some_iff.1 hi).1), Array.getElem?_toList]; exact hi
  | x :: l, o, j + 1, h, hk, hc => by
    have e : edD (x :: l) (j + 1) = edD l j := rfl
    have ih := ed_cells_at l (o + 21) j (by simpa using h) (fun y hy => hk y (List.mem_cons_of_mem _ hy)) (fun i u hi => by
      have hz : x.cs.toList.length = 21 := by rw [Array.length_toList]; exact (hk x (List.mem_cons_self ..)).size
      have := hc (i + 21) u (by rw [edCells, List.getElem?_append_right (by omega), hz, Nat.add_sub_cancel]; exact hi)
      rwa [show o + (i + 21) = o + 21 + i by omega] at this)
    rw [e, show o + (j + 1) * 21 = o + 21 + j * 21 by omega]
    exact ih
theorem ERow.get {A : Nat → Prop} {W : World} {ao : Option Addr} {c : Nat} {l : List Ed} (h : ERow A W ao c l) (j : Nat) (hj : j < l.length) : ∃ b o, ao = some ⟨b, o, none⟩ ∧ A b ∧ b < W.heap.size ∧ EdAt W b (o + j * 21) (edD l j) ∧ (edD l j).ok := by
  rcases h.2.2.2 with e | ⟨b, o, e, ha, hlt, hc⟩
  · subst e; exact absurd hj (by simp)
  · exact ⟨b, o, e, ha, hlt, ed_cells_at l o j hj h.2.2.1 hc, h.2.2.1 _ (edD_mem hj)⟩
theorem ERow.at {A : Nat → Prop} {W : World} {ao : Option Addr} {c : Nat} {l : List Ed} (h : ERow A W ao c l) (h0 : 0 < l.length) : ∃ b o, ao = some ⟨b, o, none⟩ ∧ A b ∧ b < W.heap.size ∧ ∀ j, j < l.length → EdAt W b (o + j * 21) (edD l j) ∧ (edD l j).ok := by
  rcases h.2.2.2 with e | ⟨b, o, e, ha, hlt, hc⟩
  · subst e; exact absurd h0 (by simp)
  · exact ⟨b, o, e, ha, hlt, fun j hj => ⟨ed_cells_at l o j hj h.2.2.1 hc, h.2.2.1 _ (edD_mem hj)⟩⟩
theorem ERow.keep {A B S : Nat → Prop} {W W' : World} {ao : Option Addr} {c : Nat} {l : List Ed} (h : ERow A W ao c l) (hb : But S W W') (hs : ∀ k, A k → k < W.heap.size → ¬ S k ∧ B k) : ERow B W' ao c l := by
  obtain ⟨h1, h2, h4, h3⟩ := h
  refine ⟨h1, h2, h4, h3.imp_right ?_⟩
  rintro ⟨b, o, e, ha, hlt, hc⟩
  exact ⟨b, o, e, (hs b ha hlt).2, Nat.lt_of_lt_of_le hlt hb.size, fun j u hu => (hb.cell (p := ⟨b, o + j, none⟩) hlt (hs b ha hlt).1).trans (hc j u hu)⟩
theorem EdAt.but {S : Nat → Prop} {W W' : World} {b o : Nat} {x : Ed} (h : EdAt W b o x) (hb : But S W W') (hlt : b < W.heap.size) (hn : ¬ S b) : EdAt W' b o x :=
  fun j u hu => (hb.cell (p := ⟨b, o + j, none⟩) hlt hn).trans (h j u hu)
/-- An edge is loaded whole, and stored whole into a new block. -/
theorem ed_load {P : Program} {W : World} {b o : Nat} {x : Ed} (h : EdAt W b o x) (hk : x.ok) : (loadCellsFrom ⟨b, o, none⟩ 0 21 #[]).run P W = .ok x.cs W := by
  have := run_loadCells_list (P := P) W ⟨b, o, none⟩ x.cs.toList (fun j v hv => by
    have hadd : (⟨b, o, none⟩ : Addr).add j = ⟨b, o + j, none⟩ := by unfold Addr.add; split <;> simp_all
    rw [hadd]
    exact h j v (by rw [← Array.getElem?_toList]; exact hv))
  have e : x.cs.toList.length = 21 := by rw [Array.length_toList]; exact hk.size
  rw [e] at this
  simpa [loadCells] using this
theorem infoEd : (Try.prog.info? 55).map (·.size) = some 21 := by kernel_rfl
theorem wpList_load_ed {ops : Array Oper} {rest : List Oper} {op : Oper} {a : Act} {w : World} {Q : Exit → Act → World → Prop} (x : Operand) (hgd : op.guard = none) (ho : op.op = .load 55 x)
    (b o : Nat) (hx : a.eval x = .pointer (some ⟨b, o, none⟩)) (d : Ed) (hc : EdAt w b o d) (h : wpList Try.prog ops Q rest (a.put op.dst (.agg d.cs)) w) : wpList Try.prog ops Q (op :: rest) a w :=
  wpList_load_mid hgd _ x ho b o hx d.cs.toList _ (fun j v hv => hc j v (by rw [← Array.getElem?_toList]; exact hv)) Try.underlying55 rfl (by rw [infoEd]; rfl) h
theorem wpList_store_ed {ops : Array Oper} {rest : List Oper} {op : Oper} {a : Act} {W : World} {c : Array Value} {Q : Exit → Act → World → Prop} (x y : Operand) (hgd : op.guard = none) (ho : op.op = .store 55 x y)
    (hc : c.size = 21) (hx : a.eval x = .pointer (some ⟨W.heap.size, 0, none⟩)) (d : Ed) (hy : a.eval y = .agg d.cs) (h : wpList Try.prog ops Q rest (a.put op.dst undef) (W.alloc (.cells d.cs 55))) :
    wpList Try.prog ops Q (op :: rest) a (W.alloc (.cells c 55)) :=
  wpList_plain hgd fun _ hK => by
    unfold Oper.wp execOp
    simp only [ho, hx, hy, Instr.storeAt, Instr.sureAddr, Sem.run_bind, Sem.run_pure, Result.andThen_ok, run_storeVar_new W _ c d.cs (by rw [infoEd]; rfl) hc (Ed.good d).one]
    exact hK _ _ h
theorem ed_box0 (W : World) (d : Ed) : (W.alloc (.cells d.cs 55)).cell? ⟨W.heap.size, 0, none⟩ = some (.int .i64 d.f) := by
  rw [cell_of_row _ _ 0 _ _ (0, 0) (heap_alloc_last W _)]; rfl
theorem ed_box1 (W : World) (d : Ed) : (W.alloc (.cells d.cs 55)).cell? ⟨W.heap.size, 1, none⟩ = some (.int .i64 d.t) := by
  rw [cell_of_row _ _ 1 _ _ (0, 0) (heap_alloc_last W _)]; rfl

/-- Whether a number is a point. -/
def isPt (n : Int) (p : Int) : Bool := decide (0 ≤ p) && decide (p < n)
theorem isPoint_any (n x p : Int) (ao : Option Addr) (m c : Nat) (w : World) :
    Calls Try.prog 51 #[.agg #[.int .i64 n, .int .i64 x, .slice ao m c], .int .i64 p] w fun e w' => e = .returned (.bool (isPt n p)) ∧ Below w.heap.size w w' := by
  unfold isPt
  cases h1 : decide (0 ≤ p) <;> cases h2 : decide (p < n)
  all_goals
    go_enter Try.func51, Try.ntmps51
    go_wp2
    go_ret
    exact ⟨rfl, by go_grown⟩
end Go.Proofs.Ytjjkabgbcflipaa
namespace Go.Proofs.Ytjjkabgbcflipaa
open Go Go.Proofs Go.RowKit

def ckEs (n : Int) (E : List Ed) : Bool := E.all fun x => isPt n x.f && isPt n x.t
/-- The number of a graph's error. -/
def ckG (n x : Int) (E : List Ed) : Nat := if n < 1 ∨ 512 < n then 2 else if isPt n x = false then 2 else if 1024 < E.length then 5 else if ckEs n E = true then 0 else 6
theorem ckEs_take {n : Int} {E : List Ed} {j : Nat} (h : j < E.length) : ckEs n (E.take (j + 1)) = (ckEs n (E.take j) && (isPt n (edD E j).f && isPt n (edD E j).t)) := by
  rw [edD_take h]; simp [ckEs]
theorem ckEs_bad {n : Int} {E : List Ed} {j : Nat} (h : j < E.length) (hb : (isPt n (edD E j).f && isPt n (edD E j).t) = false) : ckEs n E = false := by
  cases hc : ckEs n E with
  | false => rfl
  | true =>
    have := List.all_eq_true.1 hc _ (edD_mem h)
    rw [hb] at this; cases this
/-- A graph's box. -/
structure GBx (W : World) (p : Nat) (n x : Int) (ao : Option Addr) (m c : Nat) : Prop where
  c0 : W.cell? ⟨p, 0, none⟩ = some (.int .i64 n)
  c1 : W.cell? ⟨p, 1, none⟩ = some (.int .i64 x)
  c2 : W.cell? ⟨p, 2, none⟩ = some (.slice ao m c)
  lt : p < W.heap.size
theorem GBx.new (w : World) (n x : Int) (ao : Option Addr) (m c : Nat) : GBx (w.alloc (Obj.cells #[.int .i64 n, .int .i64 x, .slice ao m c] 24)) w.heap.size n x ao m c :=
  ⟨by go_cell, by go_cell, by go_cell, by simp⟩
theorem GBx.but {S : Nat → Prop} {W W' : World} {p : Nat} {n x : Int} {ao : Option Addr} {m c : Nat} (h : GBx W p n x ao m c) (hb : But S W W') (hn : ¬ S p) : GBx W' p n x ao m c :=
  ⟨(hb.cell (p := ⟨p, 0, none⟩) h.lt hn).trans h.c0, (hb.cell (p := ⟨p, 1, none⟩) h.lt hn).trans h.c1, (hb.cell (p := ⟨p, 2, none⟩) h.lt hn).trans h.c2, Nat.lt_of_lt_of_le h.lt hb.size⟩
theorem GBx.below {W W' : World} {p : Nat} {n x : Int} {ao : Option Addr} {m c : Nat} (h : GBx W p n x ao m c) (hb : Below W.heap.size W W') : GBx W' p n x ao m c := h.but (S := fun _ => False) (But.of_below hb) id
theorem EdAt.below {W W' : World} {b o : Nat} {x : Ed} (h : EdAt W b o x) (hb : Below W.heap.size W W') (hlt : b < W.heap.size) : EdAt W' b o x := h.but (S := fun _ => False) (But.of_below hb) hlt id
set_option maxRecDepth 20000 in
set_option maxHeartbeats 4000000 in
theorem check_any {A : Nat → Prop} (n x : Int) (ao : Option Addr) (c : Nat) (E : List Ed) (w : World) (hr : ERow A w ao c E) :
    Calls Try.prog 21 #[.agg #[.int .i64 n, .int .i64 x, .slice ao E.length c]] w fun e w' => e = .returned (.int .i64 (ckG n x E : Nat)) ∧ Below w.heap.size w w' := by
  have hA : Below w.heap.size w (w.alloc (Obj.cells #[.int .i64 n, .int .i64 x, .slice ao E.length c] 24)) := (Below.refl _ _).alloc (Nat.le_refl _) _
  have hX := GBx.new w n x ao E.length c
  unfold ckG
  cases g1 : decide (n < 1) with
  | true =>
    rw [decide_eq_true_eq] at g1
    rw [if_pos (Or.inl g1)]
    clear hr
    go_enter Try.func21, Try.ntmps21
    go_wp2
    go_ret
    exact ⟨rfl, hA⟩
  | false =>
  cases g2 : decide (512 < n) with
  | true =>
    rw [decide_eq_true_eq] at g2
    rw [if_pos (Or.inr g2)]
    clear hr
    go_enter Try.func21, Try.ntmps21
    go_wp2
    go_ret
    exact ⟨rfl, hA⟩
  | false =>
  rw [if_neg (by rw [decide_eq_false_iff_not] at g1 g2; omega)]
  cases g3 : isPt n x with
  | false =>
    rw [if_pos rfl]
    clear hr
    have CP := isPoint_any n x x ao E.length c (w.alloc (Obj.cells #[.int .i64 n, .int .i64 x, .slice ao E.length c] 24))
    rw [g3] at CP
    have KP := Lib.hid CP; have HA := Lib.hid hA; have HX := Lib.hid hX; clear CP hA
    go_enter Try.func21, Try.ntmps21
    go_wp2_with (go_at_call 51; refine (KP.out).mono ?_; rintro e w1 ⟨rfl, hb⟩; refine Hid.out ?_)
    have HB := Lib.hid (Below.chain HA.out hb); clear hb
    refine Lib.hid ?_
    go_wp2
    go_ret
    exact ⟨rfl, HB.out⟩
  | true =>
  rw [if_neg (by simp)]
  cases g4 : decide (1024 < E.length) with
  | true =>
    rw [decide_eq_true_eq] at g4
    rw [if_pos g4]
    have g5 : (1024 : Int) < (E.length : Int) := by omega
    clear hr
    have CP := isPoint_any n x x ao E.length c (w.alloc (Obj.cells #[.int .i64 n, .int .i64 x, .slice ao E.length c] 24))
    rw [g3] at CP
    have KP := Lib.hid CP; have HA := Lib.hid hA; have HX := Lib.hid hX; clear CP hA
    go_enter Try.func21, Try.ntmps21
    go_wp2_with (go_at_call 51; refine (KP.out).mono ?_; rintro e w1 ⟨rfl, hb⟩; refine Hid.out ?_)
    have HB := Lib.hid (Below.chain HA.out hb)
    have Y := HX.out.below hb
    obtain ⟨y0, y1, y2, y3⟩ := Y
    clear hb
    refine Lib.hid ?_
    go_wp2
    go_ret
    exact ⟨rfl, HB.out⟩
  | false =>
  rw [decide_eq_false_iff_not] at g4
  rw [if_neg g4]
  have g5 : ¬ (1024 : Int) < (E.length : Int) := by omega
  have hlen : E.length ≤ 1024 := by omega
  have CP := isPoint_any n x x ao E.length c (w.alloc (Obj.cells #[.int .i64 n, .int .i64 x, .slice ao E.length c] 24))
  rw [g3] at CP
  have hat : ∀ j, j < E.length → ∃ b o, ao = some ⟨b, o, none⟩ ∧ b < w.heap.size ∧ EdAt w b (o + j * 21) (edD E j) ∧ (edD E j).ok := fun j hj => by
    obtain ⟨b, o, e, -, h1, h2⟩ := hr.get j hj
    exact ⟨b, o, e, h1, h2⟩
  obtain ⟨G, hG⟩ : ∃ G : Nat, G = (if ckEs n E = true then 0 else 6) := ⟨_, rfl⟩
  rw [← hG]
  have KP := Lib.hid CP; have HA := Lib.hid hA; have HX := Lib.hid hX; have HAT := Lib.hid hat; have HG := Lib.hid hG; have HL := Lib.hid hlen
  obtain ⟨N, hN⟩ : ∃ N, E.length = N := ⟨_, rfl⟩
  clear CP hA hr hat hG hX hlen g4
  rw [hN] at KP HA HX g5 ⊢
  have HN := Lib.hid hN; clear hN
  go_enter Try.func21, Try.ntmps21
  go_wp2_with (go_at_call 51; refine (KP.out).mono ?_; rintro e w1 ⟨rfl, hb⟩; refine Hid.out ?_)
  have HB := Lib.hid (Below.chain HA.out hb)
  have HY := Lib.hid (HX.out.below hb)
  obtain ⟨y0, y1, y2, y3⟩ := HY.out
  clear hb
  refine Lib.hid ?_
  go_wp2_with fail
  go_loopw [28] (fun iv wr => ∃ j : Nat, j ≤ N ∧ iv = .int .i64 (j : Int) ∧ ckEs n (E.take j) = true ∧ Below w1.heap.size w1 wr) (fun iv _ => N - (intOf iv).toNat)
  case atStart => exact ⟨0, Nat.zero_le _, rfl, rfl, Below.refl _ _⟩
  case round =>
    obtain ⟨j, hj, rfl, hck, hB⟩ := hrel
    have HB2 := Lib.hid hB; have HCK := Lib.hid hck; clear hB hck y0 y1 y2 y3
    by_cases hlt : j < N
    · have hlt' : j < E.length := by rw [HN.out]; exact hlt
      obtain ⟨b, o, rfl, hbl, he, hok⟩ := HAT.out j hlt'
      have he2 := he.below (Below.chain HB.out HB2.out) hbl
      obtain ⟨y0, y1, y2, y3⟩ := HY.out.below HB2.out
      have hd := ckEs_take (n := n) hlt'
      have hbad := fun h => ckEs_bad (n := n) hlt' h
      have HD := Lib.hid hd; have HBAD := Lib.hid hbad
      clear hd hbad he hlt' hbl
      generalize edD E j = d at *
      have HE := Lib.hid he2
      have q5 := ed_box0 wr d; have q6 := ed_box1 wr d
      clear he2 hok
      have CP1 := fun W => isPoint_any n x d.f (some ⟨b, o, none⟩) N c W
      have CP2 := fun W => isPoint_any n x d.t (some ⟨b, o, none⟩) N c W
      cases q1 : isPt n d.f <;> cases q2 : isPt n d.t <;> rw [q1] at CP1 <;> rw [q2] at CP2
      all_goals have KP1 := Lib.hid CP1; have KP2 := Lib.hid CP2; clear CP1 CP2
      rotate_right
      · have HC2 : Hid (ckEs n (E.take (j + 1)) = true) := Lib.hid (by rw [HD.out, HCK.out, q1, q2]; rfl)
        clear HD HCK q1 q2 HBAD
        go_wp2_with (first | (refine wpList_load_ed (.tmp 30) rfl rfl b (o + j * 21) (by simp [Act.eval, Act.put]) d HE.out ?_) | (refine wpList_store_ed (.tmp 4) (.tmp 31) rfl rfl rfl (by simp [Act.eval, Act.put]) d (by simp [Act.eval, Act.put]) ?_) | (go_at_call 51; refine (KP1.out _).mono ?_; clear KP1; rintro e w2 ⟨rfl, hb⟩; refine Hid.out ?_))
        have HBa : Hid (Below wr.heap.size wr (wr.alloc (.cells d.cs 55))) := Lib.hid ((Below.refl _ _).alloc (Nat.le_refl _) _)
        have HB3 := Lib.hid (Below.chain (Below.chain HB2.out HBa.out) hb)
        have c0 := hb.cell (p := ⟨wr.heap.size, 1, none⟩) (by simp)
        rw [q6] at c0
        obtain ⟨y0, y1, y2, y3⟩ := (HY.out.below (HB2.out)).below (Below.chain HBa.out hb)
        clear hb q5 q6
        refine Lib.hid ?_
        go_wp2_with (go_at_call 51; refine (KP2.out _).mono ?_; clear KP2; rintro e w3 ⟨rfl, hb⟩; refine Hid.out ?_)
        have HB4 := Lib.hid (Below.chain HB3.out hb)
        clear hb c0 y0 y1 y2 y3
        refine Lib.hid ?_
        go_wp2
        go_roundw
        case rel => exact ⟨j + 1, by omega, by go_num, HC2.out, HB4.out⟩
        case measure => simp [intOf]; omega
      · have HG2 : Hid (G = 6) := Lib.hid (by rw [HG.out, HBAD.out (by rw [q1, q2]; rfl)]; rfl)
        clear HD HCK q1 q2 HBAD
        go_wp2_with (first | (refine wpList_load_ed (.tmp 30) rfl rfl b (o + j * 21) (by simp [Act.eval, Act.put]) d HE.out ?_) | (refine wpList_store_ed (.tmp 4) (.tmp 31) rfl rfl rfl (by simp [Act.eval, Act.put]) d (by simp [Act.eval, Act.put]) ?_) | (go_at_call 51; refine (KP1.out _).mono ?_; clear KP1; rintro e w2 ⟨rfl, hb⟩; refine Hid.out ?_))
        have HBa : Hid (Below wr.heap.size wr (wr.alloc (.cells d.cs 55))) := Lib.hid ((Below.refl _ _).alloc (Nat.le_refl _) _)
        have HB3 := Lib.hid (Below.chain HB.out (Below.chain (Below.chain HB2.out HBa.out) hb))
        obtain rfl := HG2.out
        clear hb q5 q6 y0 y1 y2 y3
        refine Lib.hid ?_
        go_wp2
        go_ret
        exact ⟨rfl, HB3.out⟩
      · have HG2 : Hid (G = 6) := Lib.hid (by rw [HG.out, HBAD.out (by rw [q1, q2]; rfl)]; rfl)
        clear HD HCK q1 q2 HBAD
        go_wp2_with (first | (refine wpList_load_ed (.tmp 30) rfl rfl b (o + j * 21) (by simp [Act.eval, Act.put]) d HE.out ?_) | (refine wpList_store_ed (.tmp 4) (.tmp 31) rfl rfl rfl (by simp [Act.eval, Act.put]) d (by simp [Act.eval, Act.put]) ?_) | (go_at_call 51; refine (KP1.out _).mono ?_; clear KP1; rintro e w2 ⟨rfl, hb⟩; refine Hid.out ?_))
        have HBa : Hid (Below wr.heap.size wr (wr.alloc (.cells d.cs 55))) := Lib.hid ((Below.refl _ _).alloc (Nat.le_refl _) _)
        have HB3 := Lib.hid (Below.chain HB.out (Below.chain (Below.chain HB2.out HBa.out) hb))
        obtain rfl := HG2.out
        clear hb q5 q6 y0 y1 y2 y3
        refine Lib.hid ?_
        go_wp2
        go_ret
        exact ⟨rfl, HB3.out⟩
      · have HG2 : Hid (G = 6) := Lib.hid (by rw [HG.out, HBAD.out (by rw [q1, q2]; rfl)]; rfl)
        clear HD HCK q1 q2 HBAD
        go_wp2_with (first | (refine wpList_load_ed (.tmp 30) rfl rfl b (o + j * 21) (by simp [Act.eval, Act.put]) d HE.out ?_) | (refine wpList_store_ed (.tmp 4) (.tmp 31) rfl rfl rfl (by simp [Act.eval, Act.put]) d (by simp [Act.eval, Act.put]) ?_) | (go_at_call 51; refine (KP1.out _).mono ?_; clear KP1; rintro e w2 ⟨rfl, hb⟩; refine Hid.out ?_))
        have HBa : Hid (Below wr.heap.size wr (wr.alloc (.cells d.cs 55))) := Lib.hid ((Below.refl _ _).alloc (Nat.le_refl _) _)
        have HB3 := Lib.hid (Below.chain HB.out (Below.chain (Below.chain HB2.out HBa.out) hb))
        have c0 := hb.cell (p := ⟨wr.heap.size, 1, none⟩) (by simp)
        rw [q6] at c0
        obtain ⟨y0, y1, y2, y3⟩ := (HY.out.below (HB2.out)).below (Below.chain HBa.out hb)
        clear hb q5 q6
        refine Lib.hid ?_
        go_wp2_with (go_at_call 51; refine (KP2.out _).mono ?_; clear KP2; rintro e w3 ⟨rfl, hb⟩; refine Hid.out ?_)
        have HB4 := Lib.hid (Below.chain HB3.out hb)
        obtain rfl := HG2.out
        clear hb c0 y0 y1 y2 y3
        refine Lib.hid ?_
        go_wp2
        go_ret
        exact ⟨rfl, HB4.out⟩
    · have hjn : j = N := by omega
      subst hjn
      have e1 := HG.out
      rw [← List.take_length (l := E), HN.out, HCK.out, if_pos rfl] at e1
      subst e1
      obtain ⟨y0, y1, y2, y3⟩ := HY.out.below HB2.out
      have HB3 := Lib.hid (Below.chain HB.out HB2.out)
      go_wp2
      go_ret
      exact ⟨rfl, HB3.out⟩
end Go.Proofs.Ytjjkabgbcflipaa
