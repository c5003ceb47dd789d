import Derived.Lib.ItoaNum
import Derived.Test.YtmnbjkbkjmgmkaaGreatDoorProg
import Derived.Tactics
import Derived.Tactics2
import Derived.WalkKit
import Derived.WalkLawsBesides
import Derived.Deep.QuietTactic
import Derived.BigQuiet
import Derived.Lib.Hide
import Derived.Handy
import Derived.Outline
import Derived.KernelRfl
import Derived.Lib.Strings

set_option linter.unusedVariables false
set_option linter.unusedSimpArgs false
/-
  Plain mathematics of numbers in limbs of nine digits: no program, no model.
-/
namespace Go.Proofs.YtmnbjkbkjmgmkaaGreatDoor
def val : List Nat → Nat
  | [] => 0
  | x :: xs => x + 1000000000 * val xs
def Small (l : List Nat) : Prop := ∀ x ∈ l, x < 1000000000
theorem val_nil : val [] = 0 := rfl
theorem val_cons (x : Nat) (xs : List Nat) : val (x :: xs) = x + 1000000000 * val xs := rfl
theorem val_append (a b : List Nat) : val (a ++ b) = val a + 1000000000 ^ a.length * val b := by
  induction a with
  | nil => simp [val]
  | cons x xs ih => simp only [List.cons_append, val, ih, List.length_cons, Nat.pow_succ]; grind
theorem val_take_succ (l : List Nat) (i : Nat) (h : i < l.length) : val (l.take (i+1)) = val (l.take i) + l[i] * 1000000000 ^ i := by
  rw [List.take_succ_eq_append_getElem h, val_append]
  simp [val, Nat.min_eq_left (Nat.le_of_lt h)]
  grind
theorem val_split (l : List Nat) (i : Nat) (h : i ≤ l.length) : val l = val (l.take i) + 1000000000 ^ i * val (l.drop i) := by
  conv => lhs; rw [← List.take_append_drop i l, val_append]
  rw [List.length_take, Nat.min_eq_left h]
theorem Small.tail {x : Nat} {xs : List Nat} (h : Small (x :: xs)) : Small xs := fun y hy => h y (List.mem_cons_of_mem _ hy)
theorem Small.head {x : Nat} {xs : List Nat} (h : Small (x :: xs)) : x < 1000000000 := h x (List.mem_cons_self ..)
theorem Small.nil : Small [] := fun _ h => by cases h
theorem Small.cons {x : Nat} {xs : List Nat} (hx : x < 1000000000) (h : Small xs) : Small (x :: xs) := by
  intro y hy; rcases List.mem_cons.1 hy with rfl | hy
  · exact hx
  · exact h y hy
theorem Small.append {a b : List Nat} (ha : Small a) (hb : Small b) : Small (a ++ b) := by
  intro y hy; rcases List.mem_append.1 hy with hy | hy
  · exact ha y hy
  · exact hb y hy
theorem Small.take {l : List Nat} (h : Small l) (i : Nat) : Small (l.take i) := fun y hy => h y (List.mem_of_mem_take hy)
theorem Small.drop {l : List Nat} (h : Small l) (i : Nat) : Small (l.drop i) := fun y hy => h y (List.mem_of_mem_drop hy)
theorem Small.get {l : List Nat} (h : Small l) (i : Nat) (hi : i < l.length) : l[i] < 1000000000 := h _ (List.getElem_mem hi)
theorem Small.set {l : List Nat} (h : Small l) (i v : Nat) (hv : v < 1000000000) : Small (l.set i v) := by
  intro y hy
  rcases List.mem_or_eq_of_mem_set hy with hy | rfl
  · exact h y hy
  · exact hv
theorem Small.replicate (n : Nat) : Small (List.replicate n 0) := by
  intro y hy
  rw [List.eq_of_mem_replicate hy]; decide
theorem val_lt {l : List Nat} (h : Small l) : val l < 1000000000 ^ l.length := by
  induction l with
  | nil => simp [val]
  | cons x xs ih =>
    have h1 := ih h.tail
    have h2 := h.head
    simp only [val, List.length_cons, Nat.pow_succ]
    omega
theorem val_replicate (n : Nat) : val (List.replicate n 0) = 0 := by
  induction n with
  | zero => rfl
  | succ n ih => simp [List.replicate_succ, val, ih]
theorem val_set (l : List Nat) (i v : Nat) (h : i < l.length) : val (l.set i v) + l[i] * 1000000000 ^ i = val l + v * 1000000000 ^ i := by
  induction l generalizing i with
  | nil => simp at h
  | cons x xs ih =>
    cases i with
    | zero => simp [val]; omega
    | succ i =>
      have := ih i (by simpa using h)
      simp only [List.set_cons_succ, val, List.getElem_cons_succ, Nat.pow_succ]
      grind
theorem val_inj {a b : List Nat} (ha : Small a) (hb : Small b) (hl : a.length = b.length) (h : val a = val b) : a = b := by
  induction a generalizing b with
  | nil => cases b with
    | nil => rfl
    | cons _ _ => simp at hl
  | cons x xs ih => cases b with
    | nil => simp at hl
    | cons y ys =>
      have h1 := ha.head; have h2 := hb.head
      simp only [val] at h
      have e1 : x = y := by omega
      have e2 : val xs = val ys := by omega
      rw [e1, ih ha.tail hb.tail (by simpa using hl) e2]
theorem getD_lt (l : List Nat) (k : Nat) (h : k < l.length) : l.getD k 0 = l[k] := by simp [List.getD_eq_getElem?_getD, h]
theorem getD_ge (l : List Nat) (k : Nat) (h : l.length ≤ k) : l.getD k 0 = 0 := by simp [List.getD_eq_getElem?_getD, h]
theorem Small.getD {l : List Nat} (h : Small l) (k : Nat) : l.getD k 0 < 1000000000 := by
  by_cases hk : k < l.length
  · rw [getD_lt l k hk]; exact h.get k hk
  · rw [getD_ge l k (by omega)]; decide
def limbs (n : Nat) : List Nat := if h : n = 0 then [] else n % 1000000000 :: limbs (n / 1000000000)
termination_by n
decreasing_by omega
theorem limbs_zero : limbs 0 = [] := by rw [limbs]; rfl
theorem limbs_pos {n : Nat} (h : n ≠ 0) : limbs n = n % 1000000000 :: limbs (n / 1000000000) := by rw [limbs, dif_neg h]
theorem limbs_small (n : Nat) : Small (limbs n) := by
  induction n using Nat.strongRecOn with
  | _ n ih =>
    by_cases h : n = 0
    · rw [h, limbs_zero]; exact Small.nil
    · rw [limbs_pos h]; exact Small.cons (by omega) (ih _ (by omega))
theorem val_limbs (n : Nat) : val (limbs n) = n := by
  induction n using Nat.strongRecOn with
  | _ n ih =>
    by_cases h : n = 0
    · rw [h, limbs_zero]; rfl
    · rw [limbs_pos h, val_cons, ih _ (by omega)]; omega
theorem limbs_nil_iff {n : Nat} : limbs n = [] ↔ n = 0 := by
  constructor
  · intro h; rw [← val_limbs n, h]; rfl
  · rintro rfl; exact limbs_zero
def Norm (l : List Nat) : Prop := ∀ h : l ≠ [], l.getLast h ≠ 0
theorem limbs_norm (n : Nat) : Norm (limbs n) := by
  induction n using Nat.strongRecOn with
  | _ n ih =>
    intro h
    by_cases h0 : n = 0
    · exact absurd (limbs_nil_iff.2 h0) h
    · have e := limbs_pos h0
      by_cases hq : n / 1000000000 = 0
      · have e2 : limbs n = [n % 1000000000] := by rw [e, hq, limbs_zero]
        have : (limbs n).getLast h = n % 1000000000 := by simp [e2]
        omega
      · have hne : limbs (n / 1000000000) ≠ [] := fun c => hq (limbs_nil_iff.1 c)
        have := ih (n / 1000000000) (by omega) hne
        have e3 : (limbs n).getLast h = (limbs (n / 1000000000)).getLast hne := by
          simp only [e]; rw [List.getLast_cons hne]
        rw [e3]; exact this
theorem norm_tail {x : Nat} {xs : List Nat} (h : Norm (x :: xs)) : Norm xs := by
  intro hne; have := h (by simp); rwa [List.getLast_cons hne] at this
theorem norm_val_pos {l : List Nat} (hn : Norm l) (h : l ≠ []) : 0 < val l := by
  induction l with
  | nil => exact absurd rfl h
  | cons x xs ih =>
    by_cases hx : xs = []
    · subst hx; have := hn (by simp); simp at this; simp [val]; omega
    · have := ih (norm_tail hn) hx; simp [val]; omega
theorem eq_limbs {l : List Nat} (hs : Small l) (hn : Norm l) : l = limbs (val l) := by
  induction l with
  | nil => rw [val_nil, limbs_zero]
  | cons x xs ih =>
    have hp := norm_val_pos hn (by simp)
    have h1 := hs.head
    rw [limbs_pos (by omega)]
    have e1 : val (x :: xs) % 1000000000 = x := by simp only [val]; omega
    have e2 : val (x :: xs) / 1000000000 = val xs := by simp only [val]; omega
    rw [e1, e2, ← ih hs.tail (norm_tail hn)]
theorem limbs_length_le {n k : Nat} (h : n < 1000000000 ^ k) : (limbs n).length ≤ k := by
  induction k generalizing n with
  | zero => have : n = 0 := by simpa using h
            subst this; simp [limbs_zero]
  | succ k ih =>
    by_cases h0 : n = 0
    · subst h0; simp [limbs_zero]
    · rw [limbs_pos h0, List.length_cons]
      have := @ih (n / 1000000000) (by rw [Nat.pow_succ] at h; exact Nat.div_lt_of_lt_mul (by rw [Nat.mul_comm]; exact h))
      omega
theorem lt_pow_limbs (n : Nat) : n < 1000000000 ^ (limbs n).length := by
  have := val_lt (limbs_small n); rwa [val_limbs] at this
theorem pow_le_of_limbs {n k : Nat} (h : k < (limbs n).length) : 1000000000 ^ k ≤ n := by
  rcases Nat.lt_or_ge n (1000000000 ^ k) with h1 | h1
  · have := limbs_length_le h1; omega
  · exact h1
theorem limbs_length_mono {m n : Nat} (h : m ≤ n) : (limbs m).length ≤ (limbs n).length :=
  limbs_length_le (Nat.lt_of_le_of_lt h (lt_pow_limbs n))
theorem lt_of_limbs_length {m n : Nat} (h : (limbs m).length < (limbs n).length) : m < n :=
  Nat.lt_of_lt_of_le (lt_pow_limbs m) (pow_le_of_limbs h)
theorem val_lt_of_top {a b : List Nat} (hs : Small a) (hl : a.length = b.length) (i : Nat) (hi : i < a.length)
    (hd : a.drop (i + 1) = b.drop (i + 1)) (h : a[i] < b[i]'(hl ▸ hi)) : val a < val b := by
  rw [val_split a (i + 1) (by omega), val_split b (i + 1) (by omega), hd, val_take_succ a i hi, val_take_succ b i (by omega)]
  have h1 := val_lt (hs.take i)
  rw [List.length_take, Nat.min_eq_left (by omega)] at h1
  have h2 : (a[i] + 1) * 1000000000 ^ i ≤ b[i] * 1000000000 ^ i := Nat.mul_le_mul_right _ h
  rw [Nat.add_mul] at h2
  omega
end Go.Proofs.YtmnbjkbkjmgmkaaGreatDoor

set_option linter.unusedSimpArgs false
set_option linter.unusedVariables false
namespace Go.Proofs.YtmnbjkbkjmgmkaaGreatDoor
open Go
def isDig (c : UInt8) : Bool := 48 ≤ c.toNat && c.toNat ≤ 57
def AllDig (l : List UInt8) : Prop := ∀ c ∈ l, isDig c = true
def dec : List UInt8 → Nat
  | [] => 0
  | c :: cs => (c.toNat - 48) * 10 ^ cs.length + dec cs
theorem dec_append (a b : List UInt8) : dec (a ++ b) = dec a * 10 ^ b.length + dec b := by
  induction a with
  | nil => simp [dec]
  | cons x xs ih => simp only [List.cons_append, dec, ih, List.length_append, Nat.pow_add]; grind
theorem dec_snoc (a : List UInt8) (c : UInt8) : dec (a ++ [c]) = 10 * dec a + (c.toNat - 48) := by
  rw [dec_append]; simp [dec]; omega
theorem isDig_iff {c : UInt8} : isDig c = true ↔ 48 ≤ c.toNat ∧ c.toNat ≤ 57 := by
  simp [isDig]
theorem AllDig.append {a b : List UInt8} (ha : AllDig a) (hb : AllDig b) : AllDig (a ++ b) := by
  intro y hy; rcases List.mem_append.1 hy with hy | hy
  · exact ha y hy
  · exact hb y hy
theorem AllDig.take {l : List UInt8} (h : AllDig l) (i : Nat) : AllDig (l.take i) := fun y hy => h y (List.mem_of_mem_take hy)
theorem AllDig.drop {l : List UInt8} (h : AllDig l) (i : Nat) : AllDig (l.drop i) := fun y hy => h y (List.mem_of_mem_drop hy)
theorem dec_lt {l : List UInt8} (h : AllDig l) : dec l < 10 ^ l.length := by
  induction l with
  | nil => simp [dec]
  | cons x xs ih =>
    have h1 := ih (fun y hy => h y (List.mem_cons_of_mem _ hy))
    have h2 := isDig_iff.1 (h x (List.mem_cons_self ..))
    simp only [dec, List.length_cons, Nat.pow_succ]
    have h3 : (x.toNat - 48) * 10 ^ xs.length ≤ 9 * 10 ^ xs.length := Nat.mul_le_mul_right _ (by omega)
    omega
theorem toNat_dig (d : Nat) (h : d < 10) : (UInt8.ofNat (48 + d)).toNat = 48 + d := by
  rw [UInt8.toNat_ofNat']; omega
theorem isDig_ofNat (d : Nat) (h : d < 10) : isDig (UInt8.ofNat (48 + d)) = true := by
  rw [isDig_iff, toNat_dig d h]; omega
theorem allDig_decDigits (u : Nat) : AllDig (Lib.decDigits u) := by
  induction u using Nat.strongRecOn with
  | _ u ih =>
    rw [Lib.decDigits]
    split
    · intro c hc
      rw [List.mem_singleton.1 hc]
      exact isDig_ofNat _ ‹_›
    · refine (ih _ (by omega)).append ?_
      intro c hc
      rw [List.mem_singleton.1 hc]
      exact isDig_ofNat _ (by omega)
theorem dec_decDigits (u : Nat) : dec (Lib.decDigits u) = u := by
  induction u using Nat.strongRecOn with
  | _ u ih =>
    rw [Lib.decDigits]
    split
    · simp only [dec, List.length_nil, Nat.pow_zero]; rw [toNat_dig _ ‹_›]; omega
    · rw [dec_snoc, ih _ (by omega), toNat_dig _ (by omega)]; omega
theorem decDigits_ne_nil (u : Nat) : Lib.decDigits u ≠ [] := by
  rw [Lib.decDigits]; split <;> simp
theorem decDigits_inj {a b : Nat} (h : Lib.decDigits a = Lib.decDigits b) : a = b := by
  rw [← dec_decDigits a, h, dec_decDigits]
theorem dec_inj {a b : List UInt8} (ha : AllDig a) (hb : AllDig b) (hl : a.length = b.length) (h : dec a = dec b) : a = b := by
  induction a generalizing b with
  | nil => cases b with
    | nil => rfl
    | cons _ _ => simp at hl
  | cons x xs ih => cases b with
    | nil => simp at hl
    | cons y ys =>
      have hax : AllDig xs := fun z hz => ha z (List.mem_cons_of_mem _ hz)
      have hbx : AllDig ys := fun z hz => hb z (List.mem_cons_of_mem _ hz)
      have hl' : xs.length = ys.length := by simpa using hl
      have h1 := dec_lt hax; have h2 := dec_lt hbx
      have h3 := isDig_iff.1 (ha x (List.mem_cons_self ..))
      have h4 := isDig_iff.1 (hb y (List.mem_cons_self ..))
      simp only [dec] at h
      rw [hl'] at h h1
      have e0 : x.toNat - 48 = y.toNat - 48 := by
        rcases Nat.lt_trichotomy (x.toNat - 48) (y.toNat - 48) with hlt | he | hgt
        · have : (x.toNat - 48 + 1) * 10 ^ ys.length ≤ (y.toNat - 48) * 10 ^ ys.length := Nat.mul_le_mul_right _ hlt
          rw [Nat.add_mul] at this; omega
        · exact he
        · have : (y.toNat - 48 + 1) * 10 ^ ys.length ≤ (x.toNat - 48) * 10 ^ ys.length := Nat.mul_le_mul_right _ hgt
          rw [Nat.add_mul] at this; omega
      have e1 : x = y := UInt8.toNat.inj (by omega)
      subst e1
      rw [ih hax hbx hl' (by omega)]
theorem nDigits_le_of_lt {u k : Nat} (hk : 1 ≤ k) (h : u < 10 ^ k) : Lib.nDigits u ≤ k := by
  induction k generalizing u with
  | zero => omega
  | succ k ih =>
    by_cases h1 : u < 10
    · rw [Lib.nDigits_small h1]; omega
    · rw [Lib.nDigits_big h1]
      rcases Nat.eq_zero_or_pos k with rfl | hk'
      · simp at h; omega
      · have := ih hk' (u := u / 10) (by rw [Nat.pow_succ] at h; omega)
        omega
theorem pow_le_of_nDigits {u k : Nat} (hk : 1 ≤ k) (h : k < Lib.nDigits u) : 10 ^ k ≤ u := by
  rcases Nat.lt_or_ge u (10 ^ k) with h1 | h1
  · have := nDigits_le_of_lt hk h1; omega
  · exact h1
theorem eq_decDigits {l : List UInt8} (h : AllDig l) (hne : l ≠ []) (h0 : l = [48] ∨ l.head hne ≠ 48) : l = Lib.decDigits (dec l) := by
  refine dec_inj h (allDig_decDigits _) ?_ (dec_decDigits _).symm
  rw [Lib.decDigits_length]
  rcases h0 with rfl | h0
  · rw [Lib.nDigits_small (by simp [dec])]; rfl
  · cases l with
    | nil => exact absurd rfl hne
    | cons x xs =>
      have h2 := dec_lt h
      have h3 := isDig_iff.1 (h x (List.mem_cons_self ..))
      have h4 : x.toNat ≠ 48 := by
        intro e; apply h0; simp only [List.head_cons]; exact UInt8.toNat.inj (by rw [e]; rfl)
      have h5 : 1 * 10 ^ xs.length ≤ (x.toNat - 48) * 10 ^ xs.length := Nat.mul_le_mul_right _ (by omega)
      have h6 : 10 ^ xs.length ≤ dec (x :: xs) := by simp only [dec]; omega
      have := Lib.nDigits_unique xs.length (dec (x :: xs)) h6 (by simpa using h2)
      rw [this]; simp
theorem decDigits_head (u : Nat) (hu : u ≠ 0) : (Lib.decDigits u).head (decDigits_ne_nil u) ≠ 48 := by
  induction u using Nat.strongRecOn with
  | _ u ih =>
    by_cases h : u < 10
    · have e : Lib.decDigits u = [UInt8.ofNat (48 + u)] := by rw [Lib.decDigits, dif_pos h]
      simp only [e, List.head_cons]
      intro c
      have := congrArg UInt8.toNat c
      rw [toNat_dig u h] at this
      have h48 : (48 : UInt8).toNat = 48 := rfl
      omega
    · have e : Lib.decDigits u = Lib.decDigits (u / 10) ++ [UInt8.ofNat (48 + u % 10)] := by rw [Lib.decDigits, dif_neg h]
      simp only [e]
      rw [List.head_append_of_ne_nil (decDigits_ne_nil _)]
      exact ih (u / 10) (by omega) (by omega)
end Go.Proofs.YtmnbjkbkjmgmkaaGreatDoor

set_option linter.unusedSimpArgs false
set_option linter.unusedVariables false
namespace Go.Proofs.YtmnbjkbkjmgmkaaGreatDoor
open Go Go.Proofs Go.RowKit
def RowAt (w : World) (ao : Option Addr) (c : Nat) (l : List Nat) : Prop :=
  l.length ≤ c ∧ c ≤ 9223372036854775807 ∧ ((l = [] ∧ (ao = none → c = 0)) ∨ ∃ b off, ao = some ⟨b, off, none⟩ ∧ b < w.heap.size ∧ ∀ k, k < l.length → w.cell? ⟨b, off + k, none⟩ = some (.int .u32 (l.getD k 0 : Nat)))
def NumAt (w : World) (v : Value) (x : Nat) : Prop := ∃ ao c, v = .agg #[.slice ao (limbs x).length c] ∧ RowAt w ao c (limbs x)
theorem RowAt.mono {w w' : World} {ao : Option Addr} {c : Nat} {l : List Nat} (h : RowAt w ao c l) (hb : Below w.heap.size w w') : RowAt w' ao c l := by
  obtain ⟨h1, h2, h3⟩ := h
  refine ⟨h1, h2, ?_⟩
  rcases h3 with h3 | ⟨b, off, he, hlt, hc⟩
  · exact .inl h3
  · refine .inr ⟨b, off, he, Nat.lt_of_lt_of_le hlt hb.size, fun k hk => ?_⟩
    rw [hb.cell (p := ⟨b, off + k, none⟩) hlt]; exact hc k hk
theorem NumAt.mono {w w' : World} {v : Value} {x : Nat} (h : NumAt w v x) (hb : Below w.heap.size w w') : NumAt w' v x := by
  obtain ⟨ao, c, he, hr⟩ := h
  exact ⟨ao, c, he, hr.mono hb⟩
theorem Below.chain {a b c : World} (h : Below a.heap.size a b) (k : Below b.heap.size b c) : Below a.heap.size a c :=
  h.trans (k.mono h.size)
theorem ret_int {k : IntKind} {a b : Int} (h : a = b) : Ending.returned (.int k a) = .returned (.int k b) := by rw [h]
theorem ret_bool {a b : Bool} (h : a = b) : Ending.returned (.bool a) = .returned (.bool b) := by rw [h]
def cmpN (x y : Nat) : Int := if x < y then -1 else if x = y then 0 else 1
def cmpI (x y : Int) : Int := if x < y then -1 else if x = y then 0 else 1
theorem RowAt.open {w : World} {ao : Option Addr} {c : Nat} {l : List Nat} (h : RowAt w ao c l) (hs : Small l) :
    ∃ d : Nat → Int, (∀ k, k < l.length → d k = (l.getD k 0 : Nat)) ∧ (∀ k, 0 ≤ d k ∧ d k < 1000000000) ∧
      (l = [] ∨ ∃ b off, ao = some ⟨b, off, none⟩ ∧ b < w.heap.size ∧ ∀ k, k < l.length → w.cell? ⟨b, off + k, none⟩ = some (.int .u32 (d k))) := by
  refine ⟨fun k => (l.getD k 0 : Nat), fun k _ => rfl, fun k => ⟨Int.natCast_nonneg _, ?_⟩, h.2.2.imp (fun h => h.1) id⟩
  have := hs.getD k
  show ((l.getD k 0 : Nat) : Int) < 1000000000
  omega
theorem drawsOn {P : Program} {f : FuncId} {args : Array Value} {w : World} {m n : Nat} {v : Value}
    (c : Calls P f args (w.drewN (m + n)) fun e w' => e = .returned v ∧ w.drewN (m + n) = w') :
    Calls P f args (w.drewN (m + n)) fun e w' => e = .returned v ∧ ∃ k, w' = w.drewN (m + k) :=
  c.mono fun _ _ h => ⟨h.1, n, h.2.symm⟩
theorem drawsHere {P : Program} {f : FuncId} {args : Array Value} {w : World} {n : Nat} {v : Value}
    (c : Calls P f args (w.drewN n) fun e w' => e = .returned v ∧ w.drewN n = w') :
    Calls P f args (w.drewN n) fun e w' => e = .returned v ∧ ∃ k, w' = w.drewN k :=
  c.mono fun _ _ h => ⟨h.1, n, h.2.symm⟩
theorem cellSet {w : World} {a : Addr} {u : Value} (h : w.cell? a = some u) (v : Value) : (w.setCell a v).cell? a = some v :=
  World.cell?_setCell_same' _ _ _ (by rw [h]; rfl)
structure Two (w W : World) (v1 v2 : Value) : Prop where
  size : W.heap.size = w.heap.size + 2
  c1 : W.cell? ⟨w.heap.size, 0, none⟩ = some v1
  c2 : W.cell? ⟨w.heap.size + 1, 0, none⟩ = some v2
  f1 : W.frozen? ⟨w.heap.size, 0, none⟩ = false
  f2 : W.frozen? ⟨w.heap.size + 1, 0, none⟩ = false
  below : Below w.heap.size w W
theorem two_new (w : World) (v1 v2 : Value) (t1 t2 : TypeId) : Two w ((w.alloc (Obj.cells #[v1] t1)).alloc (Obj.cells #[v2] t2)) v1 v2 :=
  ⟨by simp, by go_cell, by go_cell, by go_cell, by go_cell, by go_grown⟩
def digB (l : List UInt8) : Bool := !l.isEmpty && l.all isDig
def bytes (s : ByteArray) : List UInt8 := s.data.toList
theorem bytes_length (s : ByteArray) : (bytes s).length = s.size := rfl
theorem bytes_get (s : ByteArray) (k : Nat) (h : k < s.size) : (bytes s)[k]'h = s[k] := rfl
def byteAt (s : ByteArray) (k : Nat) : Nat := ((bytes s).getD k 0).toNat
theorem byteAt_get (s : ByteArray) : ∀ (k : Nat) (h : k < s.size), ((s[k]'h).toNat : Int) = (byteAt s k : Int) := fun k h => by
  unfold byteAt
  rw [List.getD_eq_getElem?_getD, List.getElem?_eq_getElem (by rw [bytes_length]; exact h)]
  rfl
theorem all_take_succ (l : List UInt8) (k : Nat) (h : k < l.length) : (l.take (k + 1)).all isDig = ((l.take k).all isDig && isDig l[k]) := by
  rw [List.take_succ_eq_append_getElem h, List.all_append]; simp
theorem digB_bad (l : List UInt8) (k : Nat) (hb : (l.take (k + 1)).all isDig = false) : digB l = false := by
  have e : l.all isDig = ((l.take (k + 1)).all isDig && (l.drop (k + 1)).all isDig) := by rw [← List.all_append, List.take_append_drop]
  unfold digB
  rw [e, hb]; simp
theorem isDig_byte (s : ByteArray) (k : Nat) (h : k < s.size) : isDig (bytes s)[k] = (decide (48 ≤ byteAt s k) && decide (byteAt s k ≤ 57)) := by
  unfold byteAt isDig
  rw [List.getD_eq_getElem?_getD, List.getElem?_eq_getElem (by rw [bytes_length]; exact h)]
  rfl
set_option maxHeartbeats 1000000 in
theorem allDigits_any (s : ByteArray) (w : World) (hs : s.size ≤ 9223372036854775807) :
    Calls Tryz.prog 105 #[.string s] w fun e w' => e = .returned (.bool (digB (bytes s))) ∧ w = w' := by
  have hnil : s.toList = bytes s := Lib.toList_data s
  have HNIL := Lib.hid hnil
  go_enter Tryz.func105, Tryz.ntmps105
  go_wp2_with fail
  go_loop [6] (fun iv => ∃ k : Nat, k ≤ s.size ∧ iv = .int .i64 k ∧ ((bytes s).take k).all isDig = true) (fun iv => s.size - (intOf iv).toNat)
  case atStart => exact ⟨0, Nat.zero_le _, rfl, rfl⟩
  case round =>
    obtain ⟨k, hk, rfl, hall⟩ := hrel
    by_cases hlt : k < s.size
    · have hgk := byteAt_get s k hlt
      have h1 := all_take_succ (bytes s) k hlt
      rw [isDig_byte s k hlt, hall] at h1
      have H1 := Lib.hid h1; have HALL := Lib.hid hall
      clear h1 hall hnil
      generalize byteAt s k = b at *
      by_cases hd : 48 ≤ b ∧ b ≤ 57
      · obtain ⟨hd1, hd2⟩ := hd
        have e1 : (List.take (k + 1) (bytes s)).all isDig = true := by rw [H1.out]; simp [hd1, hd2]
        have E1 := Lib.hid e1; clear e1
        go_wp2
        go_round
        case rel => exact ⟨k + 1, by omega, by go_num, E1.out⟩
        case measure => simp [intOf]; omega
      · have e1 : digB (bytes s) = false := digB_bad (bytes s) k (by rw [H1.out]; simp; omega)
        have E1 := Lib.hid e1; clear e1
        go_wp2
        all_goals first
          | (exfalso; omega)
          | (go_ret; exact ⟨ret_bool E1.out.symm, rfl⟩)
    · have hkn : k = s.size := by omega
      subst hkn
      rw [List.take_of_length_le (l := bytes s) (i := s.size) (Nat.le_refl s.size)] at hall
      have HALL := Lib.hid hall; clear hall hnil
      go_wp2
      go_ret
      refine ⟨ret_bool ?_, rfl⟩
      rw [HNIL.out]
      unfold digB
      rw [HALL.out, Bool.and_true]
theorem dec_take_succ (l : List UInt8) (k : Nat) (h : k < l.length) : dec (l.take (k + 1)) = 10 * dec (l.take k) + (l[k].toNat - 48) := by
  rw [List.take_succ_eq_append_getElem h, dec_snoc]
theorem byteAt_eq (s : ByteArray) (k : Nat) (h : k < s.size) : ((bytes s)[k]'h).toNat = byteAt s k := by
  unfold byteAt
  rw [List.getD_eq_getElem?_getD, List.getElem?_eq_getElem (by rw [bytes_length]; exact h)]
  rfl
theorem dec_small (l : List UInt8) (k : Nat) (hd : AllDig l) (hk : k < 9) : dec (l.take k) < 100000000 := by
  have h1 := dec_lt (hd.take k)
  have h2 : 10 ^ (l.take k).length ≤ 10 ^ 8 := Nat.pow_le_pow_right (by decide) (by simp; omega)
  omega
set_option maxHeartbeats 1000000 in
theorem limbOf_any (s : ByteArray) (w : World) (hs : s.size ≤ 9) (hd : AllDig (bytes s)) :
    Calls Tryz.prog 126 #[.string s] w fun e w' => e = .returned (.int .u32 (dec (bytes s) : Nat)) ∧ w = w' := by
  have HD := Lib.hid hd; clear hd
  have hs2 : s.size ≤ 9223372036854775807 := by omega
  go_enter Tryz.func126, Tryz.ntmps126
  go_wp2_with fail
  go_loop [3, 7] (fun lv iv => ∃ k : Nat, k ≤ s.size ∧ iv = .int .i64 k ∧ lv = .int .u32 (dec ((bytes s).take k) : Nat)) (fun _ iv => s.size - (intOf iv).toNat)
  case atStart => exact ⟨0, Nat.zero_le _, rfl, rfl⟩
  case round =>
    obtain ⟨k, hk, rfl, rfl⟩ := hrel
    by_cases hlt : k < s.size
    · have hgk := byteAt_get s k hlt
      have h1 := dec_take_succ (bytes s) k hlt
      rw [byteAt_eq s k hlt] at h1
      have h2 := isDig_iff.1 (HD.out _ (List.getElem_mem (l := bytes s) hlt))
      rw [byteAt_eq s k hlt] at h2
      have h3 := dec_small (bytes s) k HD.out (by omega)
      obtain ⟨h4, h5⟩ := h2
      have H1 := Lib.hid h1
      clear h1
      generalize byteAt s k = b at *
      generalize dec ((bytes s).take k) = m at *
      go_wp2
      go_round
      case rel => exact ⟨k + 1, by omega, by go_num, by rw [H1.out]; go_num⟩
      case measure => simp [intOf]; omega
    · have hkn : k = s.size := by omega
      subst hkn
      rw [List.take_of_length_le (l := bytes s) (i := s.size) (Nat.le_refl s.size)]
      go_wp2
      go_ret
      exact ⟨rfl, rfl⟩
theorem isZero_any (x : Nat) (v : Value) (w : World) (hv : NumAt w v x) :
    Calls Tryz.prog 90 #[v] w fun e w' => e = .returned (.bool (decide (x = 0))) ∧ Below w.heap.size w w' := by
  obtain ⟨ao, c, rfl, h1, h2, -⟩ := hv
  have hx : ((((limbs x).length : Nat) : Int) == 0) = decide (x = 0) := by
    rw [Bool.eq_iff_iff]; simp [limbs_nil_iff]
  generalize (limbs x).length = n at *
  have HX := Lib.hid hx; clear hx
  have h3 : n ≤ 9223372036854775807 := by omega
  go_enter Tryz.func90, Tryz.ntmps90
  go_wp2
  go_ret
  exact ⟨ret_bool HX.out, by go_grown⟩
theorem direction_any (b : Bool) (w : World) :
    Calls Tryz.prog 110 #[.bool b] w fun e w' => e = .returned (.int .i64 (if b then -1 else 1)) ∧ w = w' := by
  cases b
  all_goals
    go_enter Tryz.func110, Tryz.ntmps110
    go_wp2
    go_ret
    exact ⟨rfl, rfl⟩
theorem cmp_len (x y : Nat) (h : (limbs x).length ≠ (limbs y).length) : (if (limbs x).length < (limbs y).length then (-1 : Int) else 1) = cmpN x y := by
  unfold cmpN
  by_cases hl : (limbs x).length < (limbs y).length
  · rw [if_pos hl, if_pos (lt_of_limbs_length hl)]
  · have := lt_of_limbs_length (m := y) (n := x) (by omega)
    rw [if_neg hl, if_neg (by omega), if_neg (by omega)]
set_option maxHeartbeats 1000000 in
theorem compare_len (x y : Nat) (vx vy : Value) (w : World) (hx : NumAt w vx x) (hy : NumAt w vy y) (hne : (limbs x).length ≠ (limbs y).length) :
    Calls Tryz.prog 91 #[vx, vy] w fun e w' => e = .returned (.int .i64 (cmpN x y)) ∧ Below w.heap.size w w' := by
  obtain ⟨ao, c, rfl, h1, h2, -⟩ := hx
  obtain ⟨ap, d, rfl, h3, h4, -⟩ := hy
  have hr := cmp_len x y hne
  have ht : (((limbs x).length : Int) != ((limbs y).length : Int)) = true := by simp; omega
  generalize (limbs x).length = m at *
  generalize (limbs y).length = n at *
  have HR := Lib.hid hr; clear hr
  have h5 : m ≤ 9223372036854775807 := by omega
  have h6 : n ≤ 9223372036854775807 := by omega
  clear h1 h2 h3 h4 hne
  by_cases hl : m < n
  all_goals
    go_enter Tryz.func91, Tryz.ntmps91
    go_wp2_with (go_at_call 110; refine (direction_any _ _).mono ?_; rintro e w' ⟨rfl, rfl⟩)
    go_ret
    refine ⟨ret_int ?_, by go_grown⟩
    rw [← HR.out]; simp [hl]
theorem cmp_eq (x y : Nat) (he : (limbs x).length = (limbs y).length) (h : ∀ j, j < (limbs x).length → (limbs x).getD j 0 = (limbs y).getD j 0) : cmpN x y = 0 := by
  have : limbs x = limbs y := by
    refine List.ext_getElem he fun j h1 h2 => ?_
    have := h j h1
    rwa [getD_lt _ _ h1, getD_lt _ _ h2] at this
  have e : x = y := by rw [← val_limbs x, this, val_limbs]
  subst e; simp [cmpN]
theorem cmp_top (x y : Nat) (he : (limbs x).length = (limbs y).length) (i : Nat) (hi : i < (limbs x).length)
    (h : ∀ j, i < j → j < (limbs x).length → (limbs x).getD j 0 = (limbs y).getD j 0) (hne : (limbs x).getD i 0 ≠ (limbs y).getD i 0) :
    cmpN x y = if (limbs x).getD i 0 < (limbs y).getD i 0 then -1 else 1 := by
  have hd : (limbs x).drop (i + 1) = (limbs y).drop (i + 1) := by
    refine List.ext_getElem (by simp [he]) fun j h1 h2 => ?_
    simp only [List.getElem_drop]
    have h3 : i + 1 + j < (limbs x).length := by simp at h1; omega
    have := h (i + 1 + j) (by omega) h3
    rwa [getD_lt _ _ h3, getD_lt _ _ (by omega)] at this
  rw [getD_lt _ _ hi, getD_lt _ _ (by omega)] at *
  unfold cmpN
  by_cases hl : (limbs x)[i] < (limbs y)[i]
  · have := val_lt_of_top (limbs_small x) he i hi hd hl
    rw [val_limbs, val_limbs] at this
    rw [if_pos this, if_pos hl]
  · have := val_lt_of_top (limbs_small y) he.symm i (by omega) hd.symm (by omega)
    rw [val_limbs, val_limbs] at this
    rw [if_neg (by omega), if_neg (by omega), if_neg hl]
set_option maxHeartbeats 2000000 in
theorem compare_loop (x y : Nat) (vx vy : Value) (w : World) (hx : NumAt w vx x) (hy : NumAt w vy y) (he : (limbs x).length = (limbs y).length) (h0 : limbs x ≠ []) :
    Calls Tryz.prog 91 #[vx, vy] w fun e w' => e = .returned (.int .i64 (cmpN x y)) ∧ Below w.heap.size w w' := by
  obtain ⟨ao, c, rfl, hx⟩ := hx
  obtain ⟨ap, c', rfl, hy⟩ := hy
  have h0' : limbs y ≠ [] := by intro h; rw [h] at he; simp at he; exact h0 he
  obtain ⟨d, hd, hdb, hxc⟩ := hx.open (limbs_small x)
  obtain ⟨f, hf, hfb, hyc⟩ := hy.open (limbs_small y)
  have h1 := hx.1; have h2 := hx.2.1
  have hz := cmp_eq x y he
  have ht := cmp_top x y he
  obtain ⟨b, off, rfl, hb, hxc⟩ := hxc.resolve_left h0
  obtain ⟨b', off', rfl, hb', hyc⟩ := hyc.resolve_left h0'
  rw [← he] at hf hyc ⊢
  have hZ : (∀ j, j < (limbs x).length → d j = f j) → cmpN x y = 0 := fun h => hz fun j hj => by
    have := h j hj; rw [hd j hj, hf j hj] at this; exact Int.ofNat.inj this
  have hT : ∀ i, i < (limbs x).length → (∀ j, i < j → j < (limbs x).length → d j = f j) → d i ≠ f i → cmpN x y = if d i < f i then -1 else 1 := fun i hi h hne => by
    rw [ht i hi (fun j h1 h2 => by have := h j h1 h2; rw [hd j h2, hf j h2] at this; exact Int.ofNat.inj this) (fun e => hne (by rw [hd i hi, hf i hi, e])), hd i hi, hf i hi]
    simp only [Int.ofNat_lt]
  generalize (limbs x).length = n at *
  have h5 : n ≤ 9223372036854775807 := by omega
  generalize cmpN x y = r at *
  have HZ := Lib.hid hZ; have HT := Lib.hid hT; have HXC := Lib.hid hxc; have HYC := Lib.hid hyc
  clear hd hf hx hy he hz ht hxc hyc hdb hfb h1 h2 h0 h0' hZ hT
  go_enter Tryz.func91, Tryz.ntmps91
  go_wp2_with fail
  have A := two_new w (Value.slice (some { block := b, off := off }) n c) (Value.slice (some { block := b', off := off' }) n c') 71 71
  generalize hW : (w.alloc (Obj.cells #[Value.slice (some { block := b, off := off }) n c] 71)).alloc (Obj.cells #[Value.slice (some { block := b', off := off' }) n c'] 71) = W0 at A ⊢
  clear hW
  go_loopw [5] (fun i wr => ∃ k : Int, -1 ≤ k ∧ k < n ∧ i = .int .i64 k ∧ (∀ j : Nat, k < j → j < n → d j = f j) ∧ Below (w.heap.size + 2) W0 wr) (fun i _ => (intOf i + 1).toNat)
  case atStart => exact ⟨(n : Int) - 1, by omega, by omega, rfl, fun j h1 h2 => by omega, Below.refl _ _⟩
  case round =>
    obtain ⟨k, hk1, hk2, rfl, heq, hbw⟩ := hrel
    have HEQ := Lib.hid heq; clear heq
    have c1 : wr.cell? ⟨w.heap.size, 0, none⟩ = some (Value.slice (some { block := b, off := off }) n c) := (hbw.cell (p := ⟨w.heap.size, 0, none⟩) (by simp)).trans A.c1
    have c2 : wr.cell? ⟨w.heap.size + 1, 0, none⟩ = some (Value.slice (some { block := b', off := off' }) n c') := (hbw.cell (p := ⟨w.heap.size + 1, 0, none⟩) (by simp)).trans A.c2
    by_cases hk : k = -1
    · subst hk
      go_wp2
      go_ret
      exact ⟨ret_int (HZ.out fun j hj => HEQ.out j (by omega) hj).symm, A.below.trans (hbw.mono (by omega))⟩
    · obtain ⟨j, rfl⟩ := Int.eq_ofNat_of_zero_le (show 0 ≤ k by omega)
      have hj : j < n := by omega
      have c3 : wr.cell? ⟨b, off + j, none⟩ = some (.int .u32 (d j)) := ((hbw.cell (p := ⟨b, off + j, none⟩) (by simp; omega)).trans (A.below.cell (p := ⟨b, off + j, none⟩) hb)).trans (HXC.out j hj)
      have c4 : wr.cell? ⟨b', off' + j, none⟩ = some (.int .u32 (f j)) := ((hbw.cell (p := ⟨b', off' + j, none⟩) (by simp; omega)).trans (A.below.cell (p := ⟨b', off' + j, none⟩) hb')).trans (HYC.out j hj)
      by_cases hdf : d j = f j
      · have hb1 : (d j != f j) = false := by simp [hdf]
        have HDF := Lib.hid hdf; clear hdf
        go_wp2
        go_quiet (fail)
        go_wp2
        go_roundw
        case rel => exact ⟨(j : Int) - 1, by omega, by omega, rfl, fun i h1 h2 => by
          by_cases e : i = j
          · rw [e]; exact HDF.out
          · exact HEQ.out i (by omega) h2, hbw.trans (below_drewN (Below.refl _ _) _)⟩
        case measure => simp [intOf]
      · have hb1 : (d j != f j) = true := by simp [hdf]
        have hr := HT.out j hj (fun i h1 h2 => HEQ.out i (by omega) h2) hdf
        have HR := Lib.hid hr; clear hr hdf
        by_cases hlt : d j < f j
        · have hdl : decide (d j < f j) = true := by simp [hlt]
          go_wp2
          go_quiet (fail)
          go_wp2
          go_quiet ((go_at_call 110; exact drawsOn (direction_any _ _)))
          go_wp2
          go_ret
          refine ⟨ret_int ?_, (A.below.trans (hbw.mono (by omega))).trans (below_drewN (below_drewN (Below.refl _ _) _) _)⟩
          rw [HR.out, if_pos hlt]
        · have hdl : decide (d j < f j) = false := by simp [hlt]
          go_wp2
          go_quiet (fail)
          go_wp2
          go_quiet ((go_at_call 110; exact drawsOn (direction_any _ _)))
          go_wp2
          go_ret
          refine ⟨ret_int ?_, (A.below.trans (hbw.mono (by omega))).trans (below_drewN (Below.refl _ _) _)⟩
          rw [HR.out, if_neg (by omega)]
theorem compare_nil (ao ap : Option Addr) (c c' : Nat) (w : World) :
    Calls Tryz.prog 91 #[.agg #[.slice ao 0 c], .agg #[.slice ap 0 c']] w fun e w' => e = .returned (.int .i64 0) ∧ Below w.heap.size w w' := by
  go_enter Tryz.func91, Tryz.ntmps91
  go_wp2_with fail
  go_rounds 1
  go_ret
  exact ⟨rfl, by go_grown⟩
theorem compare_any (x y : Nat) (vx vy : Value) (w : World) (hx : NumAt w vx x) (hy : NumAt w vy y) :
    Calls Tryz.prog 91 #[vx, vy] w fun e w' => e = .returned (.int .i64 (cmpN x y)) ∧ Below w.heap.size w w' := by
  by_cases he : (limbs x).length = (limbs y).length
  · by_cases h0 : limbs x = []
    · obtain ⟨ao, c, rfl, -⟩ := hx
      obtain ⟨ap, c', rfl, -⟩ := hy
      have ex := limbs_nil_iff.1 h0
      have hy0 : limbs y = [] := by rw [h0] at he; exact List.length_eq_zero_iff.1 he.symm
      have ey := limbs_nil_iff.1 hy0
      have e0 : cmpN x y = 0 := by subst ex; subst ey; rfl
      rw [e0, hy0, h0]
      exact compare_nil ao ap c c' w
    · exact compare_loop x y vx vy w hx hy he h0
  · exact compare_len x y vx vy w hx hy he
def keep : List Nat → Nat
  | [] => 0
  | x :: xs => if keep xs = 0 ∧ x = 0 then 0 else keep xs + 1
theorem keep_le (l : List Nat) : keep l ≤ l.length := by
  induction l with
  | nil => exact Nat.le_refl _
  | cons x xs ih => simp only [keep, List.length_cons]; split <;> omega
theorem take_keep {l : List Nat} (hs : Small l) : l.take (keep l) = limbs (val l) := by
  induction l with
  | nil => rw [val_nil, limbs_zero]; rfl
  | cons x xs ih =>
    have h1 := hs.head
    have h2 := ih hs.tail
    have h3 : keep xs = 0 → val xs = 0 := fun h => by
      rw [h, List.take_zero] at h2; exact limbs_nil_iff.1 h2.symm
    have h4 : val xs = 0 → keep xs = 0 := fun h => by
      rw [h, limbs_zero] at h2
      have := congrArg List.length h2
      simp at this
      rcases this with h | h
      · exact h
      · rw [h]; rfl
    simp only [keep, val]
    by_cases h : keep xs = 0 ∧ x = 0
    · rw [if_pos h, h3 h.1, h.2, List.take_zero]; simp [limbs_zero]
    · rw [if_neg h, List.take_succ_cons, h2]
      have hne : x + 1000000000 * val xs ≠ 0 := by
        intro e
        exact h ⟨h4 (by omega), by omega⟩
      rw [limbs_pos hne]
      have e1 : (x + 1000000000 * val xs) % 1000000000 = x := by omega
      have e2 : (x + 1000000000 * val xs) / 1000000000 = val xs := by omega
      rw [e1, e2]
theorem keep_take {l : List Nat} {k : Nat} (hk : k < l.length) (h0 : l.getD k 0 = 0) (h : keep (l.take (k + 1)) = keep l) : keep (l.take k) = keep l := by
  rw [← h]
  clear h
  induction l generalizing k with
  | nil => simp at hk
  | cons x xs ih =>
    cases k with
    | zero => simp at h0; subst h0; rfl
    | succ k =>
      have := ih (k := k) (by simpa using hk) (by simpa using h0)
      simp only [List.take_succ_cons, keep] at this ⊢
      rw [this]
theorem keep_last {l : List Nat} {k : Nat} (hk : k < l.length) (h0 : l.getD k 0 ≠ 0) (h : keep (l.take (k + 1)) = keep l) : keep l = k + 1 := by
  rw [← h]; clear h
  induction l generalizing k with
  | nil => simp at hk
  | cons x xs ih =>
    cases k with
    | zero => simp at h0; simp [keep, h0]
    | succ k =>
      have := ih (k := k) (by simpa using hk) (by simpa using h0)
      simp only [List.take_succ_cons, keep] at this ⊢
      rw [this]; simp
def lenOf : Value → Nat | .slice _ n _ => n | _ => 0
theorem RowAt.take {w : World} {ao : Option Addr} {c : Nat} {l : List Nat} (h : RowAt w ao c l) (k : Nat) (hk : k ≤ l.length) : RowAt w ao c (l.take k) := by
  obtain ⟨h1, h2, h3⟩ := h
  have hl : (l.take k).length = k := by simp; omega
  refine ⟨by omega, h2, ?_⟩
  rcases h3 with ⟨h3, h4⟩ | ⟨b, off, he, hlt, hc⟩
  · left; rw [h3]; exact ⟨by simp, h4⟩
  · right
    refine ⟨b, off, he, hlt, fun j hj => ?_⟩
    have := hc j (by omega)
    rw [this]
    have e : (l.take k).getD j 0 = l.getD j 0 := by
      rw [getD_lt _ _ hj, getD_lt _ _ (by omega), List.getElem_take]
    rw [e]
theorem trimmed_nil (ao : Option Addr) (c : Nat) (w : World) :
    Calls Tryz.prog 89 #[.slice ao 0 c] w fun e w' => e = .returned (.agg #[.slice ao 0 c]) ∧ Below w.heap.size w w' := by
  go_enter Tryz.func89, Tryz.ntmps89
  go_wp2_with fail
  go_rounds 1
  go_returns
  exact ⟨rfl, by go_grown⟩
set_option maxHeartbeats 1000000 in
theorem trimmed_row (l : List Nat) (ao : Option Addr) (c : Nat) (w : World) (hr : RowAt w ao c l) (hs : Small l) (hne : l ≠ []) :
    Calls Tryz.prog 89 #[.slice ao l.length c] w fun e w' => e = .returned (.agg #[.slice ao (keep l) c]) ∧ Below w.heap.size w w' := by
  obtain ⟨d, hd, hdb, hxc⟩ := hr.open hs
  obtain ⟨b, off, rfl, hb, hxc⟩ := hxc.resolve_left hne
  have h1 := hr.1; have h2 := hr.2.1
  have hkl := keep_le l
  have hk0 : keep (l.take l.length) = keep l := by rw [List.take_length]
  have hstep : ∀ k, k < l.length → keep (l.take (k + 1)) = keep l → d k = 0 → keep (l.take k) = keep l := fun k hk h h0 => keep_take hk (by have := hd k hk; omega) h
  have hlast : ∀ k, k < l.length → keep (l.take (k + 1)) = keep l → d k ≠ 0 → keep l = k + 1 := fun k hk h h0 => keep_last hk (by have := hd k hk; omega) h
  have hzero : keep (l.take 0) = keep l → keep l = 0 := fun h => by rw [← h]; rfl
  generalize hK : (fun k => keep (l.take k) = keep l) = K
  have hK' : ∀ k, (keep (l.take k) = keep l) = K k := fun k => congrFun hK k
  simp only [hK'] at hk0 hstep hlast hzero
  clear hK hK' hd hr hs hne
  generalize keep l = r at *
  generalize l.length = n at *
  have h5 : n ≤ 9223372036854775807 := by omega
  have HS := Lib.hid hstep; have HL := Lib.hid hlast; have HZ := Lib.hid hzero; have HK := Lib.hid hk0; have HX := Lib.hid hxc
  clear hstep hlast hzero hk0 hxc hdb
  go_enter Tryz.func89, Tryz.ntmps89
  go_wp2_with fail
  go_loop [0] (fun v => ∃ k : Nat, k ≤ n ∧ v = .slice (some ⟨b, off, none⟩) k c ∧ K k) (fun v => lenOf v)
  case atStart => exact ⟨n, Nat.le_refl _, rfl, HK.out⟩
  case round =>
    obtain ⟨k, hk, rfl, hKk⟩ := hrel
    have HKk := Lib.hid hKk; clear hKk
    rcases Nat.eq_zero_or_pos k with rfl | hk1
    · have hr0 : r = 0 := HZ.out HKk.out
      subst hr0
      go_wp2
      go_returns
      exact ⟨rfl, by go_grown⟩
    · obtain ⟨j, rfl⟩ : ∃ j, k = j + 1 := ⟨k - 1, by omega⟩
      have c1 : w.cell? ⟨b, off + j, none⟩ = some (.int .u32 (d j)) := HX.out j (by omega)
      by_cases h0 : d j = 0
      · have hz : (d j == 0) = true := by simp [h0]
        have H0 := Lib.hid h0; clear h0
        go_wp2
        go_round
        case rel => exact ⟨j, by omega, rfl, HS.out j (by omega) HKk.out H0.out⟩
        case measure => simp [lenOf]
      · have hz : (d j == 0) = false := by simp [h0]
        have hr1 : r = j + 1 := HL.out j (by omega) HKk.out h0
        subst hr1
        clear h0
        go_wp2
        go_returns
        exact ⟨rfl, by go_grown⟩
def RetN (x : Nat) (w : World) (e : Ending) (w' : World) : Prop := ∃ v, e = .returned v ∧ NumAt w' v x ∧ Below w.heap.size w w'
theorem trimmed_any (l : List Nat) (ao : Option Addr) (c : Nat) (w : World) (hr : RowAt w ao c l) (hs : Small l) :
    Calls Tryz.prog 89 #[.slice ao l.length c] w (RetN (val l) w) := by
  by_cases hne : l = []
  · subst hne
    refine (trimmed_nil ao c w).mono fun e w' h => ⟨_, h.1, ?_, h.2⟩
    refine ⟨ao, c, by rw [val_nil, limbs_zero]; rfl, ?_⟩
    rw [val_nil, limbs_zero]; exact hr.mono h.2
  · refine (trimmed_row l ao c w hr hs hne).mono fun e w' h => ⟨_, h.1, ?_, h.2⟩
    have hk := keep_le l
    have hl : (limbs (val l)).length = keep l := by rw [← take_keep hs]; simp; omega
    refine ⟨ao, c, by rw [hl], ?_⟩
    rw [← take_keep hs]; exact (hr.take _ hk).mono h.2
def cellsOf (l : List Nat) : List Value := l.map fun n => Value.int .u32 (n : Nat)
theorem cellsOf_length (l : List Nat) : (cellsOf l).length = l.length := by simp [cellsOf]
theorem cellsOf_get (l : List Nat) (k : Nat) (h : k < l.length) : (cellsOf l)[k]? = some (.int .u32 (l.getD k 0 : Nat)) := by
  simp [cellsOf, h]
theorem cellsOf_append (a b : List Nat) : cellsOf (a ++ b) = cellsOf a ++ cellsOf b := by simp [cellsOf]
theorem row_of_owns {w : World} {base : Nat} {v : Value} {n : Nat} {l : List Nat} (h : w.ownsRow base 97 1 v n (cellsOf l)) :
    ∃ ao c, v = .slice ao l.length c ∧ RowAt w ao c l := by
  obtain ⟨h1, h2⟩ := h
  rw [cellsOf_length] at h1
  have hn : n = l.length := by omega
  subst hn
  rcases h2 with ⟨rfl, h0⟩ | ⟨g, cap, cur, rfl, hb, hg, hle, hm, hs, ht⟩
  · have : l = [] := List.length_eq_zero_iff.1 h0
    subst this
    exact ⟨none, 0, rfl, Nat.le_refl _, by decide, .inl ⟨rfl, fun _ => rfl⟩⟩
  · refine ⟨some ⟨g, 0, none⟩, cap, rfl, hle, by unfold maxLen at hm; omega, .inr ⟨g, 0, rfl, lt_of_block hg, fun k hk => ?_⟩⟩
    rw [Nat.zero_add]
    have e : w.cell? ⟨g, k, none⟩ = cur[k]? := by simp [World.cell?, hg]
    rw [e]
    have h3 := cellsOf_get l k hk
    rw [← ht, List.getElem?_take] at h3
    rw [if_pos (by omega)] at h3
    simpa using h3
theorem infoU32 : (Tryz.prog.info? 97).map (fun i => (i.zero, i.size, i.bytes)) = some (some (.int .u32 0), 1, 4) := by kernel_rfl
theorem of_step (word : Nat) (l : List Nat) (m : Nat) (h : l ++ limbs m = limbs word) (hm : m ≠ 0) : (l ++ [m % 1000000000]) ++ limbs (m / 1000000000) = limbs word := by
  rw [← h, List.append_assoc, limbs_pos hm]; rfl
theorem u64_div (k : Nat) (h : k < 18446744073709551616) : IntKind.u64.wrap ((k : Int) / 1000000000) = ((k / 1000000000 : Nat) : Int) := by
  rw [IntKind.wrap_u64]; omega
set_option maxHeartbeats 1000000 in
theorem of_any (x : Nat) (hx : x < 18446744073709551616) (w : World) :
    Calls Tryz.prog 75 #[.int .u64 x] w (RetN x w) := by
  obtain ⟨i0, hi, hz0, hz1, hz2⟩ := info_parts infoU32
  have hlen : (limbs x).length ≤ 3 := limbs_length_le (by omega)
  have hst := of_step x
  have hst0 : [] ++ limbs x = limbs x := rfl
  have HL := Lib.hid hlen; have HS := Lib.hid hst; have H0 := Lib.hid hst0; clear hlen hst hst0
  have HX := Lib.hid hx; clear hx
  go_enter Tryz.func75, Tryz.ntmps75
  go_wp2_with fail
  go_loopw [0, 3] (fun m v wr => ∃ (l : List Nat) (k : Nat), k < 18446744073709551616 ∧ m = .int .u64 k ∧ l ++ limbs k = limbs x ∧ wr.ownsRow (w.heap.size + 1) 97 1 v l.length (cellsOf l) ∧ Below (w.heap.size + 1) (w.alloc (Obj.cells #[Value.slice none 0 0] 71)) wr) (fun m _ _ => (intOf m).toNat)
  case atStart => exact ⟨[], x, HX.out, rfl, H0.out, World.ownsRow_nil _ _ _ _, Below.refl _ _⟩
  case round =>
    obtain ⟨l, k, hk, rfl, hlk, hown, hbw⟩ := hrel
    have hll : l.length ≤ 3 := by have := congrArg List.length hlk; simp at this; have := HL.out; omega
    have HLK := Lib.hid hlk; have HK := Lib.hid hk; clear hlk hk
    by_cases hk0 : k = 0
    · have hll' : l = limbs x := by have := HLK.out; rwa [hk0, limbs_zero, List.append_nil] at this
      have HLL := Lib.hid hll'; clear hll'
      have hkn : decide (0 < k) = false := by simp; omega
      obtain ⟨ao, c, rfl, -⟩ := row_of_owns hown
      have HO := Lib.hid hown; clear hown hk0 hll
      have cR : wr.cell? ⟨w.heap.size, 0, none⟩ = some (Value.slice none 0 0) := (hbw.cell (p := ⟨w.heap.size, 0, none⟩) (by simp)).trans (by go_cell)
      have fR : wr.frozen? ⟨w.heap.size, 0, none⟩ = false := (hbw.frozen (p := ⟨w.heap.size, 0, none⟩) (by simp)).trans (by go_cell)
      go_wp2
      refine bodyPost_ret (v := .agg #[.slice ao l.length c]) (by simp [results, Tryz.results75, go_sem, cellSet cR]) rfl ?_
      have hown2 := ownsRow_setCell_below HO.out (a := ⟨w.heap.size, 0, none⟩) (by simp) (Value.slice ao l.length c)
      obtain ⟨ao', c', he, hr'⟩ := row_of_owns hown2
      injection he with h1 h2 h3
      subst h1; subst h3
      refine ⟨_, rfl, ⟨ao, c, ?_, ?_⟩, ?_⟩
      · rw [← HLL.out]
      · rw [← HLL.out]; exact hr'
      · exact (((Below.refl _ _).alloc (Nat.le_refl _) _).trans (hbw.mono (by omega))).setCell (p := ⟨w.heap.size, 0, none⟩) (Nat.le_refl _) _
    · have hk1 : 0 < k := by omega
      go_wp2_with (at_builtin; refine wpList_append_own _ rfl _ _ 69 rfl (w.heap.size + 1) 97 i0 (.int .u32 0) 1 4 Tryz.underlying69 hi hz0 hz1 hz2 rfl (by decide) _ _ _ rfl (hown.alloc _) ⟨wr.heap.size, 0, none⟩ 1 1 [.int .u32 ((k : Int) % 1000000000)] rfl rfl ?c1 ?c2 ?c3 ?c4 ?c5 ?_)
      case c1 => intro j u hj; match j, hj with | 0, hj => (simp at hj; subst hj; simp [Addr.add])
      case c2 => intro u hu; simp at hu; subst hu; rfl
      case c3 => unfold maxLen; omega
      case c4 => omega
      case c5 => have := hbw.size; simp at this ⊢; omega
      intro v' w1 hown' hgrow _
      go_wp2
      go_roundw
      case rel =>
        refine ⟨l ++ [k % 1000000000], k / 1000000000, by have := HK.out; omega, by rw [u64_div k HK.out], of_step x l k HLK.out hk0, ?_, ?_⟩
        · rw [cellsOf_append, List.length_append]; exact hown'
        · exact hbw.trans (((Below.refl _ _).alloc (by have := hbw.size; simp at this; omega) _).grown hgrow (by have := hbw.size; simp at this ⊢; omega) (fun k hk => ((hown.lt k hk)).1))
      case measure => simp only [intOf]; rw [u64_div k HK.out]; omega
end Go.Proofs.YtmnbjkbkjmgmkaaGreatDoor

set_option linter.unusedSimpArgs false
set_option linter.unusedVariables false
namespace Go.Proofs.YtmnbjkbkjmgmkaaGreatDoor
theorem val_take_getD (l : List Nat) (i : Nat) : val (l.take (i + 1)) = val (l.take i) + l.getD i 0 * 1000000000 ^ i := by
  by_cases h : i < l.length
  · rw [val_take_succ l i h, getD_lt l i h]
  · rw [getD_ge l i (by omega), List.take_of_length_le (by omega), List.take_of_length_le (by omega)]; simp
theorem take_set (l : List Nat) (i v : Nat) : (l.set i v).take i = l.take i := by
  rw [List.take_set_of_le (Nat.le_refl _)]
theorem val_set_take (l : List Nat) (i v : Nat) (h : i < l.length) : val ((l.set i v).take (i + 1)) = val (l.take i) + v * 1000000000 ^ i := by
  rw [val_take_getD, take_set, getD_lt _ _ (by simpa using h), List.getElem_set_self]
structure AddInv (x y s : List Nat) (n i c : Nat) : Prop where
  len : s.length = n + 1
  small : Small s
  carry : c ≤ 1
  eq : val (s.take i) + c * 1000000000 ^ i = val (x.take i) + val (y.take i)
theorem AddInv.start (x y : List Nat) (n : Nat) : AddInv x y (List.replicate (n + 1) 0) n 0 0 :=
  ⟨by simp, Small.replicate _, by omega, by simp [val]⟩
theorem AddInv.step {x y s : List Nat} {n i c : Nat} (h : AddInv x y s n i c) (hi : i < n) (hx : Small x) (hy : Small y) :
    AddInv x y (s.set i ((x.getD i 0 + c + y.getD i 0) % 1000000000)) n (i + 1) ((x.getD i 0 + c + y.getD i 0) / 1000000000) := by
  have h1 := hx.getD i; have h2 := hy.getD i; have h3 := h.carry
  refine ⟨by simp [h.len], h.small.set _ _ (by omega), by omega, ?_⟩
  rw [val_set_take _ _ _ (by rw [h.len]; omega), val_take_getD, val_take_getD]
  have h4 := h.eq
  have h5 := Nat.div_add_mod (x.getD i 0 + c + y.getD i 0) 1000000000
  generalize (x.getD i 0 + c + y.getD i 0) / 1000000000 = q at *
  generalize (x.getD i 0 + c + y.getD i 0) % 1000000000 = r at *
  rw [Nat.pow_succ]
  generalize 1000000000 ^ i = p at *
  have : r * p + q * (p * 1000000000) = (1000000000 * q + r) * p := by grind
  have e2 : (x.getD i 0 + c + y.getD i 0) * p = x.getD i 0 * p + c * p + y.getD i 0 * p := by grind
  rw [h5, e2] at this
  omega
theorem AddInv.done {x y s : List Nat} {n c : Nat} (h : AddInv x y s n n c) (hx : x.length = n) (hy : y.length ≤ n) :
    Small (s.set n c) ∧ (s.set n c).length = n + 1 ∧ val (s.set n c) = val x + val y := by
  have h3 := h.carry
  refine ⟨h.small.set _ _ (by omega), by simp [h.len], ?_⟩
  have e : (s.set n c).take (n + 1) = s.set n c := List.take_of_length_le (by simp [h.len])
  rw [← e, val_set_take _ _ _ (by rw [h.len]; omega), h.eq, List.take_of_length_le (by omega), List.take_of_length_le (by omega)]
end Go.Proofs.YtmnbjkbkjmgmkaaGreatDoor

set_option linter.unusedSimpArgs false
set_option linter.unusedVariables false
namespace Go.Proofs.YtmnbjkbkjmgmkaaGreatDoor
def chunks (l : List UInt8) : List Nat :=
  if h : l = [] then [] else dec (l.drop (l.length - 9)) :: chunks (l.take (l.length - 9))
termination_by l.length
decreasing_by
  have : 0 < l.length := List.length_pos_iff.2 h
  simp; omega
theorem chunks_nil : chunks [] = [] := by rw [chunks]; rfl
theorem chunks_cons {l : List UInt8} (h : l ≠ []) : chunks l = dec (l.drop (l.length - 9)) :: chunks (l.take (l.length - 9)) := by rw [chunks, dif_neg h]
theorem chunks_facts : ∀ (n : Nat) (l : List UInt8), l.length = n → AllDig l → Small (chunks l) ∧ val (chunks l) = dec l ∧ (chunks l).length * 9 ≤ l.length + 8 := by
  intro n
  induction n using Nat.strongRecOn with
  | _ n ih =>
    intro l hl hd
    by_cases h : l = []
    · subst h; rw [chunks_nil]; exact ⟨Small.nil, rfl, by simp⟩
    · have hp : 0 < l.length := List.length_pos_iff.2 h
      rw [chunks_cons h]
      have hlt : (l.take (l.length - 9)).length < n := by simp; omega
      obtain ⟨h1, h2, h3⟩ := ih _ hlt _ rfl (hd.take _)
      have hdl := dec_lt (hd.drop (l.length - 9))
      have hdn : (l.drop (l.length - 9)).length ≤ 9 := by simp; omega
      have h9 : 10 ^ (l.drop (l.length - 9)).length ≤ 10 ^ 9 := Nat.pow_le_pow_right (by decide) hdn
      refine ⟨Small.cons (by omega) h1, ?_, ?_⟩
      · rw [val_cons, h2]
        have e : dec l = dec (l.take (l.length - 9)) * 10 ^ (l.drop (l.length - 9)).length + dec (l.drop (l.length - 9)) := by rw [← dec_append, List.take_append_drop]
        by_cases h10 : 9 ≤ l.length
        · have : (l.drop (l.length - 9)).length = 9 := by simp; omega
          rw [this] at e
          omega
        · have ht : l.take (l.length - 9) = [] := by rw [show l.length - 9 = 0 by omega, List.take_zero]
          rw [ht] at e ⊢
          simp [dec] at e ⊢
          exact e.symm
      · simp only [List.length_cons]
        simp only [List.length_take] at h3
        omega
theorem chunks_step (l : List UInt8) (e : Nat) (he : 0 < e) (hl : e ≤ l.length) : chunks (l.take e) = dec ((l.drop (e - 9)).take (e - (e - 9))) :: chunks (l.take (e - 9)) := by
  have hne : l.take e ≠ [] := by
    intro h
    have h1 : (l.take e).length = e := by rw [List.length_take]; omega
    rw [h] at h1
    simp at h1
    omega
  rw [chunks_cons hne]
  have hlen : (l.take e).length = e := by simp; omega
  rw [hlen, List.take_take, Nat.min_eq_left (by omega)]
  congr 1
  rw [List.drop_take]
end Go.Proofs.YtmnbjkbkjmgmkaaGreatDoor
