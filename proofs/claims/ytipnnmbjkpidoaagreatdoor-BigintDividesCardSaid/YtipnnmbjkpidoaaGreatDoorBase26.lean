import Derived.Test.YtipnnmbjkpidoaaGreatDoorBase1
import Derived.Test.YtipnnmbjkpidoaaGreatDoorBase6
import Derived.Test.YtipnnmbjkpidoaaGreatDoorBase7
import Derived.Test.YtipnnmbjkpidoaaGreatDoorBase23

set_option linter.unusedVariables false
/-
  Plain mathematics of numbers as decimal digits, the last one first: no program, no model.
-/
namespace Go.Proofs.YtipnnmbjkpidoaaGreatDoor

/-- The value of nl, the lowest one first. -/
def dv : List Nat → Nat
  | [] => 0
  | x :: xs => x + 10 * dv xs

def Dg (l : List Nat) : Prop := ∀ x ∈ l, x < 10

theorem dv_nil : dv [] = 0 := rfl
theorem dv_cons (x : Nat) (xs : List Nat) : dv (x :: xs) = x + 10 * dv xs := rfl

theorem dv_append (a b : List Nat) : dv (a ++ b) = dv a + 10 ^ a.length * dv b := by
  induction a with
  | nil => simp [dv]
  | cons x xs ih => simp only [List.cons_append, dv, ih, List.length_cons, Nat.pow_succ]; grind

theorem dv_take_succ (l : List Nat) (i : Nat) (h : i < l.length) : dv (l.take (i+1)) = dv (l.take i) + l[i] * 10 ^ i := by
  rw [List.take_succ_eq_append_getElem h, dv_append]
  simp [dv, Nat.min_eq_left (Nat.le_of_lt h)]
  grind

theorem dv_split (l : List Nat) (i : Nat) (h : i ≤ l.length) : dv l = dv (l.take i) + 10 ^ i * dv (l.drop i) := by
  conv => lhs; rw [← List.take_append_drop i l, dv_append]
  rw [List.length_take, Nat.min_eq_left h]

theorem Dg.tail {x : Nat} {xs : List Nat} (h : Dg (x :: xs)) : Dg xs := fun y hy => h y (List.mem_cons_of_mem _ hy)
theorem Dg.head {x : Nat} {xs : List Nat} (h : Dg (x :: xs)) : x < 10 := h x (List.mem_cons_self ..)
theorem Dg.nil : Dg [] := fun _ h => by cases h
theorem Dg.cons {x : Nat} {xs : List Nat} (hx : x < 10) (h : Dg xs) : Dg (x :: xs) := by
  intro y hy; rcases List.mem_cons.1 hy with rfl | hy
  · exact hx
  · exact h y hy
theorem Dg.append {a b : List Nat} (ha : Dg a) (hb : Dg b) : Dg (a ++ b) := by
  intro y hy; rcases List.mem_append.1 hy with hy | hy
  · exact ha y hy
  · exact hb y hy
theorem Dg.take {l : List Nat} (h : Dg l) (i : Nat) : Dg (l.take i) := fun y hy => h y (List.mem_of_mem_take hy)
theorem Dg.drop {l : List Nat} (h : Dg l) (i : Nat) : Dg (l.drop i) := fun y hy => h y (List.mem_of_mem_drop hy)
theorem Dg.get {l : List Nat} (h : Dg l) (i : Nat) (hi : i < l.length) : l[i] < 10 := h _ (List.getElem_mem hi)
theorem Dg.set {l : List Nat} (h : Dg l) (i v : Nat) (hv : v < 10) : Dg (l.set i v) := by
  intro y hy
  rcases List.mem_or_eq_of_mem_set hy with hy | rfl
  · exact h y hy
  · exact hv
theorem Dg.replicate (n : Nat) : Dg (List.replicate n 0) := by
  intro y hy
  rw [List.eq_of_mem_replicate hy]; decide

theorem dv_lt {l : List Nat} (h : Dg l) : dv l < 10 ^ l.length := by
  induction l with
  | nil => simp [dv]
  | cons x xs ih =>
    have h1 := ih h.tail
    have h2 := h.head
    simp only [dv, List.length_cons, Nat.pow_succ]
    omega

theorem dv_replicate (n : Nat) : dv (List.replicate n 0) = 0 := by
  induction n with
  | zero => rfl
  | succ n ih => simp [List.replicate_succ, dv, ih]

theorem dv_set (l : List Nat) (i v : Nat) (h : i < l.length) : dv (l.set i v) + l[i] * 10 ^ i = dv l + v * 10 ^ i := by
  induction l generalizing i with
  | nil => simp at h
  | cons x xs ih =>
    cases i with
    | zero => simp [dv]; omega
    | succ i =>
      have := ih i (by simpa using h)
      simp only [List.set_cons_succ, dv, List.getElem_cons_succ, Nat.pow_succ]
      grind

/-- Two lists of as many nl with the same value are the same. -/
theorem dv_inj {a b : List Nat} (ha : Dg a) (hb : Dg b) (hl : a.length = b.length) (h : dv a = dv b) : a = b := by
  induction a generalizing b with
  | nil => cases b with
    | nil => rfl
    | cons _ _ => simp at hl
  | cons x xs ih => cases b with
    | nil => simp at hl
    | cons y ys =>
      have h1 := ha.head; have h2 := hb.head
      simp only [dv] at h
      have e1 : x = y := by omega
      have e2 : dv xs = dv ys := by omega
      rw [e1, ih ha.tail hb.tail (by simpa using hl) e2]

theorem Dg.getD {l : List Nat} (h : Dg l) (k : Nat) : l.getD k 0 < 10 := by
  by_cases hk : k < l.length
  · rw [getD_lt l k hk]; exact h.get k hk
  · rw [getD_ge l k (by omega)]; decide

/-- The nl of a number, without a zero at the end. -/
def nl (n : Nat) : List Nat := if h : n = 0 then [] else n % 10 :: nl (n / 10)
termination_by n
decreasing_by omega

theorem nl_zero : nl 0 = [] := by rw [nl]; rfl
theorem nl_pos {n : Nat} (h : n ≠ 0) : nl n = n % 10 :: nl (n / 10) := by rw [nl, dif_neg h]

theorem nl_small (n : Nat) : Dg (nl n) := by
  induction n using Nat.strongRecOn with
  | _ n ih =>
    by_cases h : n = 0
    · rw [h, nl_zero]; exact Dg.nil
    · rw [nl_pos h]; exact Dg.cons (by omega) (ih _ (by omega))

theorem dv_limbs (n : Nat) : dv (nl n) = n := by
  induction n using Nat.strongRecOn with
  | _ n ih =>
    by_cases h : n = 0
    · rw [h, nl_zero]; rfl
    · rw [nl_pos h, dv_cons, ih _ (by omega)]; omega

theorem nl_nil_iff {n : Nat} : nl n = [] ↔ n = 0 := by
  constructor
  · intro h; rw [← dv_limbs n, h]; rfl
  · rintro rfl; exact nl_zero

/-- No zero at the end. -/
def DNorm (l : List Nat) : Prop := ∀ h : l ≠ [], l.getLast h ≠ 0

theorem nl_norm (n : Nat) : DNorm (nl n) := by
  induction n using Nat.strongRecOn with
  | _ n ih =>
    intro h
    by_cases h0 : n = 0
    · exact absurd (nl_nil_iff.2 h0) h
    · have e := nl_pos h0
      by_cases hq : n / 10 = 0
      · have e2 : nl n = [n % 10] := by rw [e, hq, nl_zero]
        have : (nl n).getLast h = n % 10 := by simp [e2]
        omega
      · have hne : nl (n / 10) ≠ [] := fun c => hq (nl_nil_iff.1 c)
        have := ih (n / 10) (by omega) hne
        have e3 : (nl n).getLast h = (nl (n / 10)).getLast hne := by
          simp only [e]; rw [List.getLast_cons hne]
        rw [e3]; exact this

theorem dnorm_tail {x : Nat} {xs : List Nat} (h : DNorm (x :: xs)) : DNorm xs := by
  intro hne; have := h (by simp); rwa [List.getLast_cons hne] at this

theorem dnorm_val_pos {l : List Nat} (hn : DNorm l) (h : l ≠ []) : 0 < dv l := by
  induction l with
  | nil => exact absurd rfl h
  | cons x xs ih =>
    by_cases hx : xs = []
    · subst hx; have := hn (by simp); simp at this; simp [dv]; omega
    · have := ih (dnorm_tail hn) hx; simp [dv]; omega

/-- What has no zero at the end is the nl of its value. -/
theorem deq_limbs {l : List Nat} (hs : Dg l) (hn : DNorm l) : l = nl (dv l) := by
  induction l with
  | nil => rw [dv_nil, nl_zero]
  | cons x xs ih =>
    have hp := dnorm_val_pos hn (by simp)
    have h1 := hs.head
    rw [nl_pos (by omega)]
    have e1 : dv (x :: xs) % 10 = x := by simp only [dv]; omega
    have e2 : dv (x :: xs) / 10 = dv xs := by simp only [dv]; omega
    rw [e1, e2, ← ih hs.tail (dnorm_tail hn)]

theorem nl_length_le {n k : Nat} (h : n < 10 ^ k) : (nl n).length ≤ k := by
  induction k generalizing n with
  | zero => have : n = 0 := by simpa using h
            subst this; simp [nl_zero]
  | succ k ih =>
    by_cases h0 : n = 0
    · subst h0; simp [nl_zero]
    · rw [nl_pos h0, List.length_cons]
      have := @ih (n / 10) (by rw [Nat.pow_succ] at h; exact Nat.div_lt_of_lt_mul (by rw [Nat.mul_comm]; exact h))
      omega

theorem dlt_pow_limbs (n : Nat) : n < 10 ^ (nl n).length := by
  have := dv_lt (nl_small n); rwa [dv_limbs] at this

theorem dpow_le_of_limbs {n k : Nat} (h : k < (nl n).length) : 10 ^ k ≤ n := by
  rcases Nat.lt_or_ge n (10 ^ k) with h1 | h1
  · have := nl_length_le h1; omega
  · exact h1

theorem nl_length_mono {m n : Nat} (h : m ≤ n) : (nl m).length ≤ (nl n).length :=
  nl_length_le (Nat.lt_of_le_of_lt h (dlt_pow_limbs n))

theorem dlt_of_limbs_length {m n : Nat} (h : (nl m).length < (nl n).length) : m < n :=
  Nat.lt_of_lt_of_le (dlt_pow_limbs m) (dpow_le_of_limbs h)

/-- The order of numbers with as many nl is told by the highest limb that differs. -/
theorem dv_lt_of_top {a b : List Nat} (hs : Dg a) (hl : a.length = b.length) (i : Nat) (hi : i < a.length)
    (hd : a.drop (i + 1) = b.drop (i + 1)) (h : a[i] < b[i]'(hl ▸ hi)) : dv a < dv b := by
  rw [dv_split a (i + 1) (by omega), dv_split b (i + 1) (by omega), hd, dv_take_succ a i hi, dv_take_succ b i (by omega)]
  have h1 := dv_lt (hs.take i)
  rw [List.length_take, Nat.min_eq_left (by omega)] at h1
  have h2 : (a[i] + 1) * 10 ^ i ≤ b[i] * 10 ^ i := Nat.mul_le_mul_right _ h
  rw [Nat.add_mul] at h2
  omega

end Go.Proofs.YtipnnmbjkpidoaaGreatDoor

/-
  Plain mathematics of the loops over nl: a step each.
-/
namespace Go.Proofs.YtipnnmbjkpidoaaGreatDoor

theorem dv_take_getD (l : List Nat) (i : Nat) : dv (l.take (i + 1)) = dv (l.take i) + l.getD i 0 * 10 ^ i := by
  by_cases h : i < l.length
  · rw [dv_take_succ l i h, getD_lt l i h]
  · rw [getD_ge l i (by omega), List.take_of_length_le (by omega), List.take_of_length_le (by omega)]; simp

theorem dv_set_take (l : List Nat) (i v : Nat) (h : i < l.length) : dv ((l.set i v).take (i + 1)) = dv (l.take i) + v * 10 ^ i := by
  rw [dv_take_getD, take_set, getD_lt _ _ (by simpa using h), List.getElem_set_self]

/-- What the loop of an addition keeps. -/
structure DAddInv (x y s : List Nat) (n i c : Nat) : Prop where
  len : s.length = n + 1
  small : Dg s
  carry : c ≤ 1
  eq : dv (s.take i) + c * 10 ^ i = dv (x.take i) + dv (y.take i)

theorem DAddInv.start (x y : List Nat) (n : Nat) : DAddInv x y (List.replicate (n + 1) 0) n 0 0 :=
  ⟨by simp, Dg.replicate _, by omega, by simp [dv]⟩

theorem DAddInv.step {x y s : List Nat} {n i c : Nat} (h : DAddInv x y s n i c) (hi : i < n) (hx : Dg x) (hy : Dg y) :
    DAddInv x y (s.set i ((x.getD i 0 + c + y.getD i 0) % 10)) n (i + 1) ((x.getD i 0 + c + y.getD i 0) / 10) := by
  have h1 := hx.getD i; have h2 := hy.getD i; have h3 := h.carry
  refine ⟨by simp [h.len], h.small.set _ _ (by omega), by omega, ?_⟩
  rw [dv_set_take _ _ _ (by rw [h.len]; omega), dv_take_getD, dv_take_getD]
  have h4 := h.eq
  have h5 := Nat.div_add_mod (x.getD i 0 + c + y.getD i 0) 10
  generalize (x.getD i 0 + c + y.getD i 0) / 10 = q at *
  generalize (x.getD i 0 + c + y.getD i 0) % 10 = r at *
  rw [Nat.pow_succ]
  generalize 10 ^ i = p at *
  have : r * p + q * (p * 10) = (10 * q + r) * p := by grind
  have e2 : (x.getD i 0 + c + y.getD i 0) * p = x.getD i 0 * p + c * p + y.getD i 0 * p := by grind
  rw [h5, e2] at this
  omega

theorem DAddInv.done {x y s : List Nat} {n c : Nat} (h : DAddInv x y s n n c) (hx : x.length = n) (hy : y.length ≤ n) :
    Dg (s.set n c) ∧ (s.set n c).length = n + 1 ∧ dv (s.set n c) = dv x + dv y := by
  have h3 := h.carry
  refine ⟨h.small.set _ _ (by omega), by simp [h.len], ?_⟩
  have e : (s.set n c).take (n + 1) = s.set n c := List.take_of_length_le (by simp [h.len])
  rw [← e, dv_set_take _ _ _ (by rw [h.len]; omega), h.eq, List.take_of_length_le (by omega), List.take_of_length_le (by omega)]

end Go.Proofs.YtipnnmbjkpidoaaGreatDoor

/-
  Plain mathematics of a multiplication over nl.
-/
namespace Go.Proofs.YtipnnmbjkpidoaaGreatDoor

/-- What the inner loop keeps: p0 the nl before it, a the limb of x at i. -/
structure DMulInv (p0 p y : List Nat) (a i j c : Nat) : Prop where
  len : p.length = p0.length
  small : Dg p
  rest : p.drop (i + j) = p0.drop (i + j)
  carry : c < 10
  eq : dv (p.take (i + j)) + c * 10 ^ (i + j) = dv (p0.take (i + j)) + a * 10 ^ i * dv (y.take j)

theorem DMulInv.start {p0 y : List Nat} {a i : Nat} (hs : Dg p0) : DMulInv p0 p0 y a i 0 0 :=
  ⟨rfl, hs, rfl, by omega, by simp [dv]⟩

theorem dmul_lt (a b c p : Nat) (ha : a < 10) (hb : b < 10) (hc : c < 10) (hp : p < 10) : c + (a * b + p) < 10 * 10 := by
  have h : a * b ≤ 9 * 9 := Nat.mul_le_mul (by omega) (by omega)
  omega

theorem DMulInv.step {p0 p y : List Nat} {a i j c : Nat} (h : DMulInv p0 p y a i j c) (hi : i + j < p0.length) (ha : a < 10) (hy : Dg y) :
    DMulInv p0 (p.set (i + j) ((c + (a * y.getD j 0 + p.getD (i + j) 0)) % 10)) y a i (j + 1) ((c + (a * y.getD j 0 + p.getD (i + j) 0)) / 10) := by
  have h1 := h.small.getD (i + j); have h2 := hy.getD j; have h3 := h.carry; have h4 := h.eq
  have e0 := getD_of_drop h.rest
  have hlt := dmul_lt a (y.getD j 0) c (p.getD (i + j) 0) ha h2 h3 h1
  have hd := Nat.div_add_mod (c + (a * y.getD j 0 + p.getD (i + j) 0)) 10
  refine ⟨by simp [h.len], h.small.set _ _ (Nat.mod_lt _ (by decide)), drop_set_succ h.rest, Nat.div_lt_of_lt_mul hlt, ?_⟩
  rw [← Nat.add_assoc i j 1, dv_set_take _ _ _ (by rw [h.len]; exact hi), dv_take_getD p0, dv_take_getD y, ← e0, Nat.pow_succ]
  generalize (c + (a * y.getD j 0 + p.getD (i + j) 0)) / 10 = u at *
  generalize (c + (a * y.getD j 0 + p.getD (i + j) 0)) % 10 = v at *
  have ep : 10 ^ (i + j) = 10 ^ i * 10 ^ j := Nat.pow_add ..
  have e7 : (10 * u + v) * 10 ^ (i + j) = (c + (a * y.getD j 0 + p.getD (i + j) 0)) * 10 ^ (i + j) := by rw [hd]
  rw [ep] at h4 e7 ⊢
  clear ep hd hlt h1 h2 h3 e0 hy ha hi h
  generalize 10 ^ i = P at *
  generalize 10 ^ j = Q at *
  generalize p.getD (i + j) 0 = r at *
  generalize y.getD j 0 = s at *
  generalize dv (List.take (i + j) p) = A at *
  generalize dv (List.take (i + j) p0) = A0 at *
  generalize dv (List.take j y) = Z at *
  grind

/-- A round of the outer loop. -/
theorem DMulInv.done {x p0 p y : List Nat} {i m c : Nat} (h : DMulInv p0 p y (x.getD i 0) i m c) (hm : y.length = m) (hl : i + m < p0.length)
    (h0 : dv (p0.take (i + m)) = dv (x.take i) * dv y) :
    Dg (p.set (i + m) c) ∧ (p.set (i + m) c).length = p0.length ∧ dv ((p.set (i + m) c).take (i + 1 + m)) = dv (x.take (i + 1)) * dv y := by
  refine ⟨h.small.set _ _ h.carry, by simp [h.len], ?_⟩
  rw [show i + 1 + m = i + m + 1 by omega, dv_set_take _ _ _ (by rw [h.len]; exact hl), h.eq, h0, dv_take_getD, List.take_of_length_le (l := y) (by omega), Nat.add_mul]

end Go.Proofs.YtipnnmbjkpidoaaGreatDoor

/-
  Rows of decimal digits in memory.
-/
namespace Go.Proofs.YtipnnmbjkpidoaaGreatDoor
open Go Go.Proofs Go.RowKit

/-- The nl l lie in w behind the slice with this address and capacity. -/
def DAt (w : World) (ao : Option Addr) (c : Nat) (l : List Nat) : Prop :=
  l.length ≤ c ∧ c ≤ 9223372036854775807 ∧ ((l = [] ∧ (ao = none → c = 0)) ∨ ∃ b off, ao = some ⟨b, off, none⟩ ∧ b < w.heap.size ∧ ∀ k, k < l.length → w.cell? ⟨b, off + k, none⟩ = some (.int .i64 (l.getD k 0 : Nat)))

theorem DAt.mono {w w' : World} {ao : Option Addr} {c : Nat} {l : List Nat} (h : DAt w ao c l) (hb : Below w.heap.size w w') : DAt w' ao c l := by
  obtain ⟨h1, h2, h3⟩ := h
  refine ⟨h1, h2, ?_⟩
  rcases h3 with h3 | ⟨b, off, he, hlt, hc⟩
  · exact .inl h3
  · refine .inr ⟨b, off, he, Nat.lt_of_lt_of_le hlt hb.size, fun k hk => ?_⟩
    rw [hb.cell (p := ⟨b, off + k, none⟩) hlt]; exact hc k hk

/-- What a row of nl gives a walk: its cells by a function that the walk does not open. -/
theorem DAt.open {w : World} {ao : Option Addr} {c : Nat} {l : List Nat} (h : DAt w ao c l) (hs : Dg l) :
    ∃ d : Nat → Int, (∀ k, k < l.length → d k = (l.getD k 0 : Nat)) ∧ (∀ k, 0 ≤ d k ∧ d k < 10) ∧
      (l = [] ∨ ∃ b off, ao = some ⟨b, off, none⟩ ∧ b < w.heap.size ∧ ∀ k, k < l.length → w.cell? ⟨b, off + k, none⟩ = some (.int .i64 (d k))) := by
  refine ⟨fun k => (l.getD k 0 : Nat), fun k _ => rfl, fun k => ⟨Int.natCast_nonneg _, ?_⟩, h.2.2.imp (fun h => h.1) id⟩
  have := hs.getD k
  show ((l.getD k 0 : Nat) : Int) < 10
  omega

theorem dtake_keep {l : List Nat} (hs : Dg l) : l.take (keep l) = nl (dv l) := by
  induction l with
  | nil => rw [dv_nil, nl_zero]; rfl
  | cons x xs ih =>
    have h1 := hs.head
    have h2 := ih hs.tail
    have h3 : keep xs = 0 → dv xs = 0 := fun h => by
      rw [h, List.take_zero] at h2; exact nl_nil_iff.1 h2.symm
    have h4 : dv xs = 0 → keep xs = 0 := fun h => by
      rw [h, nl_zero] at h2
      have := congrArg List.length h2
      simp at this
      rcases this with h | h
      · exact h
      · rw [h]; rfl
    simp only [keep, dv]
    by_cases h : keep xs = 0 ∧ x = 0
    · rw [if_pos h, h3 h.1, h.2, List.take_zero]; simp [nl_zero]
    · rw [if_neg h, List.take_succ_cons, h2]
      have hne : x + 10 * dv xs ≠ 0 := by
        intro e
        exact h ⟨h4 (by omega), by omega⟩
      rw [nl_pos hne]
      have e1 : (x + 10 * dv xs) % 10 = x := by omega
      have e2 : (x + 10 * dv xs) / 10 = dv xs := by omega
      rw [e1, e2]

theorem DAt.take {w : World} {ao : Option Addr} {c : Nat} {l : List Nat} (h : DAt w ao c l) (k : Nat) (hk : k ≤ l.length) : DAt w ao c (l.take k) := by
  obtain ⟨h1, h2, h3⟩ := h
  have hl : (l.take k).length = k := by simp; omega
  refine ⟨by omega, h2, ?_⟩
  rcases h3 with ⟨h3, h4⟩ | ⟨b, off, he, hlt, hc⟩
  · left; rw [h3]; exact ⟨by simp, h4⟩
  · right
    refine ⟨b, off, he, hlt, fun j hj => ?_⟩
    have := hc j (by omega)
    rw [this]
    have e : (l.take k).getD j 0 = l.getD j 0 := by
      rw [getD_lt _ _ hj, getD_lt _ _ (by omega), List.getElem_take]
    rw [e]

/-- Limbs as cells. -/
def dcellsOf (l : List Nat) : List Value := l.map fun n => Value.int .i64 (n : Nat)

theorem dcellsOf_length (l : List Nat) : (dcellsOf l).length = l.length := by simp [dcellsOf]
theorem dcellsOf_get (l : List Nat) (k : Nat) (h : k < l.length) : (dcellsOf l)[k]? = some (.int .i64 (l.getD k 0 : Nat)) := by
  simp [dcellsOf, h]
theorem dcellsOf_append (a b : List Nat) : dcellsOf (a ++ b) = dcellsOf a ++ dcellsOf b := by simp [dcellsOf]

/-- What the call owns is a row of nl. -/
theorem drow_of_owns {w : World} {base : Nat} {v : Value} {n : Nat} {l : List Nat} (h : w.ownsRow base 3 1 v n (dcellsOf l)) :
    ∃ ao c, v = .slice ao l.length c ∧ DAt w ao c l := by
  obtain ⟨h1, h2⟩ := h
  rw [dcellsOf_length] at h1
  have hn : n = l.length := by omega
  subst hn
  rcases h2 with ⟨rfl, h0⟩ | ⟨g, cap, cur, rfl, hb, hg, hle, hm, hs, ht⟩
  · have : l = [] := List.length_eq_zero_iff.1 h0
    subst this
    exact ⟨none, 0, rfl, Nat.le_refl _, by decide, .inl ⟨rfl, fun _ => rfl⟩⟩
  · refine ⟨some ⟨g, 0, none⟩, cap, rfl, hle, by unfold maxLen at hm; omega, .inr ⟨g, 0, rfl, lt_of_block hg, fun k hk => ?_⟩⟩
    rw [Nat.zero_add]
    have e : w.cell? ⟨g, k, none⟩ = cur[k]? := by simp [World.cell?, hg]
    rw [e]
    have h3 := dcellsOf_get l k hk
    rw [← ht, List.getElem?_take] at h3
    rw [if_pos (by omega)] at h3
    simpa using h3

theorem dinfoU32 : (Tryz.prog.info? 3).map (fun i => (i.zero, i.size, i.bytes)) = some (some (.int .i64 0), 1, 8) := by kernel_rfl

/-- Block b begins with the nl l. -/
def DBlk (w : World) (b : Nat) (l : List Nat) : Prop := ∃ R : List Value, w.heap[b]? = some (.cells (dcellsOf l ++ R).toArray 3 (0, 0))

theorem DBlk.lt {w : World} {b : Nat} {l : List Nat} (h : DBlk w b l) : b < w.heap.size := by obtain ⟨R, h⟩ := h; exact lt_of_block h
theorem DBlk.cell {w : World} {b : Nat} {l : List Nat} (h : DBlk w b l) (k : Nat) (hk : k < l.length) : w.cell? ⟨b, k, none⟩ = some (.int .i64 (l.getD k 0 : Nat)) := by
  obtain ⟨R, h⟩ := h
  have e : w.cell? ⟨b, k, none⟩ = (dcellsOf l ++ R).toArray[k]? := by simp [World.cell?, h]
  rw [e, ← dcellsOf_get l k hk]
  simp only [List.getElem?_toArray]
  rw [List.getElem?_append_left (by rw [dcellsOf_length]; exact hk)]
theorem DBlk.frozen {w : World} {b : Nat} {l : List Nat} (h : DBlk w b l) (k : Nat) : w.frozen? ⟨b, k, none⟩ = false := by
  obtain ⟨R, h⟩ := h; simp [World.frozen?, h]

theorem DBlk.set {w : World} {b : Nat} {l : List Nat} (h : DBlk w b l) (k n : Nat) : DBlk (w.setCell ⟨b, k, none⟩ (.int .i64 (n : Int))) b (l.set k n) := by
  obtain ⟨R, h⟩ := h
  have hlt := lt_of_block h
  have h' : w.heap[b] = .cells (dcellsOf l ++ R).toArray 3 (0, 0) := by simpa [Array.getElem?_eq_getElem hlt] using h
  have e : (w.setCell ⟨b, k, none⟩ (.int .i64 (n : Int))).heap[b]? = some (.cells ((dcellsOf l ++ R).set k (.int .i64 (n : Int))).toArray 3 (0, 0)) := by
    show (w.heap.modify b _)[b]? = _
    rw [Array.getElem?_eq_getElem (by simpa using hlt), Array.getElem_modify_self, h']
    simp
  by_cases hk : k < l.length
  · refine ⟨R, ?_⟩
    rw [e, List.set_append_left _ _ (by rw [dcellsOf_length]; exact hk)]
    simp [dcellsOf, List.map_set]
  · refine ⟨R.set (k - (dcellsOf l).length) (.int .i64 (n : Int)), ?_⟩
    rw [e, List.set_append_right _ _ (by rw [dcellsOf_length]; omega), List.set_eq_of_length_le (l := l) (by omega)]

theorem DBlk.keep {w w' : World} {b : Nat} {l : List Nat} {row : Option Nat} (h : DBlk w b l) (hg : w.grownBy w' row) (hne : some b ≠ row) : DBlk w' b l := by
  obtain ⟨R, h⟩ := h
  exact ⟨R, by rw [hg.block b (lt_of_block h) hne]; exact h⟩

theorem DBlk.row {w : World} {b c : Nat} {l : List Nat} (h : DBlk w b l) (hc : l.length ≤ c) (hm : c ≤ 9223372036854775807) : DAt w (some ⟨b, 0, none⟩) c l :=
  ⟨hc, hm, .inr ⟨b, 0, rfl, h.lt, fun k hk => by rw [Nat.zero_add]; exact h.cell k hk⟩⟩

/-- What 'append' leaves. -/
theorem dblk_of_owns {w : World} {base g n c : Nat} {l : List Nat} (h : w.ownsRow base 3 1 (.slice (some ⟨g, 0, none⟩) n c) n (dcellsOf l)) : DBlk w g l ∧ l.length = n ∧ n ≤ c ∧ c ≤ 9223372036854775807 ∧ base ≤ g := by
  obtain ⟨h1, h2⟩ := h
  rw [dcellsOf_length] at h1
  rcases h2 with ⟨h2, -⟩ | ⟨g', cap, cur, he, hb, hg, hle, hm, hs, ht⟩
  · simp at h2
  · injection he with e1 e2 e3
    injection e1 with e1; injection e1 with e1 _ _
    subst e1; subst e3
    refine ⟨⟨cur.toList.drop (n * 1), ?_⟩, by omega, hle, by unfold maxLen at hm; omega, hb⟩
    rw [hg, ← ht, List.take_append_drop]

/-- What 'make' leaves. -/
theorem dblk_of_made {w : World} {base g n : Nat} (h : w.ownsRow base 3 1 (.slice (some ⟨g, 0, none⟩) n n) n (madeCells #[Value.int .i64 0] n).toList) : DBlk w g (List.replicate n 0) := by
  have e : (madeCells #[Value.int .i64 0] n).toList = dcellsOf (List.replicate n 0) :=
    List.ext_getElem (by simp [dcellsOf, madeCells]) fun i h3 h4 => by simp [dcellsOf, madeCells, Nat.mod_one]
  rw [e] at h
  exact (dblk_of_owns h).1

theorem DAt.get {w : World} {b off c : Nat} {l : List Nat} (h : DAt w (some ⟨b, off, none⟩) c l) (k : Nat) (hk : k < l.length) : w.cell? ⟨b, off + k, none⟩ = some (.int .i64 (l.getD k 0 : Nat)) := by
  rcases h.2.2 with ⟨h0, -⟩ | ⟨b', off', he, _, hc⟩
  · rw [h0] at hk; simp at hk
  · injection he with he; injection he with e1 e2 _
    subst e1; subst e2
    exact hc k hk
theorem DAt.block {w : World} {b off c : Nat} {l : List Nat} (h : DAt w (some ⟨b, off, none⟩) c l) (hne : l ≠ []) : b < w.heap.size := by
  rcases h.2.2 with ⟨h0, -⟩ | ⟨b', off', he, hlt, hc⟩
  · exact absurd h0 hne
  · injection he with he; injection he with e1 e2 _
    subst e1; exact hlt
theorem DAt.addr {w : World} {ao : Option Addr} {c : Nat} {l : List Nat} (h : DAt w ao c l) (hne : l ≠ []) : ∃ b off, ao = some ⟨b, off, none⟩ := by
  rcases h.2.2 with ⟨h0, -⟩ | ⟨b, off, he, _, _⟩
  · exact absurd h0 hne
  · exact ⟨b, off, he⟩

theorem dnews_at {w : World} {b o c : Nat} {X : List Nat} (h : DAt w (some ⟨b, o, none⟩) c X) : ∀ j u, (dcellsOf X)[j]? = some u → w.cell? ((⟨b, o, none⟩ : Addr).add j) = some u := by
  intro j u hj
  have hjl : j < X.length := by
    have := (List.getElem?_eq_some_iff.1 hj).1
    rwa [dcellsOf_length] at this
  rw [dcellsOf_get X j hjl] at hj
  injection hj with hj
  rw [← hj, addr_add]
  exact h.get j hjl

/-- A slice that owns at least one limb. -/
theorem downs_shape {w : World} {base n : Nat} {v : Value} {l : List Nat} (h : w.ownsRow base 3 1 v n (dcellsOf l)) (hn : 0 < n) : ∃ g cap, v = .slice (some ⟨g, 0, none⟩) n cap := by
  rcases h.2 with ⟨_, h0⟩ | ⟨g, cap, cur, hv, _⟩
  · omega
  · exact ⟨g, cap, hv⟩


end Go.Proofs.YtipnnmbjkpidoaaGreatDoor

/-
  The reference: digits, cut.
-/
namespace Go.Proofs.YtipnnmbjkpidoaaGreatDoor
open Go Go.Proofs Go.RowKit

/-- A value of type []int that is this list. -/
def DV (w : World) (v : Value) (l : List Nat) : Prop := ∃ ao c, v = .slice ao l.length c ∧ DAt w ao c l
def DRet (l : List Nat) (w : World) (e : Ending) (w' : World) : Prop := ∃ v, e = .returned v ∧ DV w' v l ∧ Below w.heap.size w w'
theorem DV.mono {w w' : World} {v : Value} {l : List Nat} (h : DV w v l) (hb : Below w.heap.size w w') : DV w' v l := by
  obtain ⟨ao, c, he, hr⟩ := h
  exact ⟨ao, c, he, hr.mono hb⟩

def dgOf (s : ByteArray) (p : Nat) : List Nat := ((bytes s).drop p).reverse.map fun c => c.toNat - 48
theorem dgOf_end (s : ByteArray) : dgOf s s.size = [] := by
  unfold dgOf
  rw [List.drop_of_length_le (by rw [bytes_length]; exact Nat.le_refl _)]; rfl
theorem dgOf_step (s : ByteArray) (k : Nat) (h : k < s.size) : dgOf s k = dgOf s (k + 1) ++ [byteAt s k - 48] := by
  unfold dgOf byteAt
  have h' : k < (bytes s).length := h
  rw [List.drop_eq_getElem_cons h', List.reverse_cons, List.map_append]
  simp [List.getD_eq_getElem?_getD, List.getElem?_eq_getElem h']
theorem dgOf_length (s : ByteArray) (k : Nat) : (dgOf s k).length = s.size - k := by
  unfold dgOf; simp [bytes_length]

theorem bool_ge {k : Int} (h : 0 ≤ k) : decide (0 ≤ k) = true := decide_eq_true h

set_option maxHeartbeats 2000000 in
theorem refDigits0_any (s : ByteArray) (p : Nat) (w : World) (hs : s.size ≤ 1000000000000) (hp : p ≤ s.size) (hd : ∀ j, p ≤ j → j < s.size → 48 ≤ byteAt s j ∧ byteAt s j ≤ 57)
    (hstop : p = 0 ∨ (p = 1 ∧ byteAt s 0 = 45)) :
    Calls Tryz.prog 115 #[.string s] w (DRet (dgOf s p) w) := by
  obtain ⟨i0, hi, hz0, hz1, hz2⟩ := info_parts dinfoU32
  have HD := Lib.hid hd; have HST := Lib.hid hstop
  have h0 : dgOf s s.size = [] := dgOf_end s
  have H0 := Lib.hid h0
  clear hd hstop h0
  go_enter Tryz.func115, Tryz.ntmps115
  go_wp2_with fail
  go_loopw [3, 4] (fun v iv wr => ∃ k : Nat, p ≤ k ∧ k ≤ s.size ∧ iv = .int .i64 ((k : Int) - 1) ∧ wr.ownsRow w.heap.size 3 1 v (s.size - k) (dcellsOf (dgOf s k)) ∧ Below w.heap.size w wr) (fun _ iv _ => (intOf iv + 1).toNat)
  case atStart => exact ⟨s.size, hp, Nat.le_refl _, rfl, by rw [H0.out, Nat.sub_self]; exact World.ownsRow_nil _ _ _ _, Below.refl _ _⟩
  case round =>
    obtain ⟨k, hk1, hk2, rfl, hown, hbw⟩ := hrel
    by_cases hkp : k = p
    · subst hkp
      have HB := Lib.hid hbw
      have hln : s.size - k = (dgOf s k).length := (dgOf_length s k).symm
      rw [hln] at hown
      obtain ⟨ao, c, rfl, hr⟩ := drow_of_owns hown
      have HR := Lib.hid hr
      clear hown hr hbw hln
      rcases HST.out with rfl | ⟨rfl, h45⟩
      · go_wp2
        go_ret
        exact ⟨_, rfl, ⟨_, _, rfl, HR.out⟩, HB.out⟩
      · have g0 := byteAt_get s 0 (by omega)
        rw [h45] at g0
        have hsz : 0 < s.size := by omega
        go_wp2
        go_ret
        exact ⟨_, rfl, ⟨_, _, rfl, HR.out⟩, HB.out⟩
    · obtain ⟨j, rfl⟩ : ∃ j, k = j + 1 := ⟨k - 1, by omega⟩
      have hj : j < s.size := by omega
      have gj := byteAt_get s j hj
      obtain ⟨hd1, hd2⟩ := HD.out j (by omega) hj
      have hstep := dgOf_step s j hj
      have HS := Lib.hid hstep; clear hstep
      generalize byteAt s j = b at *
      have hneq : ((b : Int) != 45) = true := by simp; omega
      go_wp2_with (at_builtin; refine wpList_append_own _ rfl _ _ 97 rfl w.heap.size 3 i0 (.int .i64 0) 1 8 Tryz.underlying97 hi hz0 hz1 hz2 rfl (by decide) _ _ _ rfl (hown.alloc _) ⟨wr.heap.size, 0, none⟩ 1 1 [.int .i64 ((b : Int) - 48)] rfl rfl ?c1 ?c2 ?c3 ?c4 ?c5 ?_)
      case c1 => intro j u hj; match j, hj with | 0, hj => (simp at hj; subst hj; simp [Addr.add])
      case c2 => intro u hu; simp at hu; subst hu; rfl
      case c3 => unfold maxLen; omega
      case c4 => omega
      case c5 => have := hbw.size; simp; omega
      intro v' w1 hown' hgrow _
      go_wp2
      go_roundw
      case rel =>
        refine ⟨j, by omega, by omega, by go_num, ?_, ?_⟩
        · rw [HS.out]
          have e : dcellsOf (dgOf s (j + 1) ++ [b - 48]) = dcellsOf (dgOf s (j + 1)) ++ [.int .i64 ((b : Int) - 48)] := by
            have e1 : dcellsOf [b - 48] = [.int .i64 ((b : Int) - 48)] := by
              show [Value.int .i64 ((b - 48 : Nat) : Int)] = _
              rw [show ((b - 48 : Nat) : Int) = (b : Int) - 48 by omega]
            rw [dcellsOf_append, e1]
          rw [e]
          have e2 : s.size - j = s.size - (j + 1) + 1 := by omega
          rw [e2]; exact hown'
        · exact hbw.trans (((Below.refl _ _).alloc (by have := hbw.size; omega) _).grown hgrow (by have := hbw.size; simp; omega) (fun k hk => ((hown.lt k hk)).1))
      case measure => simp only [intOf]; omega
end Go.Proofs.YtipnnmbjkpidoaaGreatDoor
