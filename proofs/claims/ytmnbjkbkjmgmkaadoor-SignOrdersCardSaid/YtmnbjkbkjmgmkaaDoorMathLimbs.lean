/-
  Plain mathematics of numbers in limbs of nine digits: no program, no model.
-/
namespace Go.Proofs.YtmnbjkbkjmgmkaaDoor

/-- The value of limbs, the lowest one first. -/
def val : List Nat → Nat
  | [] => 0
  | x :: xs => x + 1000000000 * val xs

def Small (l : List Nat) : Prop := ∀ x ∈ l, x < 1000000000

theorem val_nil : val [] = 0 := rfl
theorem val_cons (x : Nat) (xs : List Nat) : val (x :: xs) = x + 1000000000 * val xs := rfl

theorem val_append (a b : List Nat) : val (a ++ b) = val a + 1000000000 ^ a.length * val b := by
  induction a with
  | nil => simp [val]
  | cons x xs ih => simp only [List.cons_append, val, ih, List.length_cons, Nat.pow_succ]; grind

theorem val_take_succ (l : List Nat) (i : Nat) (h : i < l.length) : val (l.take (i+1)) = val (l.take i) + l[i] * 1000000000 ^ i := by
  rw [List.take_succ_eq_append_getElem h, val_append]
  simp [val, Nat.min_eq_left (Nat.le_of_lt h)]
  grind

theorem val_split (l : List Nat) (i : Nat) (h : i ≤ l.length) : val l = val (l.take i) + 1000000000 ^ i * val (l.drop i) := by
  conv => lhs; rw [← List.take_append_drop i l, val_append]
  rw [List.length_take, Nat.min_eq_left h]

theorem Small.tail {x : Nat} {xs : List Nat} (h : Small (x :: xs)) : Small xs := fun y hy => h y (List.mem_cons_of_mem _ hy)
theorem Small.head {x : Nat} {xs : List Nat} (h : Small (x :: xs)) : x < 1000000000 := h x (List.mem_cons_self ..)
theorem Small.nil : Small [] := fun _ h => by cases h
theorem Small.cons {x : Nat} {xs : List Nat} (hx : x < 1000000000) (h : Small xs) : Small (x :: xs) := by
  intro y hy; rcases List.mem_cons.1 hy with rfl | hy
  · exact hx
  · exact h y hy
theorem Small.append {a b : List Nat} (ha : Small a) (hb : Small b) : Small (a ++ b) := by
  intro y hy; rcases List.mem_append.1 hy with hy | hy
  · exact ha y hy
  · exact hb y hy
theorem Small.take {l : List Nat} (h : Small l) (i : Nat) : Small (l.take i) := fun y hy => h y (List.mem_of_mem_take hy)
theorem Small.drop {l : List Nat} (h : Small l) (i : Nat) : Small (l.drop i) := fun y hy => h y (List.mem_of_mem_drop hy)
theorem Small.get {l : List Nat} (h : Small l) (i : Nat) (hi : i < l.length) : l[i] < 1000000000 := h _ (List.getElem_mem hi)
theorem Small.set {l : List Nat} (h : Small l) (i v : Nat) (hv : v < 1000000000) : Small (l.set i v) := by
  intro y hy
  rcases List.mem_or_eq_of_mem_set hy with hy | rfl
  · exact h y hy
  · exact hv
theorem Small.replicate (n : Nat) : Small (List.replicate n 0) := by
  intro y hy
  rw [List.eq_of_mem_replicate hy]; decide

theorem val_lt {l : List Nat} (h : Small l) : val l < 1000000000 ^ l.length := by
  induction l with
  | nil => simp [val]
  | cons x xs ih =>
    have h1 := ih h.tail
    have h2 := h.head
    simp only [val, List.length_cons, Nat.pow_succ]
    omega

theorem val_replicate (n : Nat) : val (List.replicate n 0) = 0 := by
  induction n with
  | zero => rfl
  | succ n ih => simp [List.replicate_succ, val, ih]

theorem val_set (l : List Nat) (i v : Nat) (h : i < l.length) : val (l.set i v) + l[i] * 1000000000 ^ i = val l + v * 1000000000 ^ i := by
  induction l generalizing i with
  | nil => simp at h
  | cons x xs ih =>
    cases i with
    | zero => simp [val]; omega
    | succ i =>
      have := ih i (by simpa using h)
      simp only [List.set_cons_succ, val, List.getElem_cons_succ, Nat.pow_succ]
      grind

/-- Two lists of as many limbs with the same value are the same. -/
theorem val_inj {a b : List Nat} (ha : Small a) (hb : Small b) (hl : a.length = b.length) (h : val a = val b) : a = b := by
  induction a generalizing b with
  | nil => cases b with
    | nil => rfl
    | cons _ _ => simp at hl
  | cons x xs ih => cases b with
    | nil => simp at hl
    | cons y ys =>
      have h1 := ha.head; have h2 := hb.head
      simp only [val] at h
      have e1 : x = y := by omega
      have e2 : val xs = val ys := by omega
      rw [e1, ih ha.tail hb.tail (by simpa using hl) e2]

theorem getD_lt (l : List Nat) (k : Nat) (h : k < l.length) : l.getD k 0 = l[k] := by simp [List.getD_eq_getElem?_getD, h]
theorem getD_ge (l : List Nat) (k : Nat) (h : l.length ≤ k) : l.getD k 0 = 0 := by simp [List.getD_eq_getElem?_getD, h]
theorem Small.getD {l : List Nat} (h : Small l) (k : Nat) : l.getD k 0 < 1000000000 := by
  by_cases hk : k < l.length
  · rw [getD_lt l k hk]; exact h.get k hk
  · rw [getD_ge l k (by omega)]; decide

/-- The limbs of a number, without a zero at the end. -/
def limbs (n : Nat) : List Nat := if h : n = 0 then [] else n % 1000000000 :: limbs (n / 1000000000)
termination_by n
decreasing_by omega

theorem limbs_zero : limbs 0 = [] := by rw [limbs]; rfl
theorem limbs_pos {n : Nat} (h : n ≠ 0) : limbs n = n % 1000000000 :: limbs (n / 1000000000) := by rw [limbs, dif_neg h]

theorem limbs_small (n : Nat) : Small (limbs n) := by
  induction n using Nat.strongRecOn with
  | _ n ih =>
    by_cases h : n = 0
    · rw [h, limbs_zero]; exact Small.nil
    · rw [limbs_pos h]; exact Small.cons (by omega) (ih _ (by omega))

theorem val_limbs (n : Nat) : val (limbs n) = n := by
  induction n using Nat.strongRecOn with
  | _ n ih =>
    by_cases h : n = 0
    · rw [h, limbs_zero]; rfl
    · rw [limbs_pos h, val_cons, ih _ (by omega)]; omega

theorem limbs_nil_iff {n : Nat} : limbs n = [] ↔ n = 0 := by
  constructor
  · intro h; rw [← val_limbs n, h]; rfl
  · rintro rfl; exact limbs_zero

/-- No zero at the end. -/
def Norm (l : List Nat) : Prop := ∀ h : l ≠ [], l.getLast h ≠ 0

theorem limbs_norm (n : Nat) : Norm (limbs n) := by
  induction n using Nat.strongRecOn with
  | _ n ih =>
    intro h
    by_cases h0 : n = 0
    · exact absurd (limbs_nil_iff.2 h0) h
    · have e := limbs_pos h0
      by_cases hq : n / 1000000000 = 0
      · have e2 : limbs n = [n % 1000000000] := by rw [e, hq, limbs_zero]
        have : (limbs n).getLast h = n % 1000000000 := by simp [e2]
        omega
      · have hne : limbs (n / 1000000000) ≠ [] := fun c => hq (limbs_nil_iff.1 c)
        have := ih (n / 1000000000) (by omega) hne
        have e3 : (limbs n).getLast h = (limbs (n / 1000000000)).getLast hne := by
          simp only [e]; rw [List.getLast_cons hne]
        rw [e3]; exact this

theorem norm_tail {x : Nat} {xs : List Nat} (h : Norm (x :: xs)) : Norm xs := by
  intro hne; have := h (by simp); rwa [List.getLast_cons hne] at this

theorem norm_val_pos {l : List Nat} (hn : Norm l) (h : l ≠ []) : 0 < val l := by
  induction l with
  | nil => exact absurd rfl h
  | cons x xs ih =>
    by_cases hx : xs = []
    · subst hx; have := hn (by simp); simp at this; simp [val]; omega
    · have := ih (norm_tail hn) hx; simp [val]; omega

/-- What has no zero at the end is the limbs of its value. -/
theorem eq_limbs {l : List Nat} (hs : Small l) (hn : Norm l) : l = limbs (val l) := by
  induction l with
  | nil => rw [val_nil, limbs_zero]
  | cons x xs ih =>
    have hp := norm_val_pos hn (by simp)
    have h1 := hs.head
    rw [limbs_pos (by omega)]
    have e1 : val (x :: xs) % 1000000000 = x := by simp only [val]; omega
    have e2 : val (x :: xs) / 1000000000 = val xs := by simp only [val]; omega
    rw [e1, e2, ← ih hs.tail (norm_tail hn)]

theorem limbs_length_le {n k : Nat} (h : n < 1000000000 ^ k) : (limbs n).length ≤ k := by
  induction k generalizing n with
  | zero => have : n = 0 := by simpa using h
            subst this; simp [limbs_zero]
  | succ k ih =>
    by_cases h0 : n = 0
    · subst h0; simp [limbs_zero]
    · rw [limbs_pos h0, List.length_cons]
      have := @ih (n / 1000000000) (by rw [Nat.pow_succ] at h; exact Nat.div_lt_of_lt_mul (by rw [Nat.mul_comm]; exact h))
      omega

theorem lt_pow_limbs (n : Nat) : n < 1000000000 ^ (limbs n).length := by
  have := val_lt (limbs_small n); rwa [val_limbs] at this

theorem pow_le_of_limbs {n k : Nat} (h : k < (limbs n).length) : 1000000000 ^ k ≤ n := by
  rcases Nat.lt_or_ge n (1000000000 ^ k) with h1 | h1
  · have := limbs_length_le h1; omega
  · exact h1

theorem limbs_length_mono {m n : Nat} (h : m ≤ n) : (limbs m).length ≤ (limbs n).length :=
  limbs_length_le (Nat.lt_of_le_of_lt h (lt_pow_limbs n))

theorem lt_of_limbs_length {m n : Nat} (h : (limbs m).length < (limbs n).length) : m < n :=
  Nat.lt_of_lt_of_le (lt_pow_limbs m) (pow_le_of_limbs h)

/-- The order of numbers with as many limbs is told by the highest limb that differs. -/
theorem val_lt_of_top {a b : List Nat} (hs : Small a) (hl : a.length = b.length) (i : Nat) (hi : i < a.length)
    (hd : a.drop (i + 1) = b.drop (i + 1)) (h : a[i] < b[i]'(hl ▸ hi)) : val a < val b := by
  rw [val_split a (i + 1) (by omega), val_split b (i + 1) (by omega), hd, val_take_succ a i hi, val_take_succ b i (by omega)]
  have h1 := val_lt (hs.take i)
  rw [List.length_take, Nat.min_eq_left (by omega)] at h1
  have h2 : (a[i] + 1) * 1000000000 ^ i ≤ b[i] * 1000000000 ^ i := Nat.mul_le_mul_right _ h
  rw [Nat.add_mul] at h2
  omega

end Go.Proofs.YtmnbjkbkjmgmkaaDoor
