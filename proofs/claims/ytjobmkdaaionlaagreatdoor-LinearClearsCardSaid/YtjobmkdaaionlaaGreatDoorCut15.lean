import Derived.Test.YtjobmkdaaionlaaGreatDoorShelfP
import Derived.Test.YtjobmkdaaionlaaGreatDoorOwnMathRat
import Derived.Test.YtjobmkdaaionlaaGreatDoorCut4
import Derived.Test.YtjobmkdaaionlaaGreatDoorCut1
import Derived.Test.YtjobmkdaaionlaaGreatDoorCut5
import Derived.Test.YtjobmkdaaionlaaGreatDoorCut6
import Derived.Test.YtjobmkdaaionlaaGreatDoorCut13
import Derived.Test.YtjobmkdaaionlaaGreatDoorCut3

set_option linter.unusedVariables false
/-
  strings.Cut at a slash.
-/
namespace Go.Proofs.YtjobmkdaaionlaaGreatDoor
open Go Go.Proofs Go.RowKit
def cutV (l : List UInt8) : Value := if hasB l = true then .tuple #[.string (str (topL l)), .string (str (botL l)), .bool true] else .tuple #[.string (str l), .string ⟨#[]⟩, .bool false]
theorem extract_take (s : ByteArray) (i : Nat) : s.extract 0 i = str ((bytes s).take i) := by
  apply ByteArray.ext
  apply Array.toList_inj.1
  simp [str, bytes, ByteArray.data_extract]
theorem extract_drop (s : ByteArray) (i : Nat) : s.extract i s.size = str ((bytes s).drop i) := by
  apply ByteArray.ext
  apply Array.toList_inj.1
  show (s.extract i s.size).data.toList = _
  rw [ByteArray.data_extract]
  show (s.data.extract i s.data.size).toList = _
  simp [str, bytes]
  exact List.take_of_length_le (by rw [List.length_drop]; exact Nat.le_refl _)
set_option maxHeartbeats 1000000 in
theorem cutLite_any (s : ByteArray) (w : World) (hs : s.size ≤ 9223372036854775806) :
    Calls Tryz.prog 110 #[.string s, .string ⟨#[47]⟩] w fun e w' => e = .returned (cutV (bytes s)) ∧ Below w.heap.size w w' := by
  have C : ∀ W : World, Calls Tryz.prog 154 #[.string s, .string ⟨#[47]⟩] W fun e w' => e = .returned (.int .i64 (slashAt (bytes s))) ∧ w' = W := fun W => Tryz.stringslite_Index_one s 47 W
  unfold cutV
  rcases indexByte_cases (bytes s) 47 with ⟨h, hm⟩ | ⟨i, h, hi, he, hm⟩
  · have hs0 : slashAt (bytes s) = -1 := h
    rw [(slash_none hm).1, if_neg (by simp), str_bytes]
    rw [hs0] at C
    have K := Lib.hid C; clear C hs0 h hm
    go_enter Tryz.func110, Tryz.ntmps110
    go_wp2_with (go_at_call 154; refine (K.out _).mono ?_; rintro e w1 ⟨rfl, h⟩; subst h; refine Hid.out ?_)
    refine Lib.hid ?_
    go_wp2
    refine bodyPost_ret (by simp [results, Tryz.results110, go_sem]; rfl) rfl ?_
    exact ⟨rfl, Below.refl _ _⟩
  · have hs0 : slashAt (bytes s) = i := h
    have hb : hasB (bytes s) = true := by unfold hasB; rw [hs0]; simp
    rw [if_pos hb]
    have e1 : topL (bytes s) = (bytes s).take i := by unfold topL; rw [if_pos hb, hs0, Int.toNat_natCast]
    have e2 : botL (bytes s) = (bytes s).drop (i + 1) := by unfold botL; rw [if_pos hb, hs0, Int.toNat_natCast]
    have hi' : i < s.size := hi
    rw [e1, e2, ← extract_take s i, ← extract_drop s (i + 1)]
    rw [hs0] at C
    have K := Lib.hid C; clear C hs0 h hm he hb e1 e2 hi
    go_enter Tryz.func110, Tryz.ntmps110
    go_wp2_with (go_at_call 154; refine (K.out _).mono ?_; rintro e w1 ⟨rfl, h⟩; subst h; refine Hid.out ?_)
    refine Lib.hid ?_
    go_wp2_with fail
    go_region
    all_goals
      go_wp2
      refine bodyPost_ret (by simp [results, Tryz.results110, go_sem]; rfl) rfl ?_
      exact ⟨rfl, (Below.refl _ _).drew⟩
set_option maxHeartbeats 1000000 in
theorem cut_slash (s : ByteArray) (w : World) (hs : s.size ≤ 9223372036854775806) :
    Calls Tryz.prog 87 #[.string s, .string ⟨#[47]⟩] w fun e w' => e = .returned (cutV (bytes s)) ∧ Below w.heap.size w w' := by
  have C := fun W => cutLite_any s W hs
  obtain ⟨u, v, b, hr⟩ : ∃ u v b, cutV (bytes s) = .tuple #[.string u, .string v, .bool b] := by unfold cutV; split <;> exact ⟨_, _, _, rfl⟩
  rw [hr] at C ⊢
  have K := Lib.hid C; clear C hr hs
  go_enter Tryz.func87, Tryz.ntmps87
  go_wp2_with (go_at_call 110; refine (K.out _).mono ?_; rintro e w1 ⟨rfl, hb1⟩; refine Hid.out ?_)
  refine Lib.hid ?_
  go_wp2
  refine bodyPost_ret (by simp [results, Tryz.results87, go_sem]; rfl) rfl ?_
  exact ⟨rfl, hb1⟩
end Go.Proofs.YtjobmkdaaionlaaGreatDoor

namespace Go.Proofs.YtjobmkdaaionlaaGreatDoor
def dv : List Nat → Nat
  | [] => 0
  | x :: xs => x + 10 * dv xs
def Dg (l : List Nat) : Prop := ∀ x ∈ l, x < 10
theorem dv_nil : dv [] = 0 := rfl
theorem dv_cons (x : Nat) (xs : List Nat) : dv (x :: xs) = x + 10 * dv xs := rfl
theorem dv_append (a b : List Nat) : dv (a ++ b) = dv a + 10 ^ a.length * dv b := by
  induction a with
  | nil => simp [dv]
  | cons x xs ih => simp only [List.cons_append, dv, ih, List.length_cons, Nat.pow_succ]; grind
theorem dv_take_succ (l : List Nat) (i : Nat) (h : i < l.length) : dv (l.take (i+1)) = dv (l.take i) + l[i] * 10 ^ i := by
  rw [List.take_succ_eq_append_getElem h, dv_append]
  simp [dv, Nat.min_eq_left (Nat.le_of_lt h)]
  grind
theorem dv_split (l : List Nat) (i : Nat) (h : i ≤ l.length) : dv l = dv (l.take i) + 10 ^ i * dv (l.drop i) := by
  conv => lhs; rw [← List.take_append_drop i l, dv_append]
  rw [List.length_take, Nat.min_eq_left h]
theorem Dg.tail {x : Nat} {xs : List Nat} (h : Dg (x :: xs)) : Dg xs := fun y hy => h y (List.mem_cons_of_mem _ hy)
theorem Dg.head {x : Nat} {xs : List Nat} (h : Dg (x :: xs)) : x < 10 := h x (List.mem_cons_self ..)
theorem Dg.nil : Dg [] := fun _ h => by cases h
theorem Dg.cons {x : Nat} {xs : List Nat} (hx : x < 10) (h : Dg xs) : Dg (x :: xs) := by
  intro y hy; rcases List.mem_cons.1 hy with rfl | hy
  · exact hx
  · exact h y hy
theorem Dg.append {a b : List Nat} (ha : Dg a) (hb : Dg b) : Dg (a ++ b) := by
  intro y hy; rcases List.mem_append.1 hy with hy | hy
  · exact ha y hy
  · exact hb y hy
theorem Dg.take {l : List Nat} (h : Dg l) (i : Nat) : Dg (l.take i) := fun y hy => h y (List.mem_of_mem_take hy)
theorem Dg.drop {l : List Nat} (h : Dg l) (i : Nat) : Dg (l.drop i) := fun y hy => h y (List.mem_of_mem_drop hy)
theorem Dg.get {l : List Nat} (h : Dg l) (i : Nat) (hi : i < l.length) : l[i] < 10 := h _ (List.getElem_mem hi)
theorem Dg.set {l : List Nat} (h : Dg l) (i v : Nat) (hv : v < 10) : Dg (l.set i v) := by
  intro y hy
  rcases List.mem_or_eq_of_mem_set hy with hy | rfl
  · exact h y hy
  · exact hv
theorem Dg.replicate (n : Nat) : Dg (List.replicate n 0) := by
  intro y hy
  rw [List.eq_of_mem_replicate hy]; decide
theorem dv_lt {l : List Nat} (h : Dg l) : dv l < 10 ^ l.length := by
  induction l with
  | nil => simp [dv]
  | cons x xs ih =>
    have h1 := ih h.tail
    have h2 := h.head
    simp only [dv, List.length_cons, Nat.pow_succ]
    omega
theorem dv_replicate (n : Nat) : dv (List.replicate n 0) = 0 := by
  induction n with
  | zero => rfl
  | succ n ih => simp [List.replicate_succ, dv, ih]
theorem Dg.getD {l : List Nat} (h : Dg l) (k : Nat) : l.getD k 0 < 10 := by
  by_cases hk : k < l.length
  · rw [getD_lt l k hk]; exact h.get k hk
  · rw [getD_ge l k (by omega)]; decide
def nl (n : Nat) : List Nat := if h : n = 0 then [] else n % 10 :: nl (n / 10)
termination_by n
decreasing_by omega
theorem nl_zero : nl 0 = [] := by rw [nl]; rfl
theorem nl_pos {n : Nat} (h : n ≠ 0) : nl n = n % 10 :: nl (n / 10) := by rw [nl, dif_neg h]
theorem nl_small (n : Nat) : Dg (nl n) := by
  induction n using Nat.strongRecOn with
  | _ n ih =>
    by_cases h : n = 0
    · rw [h, nl_zero]; exact Dg.nil
    · rw [nl_pos h]; exact Dg.cons (by omega) (ih _ (by omega))
theorem dv_limbs (n : Nat) : dv (nl n) = n := by
  induction n using Nat.strongRecOn with
  | _ n ih =>
    by_cases h : n = 0
    · rw [h, nl_zero]; rfl
    · rw [nl_pos h, dv_cons, ih _ (by omega)]; omega
theorem nl_nil_iff {n : Nat} : nl n = [] ↔ n = 0 := by
  constructor
  · intro h; rw [← dv_limbs n, h]; rfl
  · rintro rfl; exact nl_zero
def DNorm (l : List Nat) : Prop := ∀ h : l ≠ [], l.getLast h ≠ 0
theorem dnorm_tail {x : Nat} {xs : List Nat} (h : DNorm (x :: xs)) : DNorm xs := by
  intro hne; have := h (by simp); rwa [List.getLast_cons hne] at this
theorem dnorm_val_pos {l : List Nat} (hn : DNorm l) (h : l ≠ []) : 0 < dv l := by
  induction l with
  | nil => exact absurd rfl h
  | cons x xs ih =>
    by_cases hx : xs = []
    · subst hx; have := hn (by simp); simp at this; simp [dv]; omega
    · have := ih (dnorm_tail hn) hx; simp [dv]; omega
theorem deq_limbs {l : List Nat} (hs : Dg l) (hn : DNorm l) : l = nl (dv l) := by
  induction l with
  | nil => rw [dv_nil, nl_zero]
  | cons x xs ih =>
    have hp := dnorm_val_pos hn (by simp)
    have h1 := hs.head
    rw [nl_pos (by omega)]
    have e1 : dv (x :: xs) % 10 = x := by simp only [dv]; omega
    have e2 : dv (x :: xs) / 10 = dv xs := by simp only [dv]; omega
    rw [e1, e2, ← ih hs.tail (dnorm_tail hn)]
theorem nl_length_le {n k : Nat} (h : n < 10 ^ k) : (nl n).length ≤ k := by
  induction k generalizing n with
  | zero => have : n = 0 := by simpa using h
            subst this; simp [nl_zero]
  | succ k ih =>
    by_cases h0 : n = 0
    · subst h0; simp [nl_zero]
    · rw [nl_pos h0, List.length_cons]
      have := @ih (n / 10) (by rw [Nat.pow_succ] at h; exact Nat.div_lt_of_lt_mul (by rw [Nat.mul_comm]; exact h))
      omega
theorem dlt_pow_limbs (n : Nat) : n < 10 ^ (nl n).length := by
  have := dv_lt (nl_small n); rwa [dv_limbs] at this
theorem dpow_le_of_limbs {n k : Nat} (h : k < (nl n).length) : 10 ^ k ≤ n := by
  rcases Nat.lt_or_ge n (10 ^ k) with h1 | h1
  · have := nl_length_le h1; omega
  · exact h1
theorem nl_length_mono {m n : Nat} (h : m ≤ n) : (nl m).length ≤ (nl n).length :=
  nl_length_le (Nat.lt_of_le_of_lt h (dlt_pow_limbs n))
theorem dlt_of_limbs_length {m n : Nat} (h : (nl m).length < (nl n).length) : m < n :=
  Nat.lt_of_lt_of_le (dlt_pow_limbs m) (dpow_le_of_limbs h)
theorem dv_lt_of_top {a b : List Nat} (hs : Dg a) (hl : a.length = b.length) (i : Nat) (hi : i < a.length)
    (hd : a.drop (i + 1) = b.drop (i + 1)) (h : a[i] < b[i]'(hl ▸ hi)) : dv a < dv b := by
  rw [dv_split a (i + 1) (by omega), dv_split b (i + 1) (by omega), hd, dv_take_succ a i hi, dv_take_succ b i (by omega)]
  have h1 := dv_lt (hs.take i)
  rw [List.length_take, Nat.min_eq_left (by omega)] at h1
  have h2 : (a[i] + 1) * 10 ^ i ≤ b[i] * 10 ^ i := Nat.mul_le_mul_right _ h
  rw [Nat.add_mul] at h2
  omega
end Go.Proofs.YtjobmkdaaionlaaGreatDoor

namespace Go.Proofs.YtjobmkdaaionlaaGreatDoor
theorem dv_take_getD (l : List Nat) (i : Nat) : dv (l.take (i + 1)) = dv (l.take i) + l.getD i 0 * 10 ^ i := by
  by_cases h : i < l.length
  · rw [dv_take_succ l i h, getD_lt l i h]
  · rw [getD_ge l i (by omega), List.take_of_length_le (by omega), List.take_of_length_le (by omega)]; simp
theorem dv_set_take (l : List Nat) (i v : Nat) (h : i < l.length) : dv ((l.set i v).take (i + 1)) = dv (l.take i) + v * 10 ^ i := by
  rw [dv_take_getD, take_set, getD_lt _ _ (by simpa using h), List.getElem_set_self]
structure DAddInv (x y s : List Nat) (n i c : Nat) : Prop where
  len : s.length = n + 1
  small : Dg s
  carry : c ≤ 1
  eq : dv (s.take i) + c * 10 ^ i = dv (x.take i) + dv (y.take i)
theorem DAddInv.start (x y : List Nat) (n : Nat) : DAddInv x y (List.replicate (n + 1) 0) n 0 0 :=
  ⟨by simp, Dg.replicate _, by omega, by simp [dv]⟩
theorem DAddInv.step {x y s : List Nat} {n i c : Nat} (h : DAddInv x y s n i c) (hi : i < n) (hx : Dg x) (hy : Dg y) :
    DAddInv x y (s.set i ((x.getD i 0 + c + y.getD i 0) % 10)) n (i + 1) ((x.getD i 0 + c + y.getD i 0) / 10) := by
  have h1 := hx.getD i; have h2 := hy.getD i; have h3 := h.carry
  refine ⟨by simp [h.len], h.small.set _ _ (by omega), by omega, ?_⟩
  rw [dv_set_take _ _ _ (by rw [h.len]; omega), dv_take_getD, dv_take_getD]
  have h4 := h.eq
  have h5 := Nat.div_add_mod (x.getD i 0 + c + y.getD i 0) 10
  generalize (x.getD i 0 + c + y.getD i 0) / 10 = q at *
  generalize (x.getD i 0 + c + y.getD i 0) % 10 = r at *
  rw [Nat.pow_succ]
  generalize 10 ^ i = p at *
  have : r * p + q * (p * 10) = (10 * q + r) * p := by grind
  have e2 : (x.getD i 0 + c + y.getD i 0) * p = x.getD i 0 * p + c * p + y.getD i 0 * p := by grind
  rw [h5, e2] at this
  omega
theorem DAddInv.done {x y s : List Nat} {n c : Nat} (h : DAddInv x y s n n c) (hx : x.length = n) (hy : y.length ≤ n) :
    Dg (s.set n c) ∧ (s.set n c).length = n + 1 ∧ dv (s.set n c) = dv x + dv y := by
  have h3 := h.carry
  refine ⟨h.small.set _ _ (by omega), by simp [h.len], ?_⟩
  have e : (s.set n c).take (n + 1) = s.set n c := List.take_of_length_le (by simp [h.len])
  rw [← e, dv_set_take _ _ _ (by rw [h.len]; omega), h.eq, List.take_of_length_le (by omega), List.take_of_length_le (by omega)]
end Go.Proofs.YtjobmkdaaionlaaGreatDoor

namespace Go.Proofs.YtjobmkdaaionlaaGreatDoor
structure DMulInv (p0 p y : List Nat) (a i j c : Nat) : Prop where
  len : p.length = p0.length
  small : Dg p
  rest : p.drop (i + j) = p0.drop (i + j)
  carry : c < 10
  eq : dv (p.take (i + j)) + c * 10 ^ (i + j) = dv (p0.take (i + j)) + a * 10 ^ i * dv (y.take j)
theorem DMulInv.start {p0 y : List Nat} {a i : Nat} (hs : Dg p0) : DMulInv p0 p0 y a i 0 0 :=
  ⟨rfl, hs, rfl, by omega, by simp [dv]⟩
theorem dmul_lt (a b c p : Nat) (ha : a < 10) (hb : b < 10) (hc : c < 10) (hp : p < 10) : c + (a * b + p) < 10 * 10 := by
  have h : a * b ≤ 9 * 9 := Nat.mul_le_mul (by omega) (by omega)
  omega
theorem DMulInv.step {p0 p y : List Nat} {a i j c : Nat} (h : DMulInv p0 p y a i j c) (hi : i + j < p0.length) (ha : a < 10) (hy : Dg y) :
    DMulInv p0 (p.set (i + j) ((c + (a * y.getD j 0 + p.getD (i + j) 0)) % 10)) y a i (j + 1) ((c + (a * y.getD j 0 + p.getD (i + j) 0)) / 10) := by
  have h1 := h.small.getD (i + j); have h2 := hy.getD j; have h3 := h.carry; have h4 := h.eq
  have e0 := getD_of_drop h.rest
  have hlt := dmul_lt a (y.getD j 0) c (p.getD (i + j) 0) ha h2 h3 h1
  have hd := Nat.div_add_mod (c + (a * y.getD j 0 + p.getD (i + j) 0)) 10
  refine ⟨by simp [h.len], h.small.set _ _ (Nat.mod_lt _ (by decide)), drop_set_succ h.rest, Nat.div_lt_of_lt_mul hlt, ?_⟩
  rw [← Nat.add_assoc i j 1, dv_set_take _ _ _ (by rw [h.len]; exact hi), dv_take_getD p0, dv_take_getD y, ← e0, Nat.pow_succ]
  generalize (c + (a * y.getD j 0 + p.getD (i + j) 0)) / 10 = u at *
  generalize (c + (a * y.getD j 0 + p.getD (i + j) 0)) % 10 = v at *
  have ep : 10 ^ (i + j) = 10 ^ i * 10 ^ j := Nat.pow_add ..
  have e7 : (10 * u + v) * 10 ^ (i + j) = (c + (a * y.getD j 0 + p.getD (i + j) 0)) * 10 ^ (i + j) := by rw [hd]
  rw [ep] at h4 e7 ⊢
  clear ep hd hlt h1 h2 h3 e0 hy ha hi h
  generalize 10 ^ i = P at *
  generalize 10 ^ j = Q at *
  generalize p.getD (i + j) 0 = r at *
  generalize y.getD j 0 = s at *
  generalize dv (List.take (i + j) p) = A at *
  generalize dv (List.take (i + j) p0) = A0 at *
  generalize dv (List.take j y) = Z at *
  grind
theorem DMulInv.done {x p0 p y : List Nat} {i m c : Nat} (h : DMulInv p0 p y (x.getD i 0) i m c) (hm : y.length = m) (hl : i + m < p0.length)
    (h0 : dv (p0.take (i + m)) = dv (x.take i) * dv y) :
    Dg (p.set (i + m) c) ∧ (p.set (i + m) c).length = p0.length ∧ dv ((p.set (i + m) c).take (i + 1 + m)) = dv (x.take (i + 1)) * dv y := by
  refine ⟨h.small.set _ _ h.carry, by simp [h.len], ?_⟩
  rw [show i + 1 + m = i + m + 1 by omega, dv_set_take _ _ _ (by rw [h.len]; exact hl), h.eq, h0, dv_take_getD, List.take_of_length_le (l := y) (by omega), Nat.add_mul]
end Go.Proofs.YtjobmkdaaionlaaGreatDoor

namespace Go.Proofs.YtjobmkdaaionlaaGreatDoor
open Go Go.Proofs Go.RowKit
def DAt (w : World) (ao : Option Addr) (c : Nat) (l : List Nat) : Prop :=
  l.length ≤ c ∧ c ≤ 9223372036854775807 ∧ ((l = [] ∧ (ao = none → c = 0)) ∨ ∃ b off, ao = some ⟨b, off, none⟩ ∧ b < w.heap.size ∧ ∀ k, k < l.length → w.cell? ⟨b, off + k, none⟩ = some (.int .i64 (l.getD k 0 : Nat)))
theorem DAt.mono {w w' : World} {ao : Option Addr} {c : Nat} {l : List Nat} (h : DAt w ao c l) (hb : Below w.heap.size w w') : DAt w' ao c l := by
  obtain ⟨h1, h2, h3⟩ := h
  refine ⟨h1, h2, ?_⟩
  rcases h3 with h3 | ⟨b, off, he, hlt, hc⟩
  · exact .inl h3
  · refine .inr ⟨b, off, he, Nat.lt_of_lt_of_le hlt hb.size, fun k hk => ?_⟩
    rw [hb.cell (p := ⟨b, off + k, none⟩) hlt]; exact hc k hk
theorem DAt.open {w : World} {ao : Option Addr} {c : Nat} {l : List Nat} (h : DAt w ao c l) (hs : Dg l) :
    ∃ d : Nat → Int, (∀ k, k < l.length → d k = (l.getD k 0 : Nat)) ∧ (∀ k, 0 ≤ d k ∧ d k < 10) ∧
      (l = [] ∨ ∃ b off, ao = some ⟨b, off, none⟩ ∧ b < w.heap.size ∧ ∀ k, k < l.length → w.cell? ⟨b, off + k, none⟩ = some (.int .i64 (d k))) := by
  refine ⟨fun k => (l.getD k 0 : Nat), fun k _ => rfl, fun k => ⟨Int.natCast_nonneg _, ?_⟩, h.2.2.imp (fun h => h.1) id⟩
  have := hs.getD k
  show ((l.getD k 0 : Nat) : Int) < 10
  omega
theorem dtake_keep {l : List Nat} (hs : Dg l) : l.take (keep l) = nl (dv l) := by
  induction l with
  | nil => rw [dv_nil, nl_zero]; rfl
  | cons x xs ih =>
    have h1 := hs.head
    have h2 := ih hs.tail
    have h3 : keep xs = 0 → dv xs = 0 := fun h => by
      rw [h, List.take_zero] at h2; exact nl_nil_iff.1 h2.symm
    have h4 : dv xs = 0 → keep xs = 0 := fun h => by
      rw [h, nl_zero] at h2
      have := congrArg List.length h2
      simp at this
      rcases this with h | h
      · exact h
      · rw [h]; rfl
    simp only [keep, dv]
    by_cases h : keep xs = 0 ∧ x = 0
    · rw [if_pos h, h3 h.1, h.2, List.take_zero]; simp [nl_zero]
    · rw [if_neg h, List.take_succ_cons, h2]
      have hne : x + 10 * dv xs ≠ 0 := by
        intro e
        exact h ⟨h4 (by omega), by omega⟩
      rw [nl_pos hne]
      have e1 : (x + 10 * dv xs) % 10 = x := by omega
      have e2 : (x + 10 * dv xs) / 10 = dv xs := by omega
      rw [e1, e2]
theorem DAt.take {w : World} {ao : Option Addr} {c : Nat} {l : List Nat} (h : DAt w ao c l) (k : Nat) (hk : k ≤ l.length) : DAt w ao c (l.take k) := by
  obtain ⟨h1, h2, h3⟩ := h
  have hl : (l.take k).length = k := by simp; omega
  refine ⟨by omega, h2, ?_⟩
  rcases h3 with ⟨h3, h4⟩ | ⟨b, off, he, hlt, hc⟩
  · left; rw [h3]; exact ⟨by simp, h4⟩
  · right
    refine ⟨b, off, he, hlt, fun j hj => ?_⟩
    have := hc j (by omega)
    rw [this]
    have e : (l.take k).getD j 0 = l.getD j 0 := by
      rw [getD_lt _ _ hj, getD_lt _ _ (by omega), List.getElem_take]
    rw [e]
def dcellsOf (l : List Nat) : List Value := l.map fun n => Value.int .i64 (n : Nat)
theorem dcellsOf_length (l : List Nat) : (dcellsOf l).length = l.length := by simp [dcellsOf]
theorem dcellsOf_get (l : List Nat) (k : Nat) (h : k < l.length) : (dcellsOf l)[k]? = some (.int .i64 (l.getD k 0 : Nat)) := by
  simp [dcellsOf, h]
theorem dcellsOf_append (a b : List Nat) : dcellsOf (a ++ b) = dcellsOf a ++ dcellsOf b := by simp [dcellsOf]
theorem drow_of_owns {w : World} {base : Nat} {v : Value} {n : Nat} {l : List Nat} (h : w.ownsRow base 3 1 v n (dcellsOf l)) :
    ∃ ao c, v = .slice ao l.length c ∧ DAt w ao c l := by
  obtain ⟨h1, h2⟩ := h
  rw [dcellsOf_length] at h1
  have hn : n = l.length := by omega
  subst hn
  rcases h2 with ⟨rfl, h0⟩ | ⟨g, cap, cur, rfl, hb, hg, hle, hm, hs, ht⟩
  · have : l = [] := List.length_eq_zero_iff.1 h0
    subst this
    exact ⟨none, 0, rfl, Nat.le_refl _, by decide, .inl ⟨rfl, fun _ => rfl⟩⟩
  · refine ⟨some ⟨g, 0, none⟩, cap, rfl, hle, by unfold maxLen at hm; omega, .inr ⟨g, 0, rfl, lt_of_block hg, fun k hk => ?_⟩⟩
    rw [Nat.zero_add]
    have e : w.cell? ⟨g, k, none⟩ = cur[k]? := by simp [World.cell?, hg]
    rw [e]
    have h3 := dcellsOf_get l k hk
    rw [← ht, List.getElem?_take] at h3
    rw [if_pos (by omega)] at h3
    simpa using h3
theorem dinfoU32 : (Tryz.prog.info? 3).map (fun i => (i.zero, i.size, i.bytes)) = some (some (.int .i64 0), 1, 8) := by kernel_rfl
def DBlk (w : World) (b : Nat) (l : List Nat) : Prop := ∃ R : List Value, w.heap[b]? = some (.cells (dcellsOf l ++ R).toArray 3 (0, 0))
theorem DBlk.lt {w : World} {b : Nat} {l : List Nat} (h : DBlk w b l) : b < w.heap.size := by obtain ⟨R, h⟩ := h; exact lt_of_block h
theorem DBlk.cell {w : World} {b : Nat} {l : List Nat} (h : DBlk w b l) (k : Nat) (hk : k < l.length) : w.cell? ⟨b, k, none⟩ = some (.int .i64 (l.getD k 0 : Nat)) := by
  obtain ⟨R, h⟩ := h
  have e : w.cell? ⟨b, k, none⟩ = (dcellsOf l ++ R).toArray[k]? := by simp [World.cell?, h]
  rw [e, ← dcellsOf_get l k hk]
  simp only [List.getElem?_toArray]
  rw [List.getElem?_append_left (by rw [dcellsOf_length]; exact hk)]
theorem DBlk.frozen {w : World} {b : Nat} {l : List Nat} (h : DBlk w b l) (k : Nat) : w.frozen? ⟨b, k, none⟩ = false := by
  obtain ⟨R, h⟩ := h; simp [World.frozen?, h]
theorem DBlk.set {w : World} {b : Nat} {l : List Nat} (h : DBlk w b l) (k n : Nat) : DBlk (w.setCell ⟨b, k, none⟩ (.int .i64 (n : Int))) b (l.set k n) := by
  obtain ⟨R, h⟩ := h
  have hlt := lt_of_block h
  have h' : w.heap[b] = .cells (dcellsOf l ++ R).toArray 3 (0, 0) := by simpa [Array.getElem?_eq_getElem hlt] using h
  have e : (w.setCell ⟨b, k, none⟩ (.int .i64 (n : Int))).heap[b]? = some (.cells ((dcellsOf l ++ R).set k (.int .i64 (n : Int))).toArray 3 (0, 0)) := by
    show (w.heap.modify b _)[b]? = _
    rw [Array.getElem?_eq_getElem (by simpa using hlt), Array.getElem_modify_self, h']
    simp
  by_cases hk : k < l.length
  · refine ⟨R, ?_⟩
    rw [e, List.set_append_left _ _ (by rw [dcellsOf_length]; exact hk)]
    simp [dcellsOf, List.map_set]
  · refine ⟨R.set (k - (dcellsOf l).length) (.int .i64 (n : Int)), ?_⟩
    rw [e, List.set_append_right _ _ (by rw [dcellsOf_length]; omega), List.set_eq_of_length_le (l := l) (by omega)]
theorem DBlk.keep {w w' : World} {b : Nat} {l : List Nat} {row : Option Nat} (h : DBlk w b l) (hg : w.grownBy w' row) (hne : some b ≠ row) : DBlk w' b l := by
  obtain ⟨R, h⟩ := h
  exact ⟨R, by rw [hg.block b (lt_of_block h) hne]; exact h⟩
theorem DBlk.row {w : World} {b c : Nat} {l : List Nat} (h : DBlk w b l) (hc : l.length ≤ c) (hm : c ≤ 9223372036854775807) : DAt w (some ⟨b, 0, none⟩) c l :=
  ⟨hc, hm, .inr ⟨b, 0, rfl, h.lt, fun k hk => by rw [Nat.zero_add]; exact h.cell k hk⟩⟩
theorem dblk_of_owns {w : World} {base g n c : Nat} {l : List Nat} (h : w.ownsRow base 3 1 (.slice (some ⟨g, 0, none⟩) n c) n (dcellsOf l)) : DBlk w g l ∧ l.length = n ∧ n ≤ c ∧ c ≤ 9223372036854775807 ∧ base ≤ g := by
  obtain ⟨h1, h2⟩ := h
  rw [dcellsOf_length] at h1
  rcases h2 with ⟨h2, -⟩ | ⟨g', cap, cur, he, hb, hg, hle, hm, hs, ht⟩
  · simp at h2
  · injection he with e1 e2 e3
    injection e1 with e1; injection e1 with e1 _ _
    subst e1; subst e3
    refine ⟨⟨cur.toList.drop (n * 1), ?_⟩, by omega, hle, by unfold maxLen at hm; omega, hb⟩
    rw [hg, ← ht, List.take_append_drop]
theorem dblk_of_made {w : World} {base g n : Nat} (h : w.ownsRow base 3 1 (.slice (some ⟨g, 0, none⟩) n n) n (madeCells #[Value.int .i64 0] n).toList) : DBlk w g (List.replicate n 0) := by
  have e : (madeCells #[Value.int .i64 0] n).toList = dcellsOf (List.replicate n 0) :=
    List.ext_getElem (by simp [dcellsOf, madeCells]) fun i h3 h4 => by simp [dcellsOf, madeCells, Nat.mod_one]
  rw [e] at h
  exact (dblk_of_owns h).1
theorem DAt.get {w : World} {b off c : Nat} {l : List Nat} (h : DAt w (some ⟨b, off, none⟩) c l) (k : Nat) (hk : k < l.length) : w.cell? ⟨b, off + k, none⟩ = some (.int .i64 (l.getD k 0 : Nat)) := by
  rcases h.2.2 with ⟨h0, -⟩ | ⟨b', off', he, _, hc⟩
  · rw [h0] at hk; simp at hk
  · injection he with he; injection he with e1 e2 _
    subst e1; subst e2
    exact hc k hk
theorem DAt.block {w : World} {b off c : Nat} {l : List Nat} (h : DAt w (some ⟨b, off, none⟩) c l) (hne : l ≠ []) : b < w.heap.size := by
  rcases h.2.2 with ⟨h0, -⟩ | ⟨b', off', he, hlt, hc⟩
  · exact absurd h0 hne
  · injection he with he; injection he with e1 e2 _
    subst e1; exact hlt
theorem DAt.addr {w : World} {ao : Option Addr} {c : Nat} {l : List Nat} (h : DAt w ao c l) (hne : l ≠ []) : ∃ b off, ao = some ⟨b, off, none⟩ := by
  rcases h.2.2 with ⟨h0, -⟩ | ⟨b, off, he, _, _⟩
  · exact absurd h0 hne
  · exact ⟨b, off, he⟩
theorem dnews_at {w : World} {b o c : Nat} {X : List Nat} (h : DAt w (some ⟨b, o, none⟩) c X) : ∀ j u, (dcellsOf X)[j]? = some u → w.cell? ((⟨b, o, none⟩ : Addr).add j) = some u := by
  intro j u hj
  have hjl : j < X.length := by
    have := (List.getElem?_eq_some_iff.1 hj).1
    rwa [dcellsOf_length] at this
  rw [dcellsOf_get X j hjl] at hj
  injection hj with hj
  rw [← hj, addr_add]
  exact h.get j hjl
def digFrom (s : ByteArray) (f : Nat) : Bool := ((bytes s).drop f).all isDig
theorem digFrom_true {s : ByteArray} {f : Nat} (h : ∀ j, f ≤ j → j < s.size → 48 ≤ byteAt s j ∧ byteAt s j ≤ 57) : digFrom s f = true := by
  unfold digFrom
  rw [List.all_eq_true]
  intro c hc
  obtain ⟨i, hi, rfl⟩ := List.mem_iff_getElem.1 hc
  rw [List.length_drop] at hi
  rw [List.getElem_drop]
  have hlt : f + i < s.size := by rw [bytes_length] at hi; omega
  have := h (f + i) (by omega) hlt
  exact (isDig_byte s (f + i) hlt).trans (by simp [this.1, this.2])
theorem digFrom_false {s : ByteArray} {f j : Nat} (h1 : f ≤ j) (h2 : j < s.size) (h : ¬ (48 ≤ byteAt s j ∧ byteAt s j ≤ 57)) : digFrom s f = false := by
  cases hd : digFrom s f
  · rfl
  · exfalso
    unfold digFrom at hd
    rw [List.all_eq_true] at hd
    have hlt : j - f < ((bytes s).drop f).length := by rw [List.length_drop, bytes_length]; omega
    have := hd _ (List.getElem_mem hlt)
    rw [List.getElem_drop] at this
    have e : f + (j - f) = j := by omega
    simp only [e] at this
    have e2 := (isDig_byte s j h2).symm.trans this
    simp at e2
    exact h e2
theorem canon_zero : canonB [48] = true := by decide
theorem canon_nil : canonB [] = false := by decide
theorem byte0 {s : ByteArray} {c : UInt8} {t : List UInt8} (h : bytes s = c :: t) : byteAt s 0 = c.toNat := by unfold byteAt; rw [h]; rfl
theorem byte1 {s : ByteArray} {c d : UInt8} {t : List UInt8} (h : bytes s = c :: d :: t) : byteAt s 1 = d.toNat := by unfold byteAt; rw [h]; rfl
theorem canon_plain {s : ByteArray} (h0 : 0 < s.size) (hn : byteAt s 0 ≠ 45) (hne : s ≠ ⟨#[48]⟩) : canonB (bytes s) = (!decide (byteAt s 0 = 48) && digFrom s 0) := by
  have hl : (bytes s).length = s.size := rfl
  match hb : bytes s, hl with
  | [], hl => simp at hl; omega
  | c :: t, hl =>
    have e0 := byte0 hb
    have hneg : negB (c :: t) = false := by
      cases h : negB (c :: t)
      · rfl
      · exfalso
        unfold negB Lib.hasPrefix at h
        have : c = 45 := by simpa using (by simpa [List.isPrefixOf] using h : 45 = c).symm
        subst this
        exact hn e0
    have hd : digL (c :: t) = c :: t := by
      rcases neg_cases (c :: t) with ⟨h, -⟩ | ⟨-, h⟩
      · rw [hneg] at h; cases h
      · exact h
    unfold canonB digFrom
    rw [hd, hb, List.drop_zero, e0]
    by_cases h48 : c = 48
    · subst h48
      have h1 : 1 < (48 :: t).length := by
        rcases Nat.lt_or_ge 1 ((48 : UInt8) :: t).length with h | h
        · exact h
        · exfalso
          have ht : t = [] := by simpa using h
          subst ht
          exact hne (ByteArray.ext (Array.ext' hb))
      rw [decide_eq_true h1]
      simp
    · have : ¬ c.toNat = 48 := fun h => h48 (UInt8.toNat_inj.1 (by rw [h]; rfl))
      simp [h48, this]
theorem canon_minus {s : ByteArray} (h1 : 1 < s.size) (hn : byteAt s 0 = 45) : canonB (bytes s) = (!decide (byteAt s 1 = 48) && digFrom s 1) := by
  have hl : (bytes s).length = s.size := rfl
  match hb : bytes s, hl with
  | [], hl => simp at hl; omega
  | [c], hl => simp at hl; omega
  | c :: d :: t, hl =>
    have e0 := byte0 hb
    have e1 := byte1 hb
    have : c = 45 := UInt8.toNat_inj.1 (by rw [← e0, hn]; rfl)
    subst this
    unfold canonB digFrom
    rw [dig_cons, hb, e1]
    by_cases h48 : d = 48
    · subst h48; simp
    · have : ¬ d.toNat = 48 := fun h => h48 (UInt8.toNat_inj.1 (by rw [h]; rfl))
      simp [h48, this]
theorem canon_dash {s : ByteArray} (h1 : s.size = 1) (hn : byteAt s 0 = 45) : canonB (bytes s) = false := by
  have hl : (bytes s).length = s.size := rfl
  match hb : bytes s, hl with
  | [], hl => simp at hl; omega
  | [c], hl =>
    have e0 := byte0 hb
    have : c = 45 := UInt8.toNat_inj.1 (by rw [← e0, hn]; rfl)
    subst this; decide
  | c :: d :: t, hl => simp at hl; omega
set_option maxHeartbeats 4000000 in
theorem form_any (s : ByteArray) (w : World) (hs : s.size ≤ 9223372036854775807) :
    Calls Tryz.prog 136 #[.string s] w fun e w' => e = .returned (.bool (canonB (bytes s))) ∧ w' = w := by
  by_cases hz : s = ⟨#[48]⟩
  · subst hz
    rw [show bytes ⟨#[48]⟩ = [48] from rfl, canon_zero]
    clear hs
    go_enter Tryz.func136, Tryz.ntmps136
    go_wp2
    go_ret
    exact ⟨rfl, rfl⟩
  · have hd := eq48 s hz
    by_cases h0 : s.size = 0
    · have hq : canonB (bytes s) = false := by rw [List.length_eq_zero_iff.1 (show (bytes s).length = 0 from h0)]; exact canon_nil
      rw [hq]
      clear hz hq
      go_enter Tryz.func136, Tryz.ntmps136
      go_wp2
      go_ret
      exact ⟨rfl, rfl⟩
    · have hpos : 0 < s.size := by omega
      have g0 := byteAt_get s 0 hpos
      by_cases hm : byteAt s 0 = 45
      · by_cases h1 : s.size = 1
        · rw [canon_dash h1 hm]
          rw [hm] at g0
          clear hz hm
          go_enter Tryz.func136, Tryz.ntmps136
          go_wp2
          go_ret
          exact ⟨rfl, rfl⟩
        · have h1' : 1 < s.size := by omega
          have g1 := byteAt_get s 1 h1'
          have hq := canon_minus h1' hm
          rw [hm] at g0
          generalize hb1 : byteAt s 1 = b1 at *
          by_cases h48 : b1 = 48
          · subst h48
            rw [hq]
            clear hz hm hq hb1
            go_enter Tryz.func136, Tryz.ntmps136
            go_wp2
            go_ret
            exact ⟨rfl, rfl⟩
          · have hq2 : canonB (bytes s) = digFrom s 1 := by rw [hq]; simp [h48]
            rw [hq2]
            have t1 : ((1 : Int) == (s.size : Int)) = false := by rw [beq_eq_false_iff_ne]; omega
            have t2 : ((b1 : Int) == 48) = false := by rw [beq_eq_false_iff_ne]; omega
            clear hz hm hq hq2 hb1 h48
            go_enter Tryz.func136, Tryz.ntmps136
            go_wp2_with fail
            clear g0 g1 hd t1 t2
            go_loop [4] (fun iv => ∃ k : Nat, 1 ≤ k ∧ k ≤ s.size ∧ iv = .int .i64 k ∧ ∀ j, 1 ≤ j → j < k → 48 ≤ byteAt s j ∧ byteAt s j ≤ 57) (fun iv => s.size - (intOf iv).toNat)
            case atStart => exact ⟨1, Nat.le_refl _, by omega, rfl, fun j h1 h2 => by omega⟩
            case round =>
              obtain ⟨k, hk1, hk, rfl, hall⟩ := hrel
              have HALL := Lib.hid hall; clear hall
              by_cases hlt : k < s.size
              · have hgk := byteAt_get s k hlt
                by_cases hdk : 48 ≤ byteAt s k ∧ byteAt s k ≤ 57
                · have e1 : ∀ j, 1 ≤ j → j < k + 1 → 48 ≤ byteAt s j ∧ byteAt s j ≤ 57 := fun j h1 h2 => by
                    by_cases hj : j = k
                    · subst hj; exact hdk
                    · exact HALL.out j h1 (by omega)
                  have E1 := Lib.hid e1; clear e1
                  obtain ⟨hd1, hd2⟩ := hdk
                  generalize byteAt s k = b at *
                  go_wp2
                  go_round
                  case rel => exact ⟨k + 1, by omega, by omega, by go_num, E1.out⟩
                  case measure => simp [intOf]; omega
                · have e1 : digFrom s 1 = false := digFrom_false hk1 hlt hdk
                  have E1 := Lib.hid e1; clear e1
                  have hdd : byteAt s k < 48 ∨ (¬ byteAt s k < 48 ∧ 57 < byteAt s k) := by omega
                  clear hdk
                  generalize byteAt s k = b at *
                  rcases hdd with hdd | ⟨hdd, hde⟩
                  all_goals
                    go_wp2
                    go_ret
                    exact ⟨ret_bool E1.out.symm, rfl⟩
              · have hkn : k = s.size := by omega
                subst hkn
                have e1 : digFrom s 1 = true := digFrom_true HALL.out
                have E1 := Lib.hid e1; clear e1
                go_wp2
                go_ret
                exact ⟨ret_bool E1.out.symm, rfl⟩
      · have hq := canon_plain hpos hm hz
        generalize hb0 : byteAt s 0 = b0 at *
        have hm' : b0 ≠ 45 := hm
        by_cases h48 : b0 = 48
        · subst h48
          rw [hq]
          clear hz hm hq hb0
          go_enter Tryz.func136, Tryz.ntmps136
          go_wp2
          go_ret
          exact ⟨rfl, rfl⟩
        · have hq2 : canonB (bytes s) = digFrom s 0 := by rw [hq]; simp [h48]
          rw [hq2]
          have t1 : ((0 : Int) == (s.size : Int)) = false := by rw [beq_eq_false_iff_ne]; omega
          have t2 : ((b0 : Int) == 48) = false := by rw [beq_eq_false_iff_ne]; omega
          have t3 : ((b0 : Int) == 45) = false := by rw [beq_eq_false_iff_ne]; omega
          clear hz hm hm' hq hq2 hb0 h48
          go_enter Tryz.func136, Tryz.ntmps136
          go_wp2_with fail
          clear g0 hd t1 t2 t3
          go_loop [4] (fun iv => ∃ k : Nat, 0 ≤ k ∧ k ≤ s.size ∧ iv = .int .i64 k ∧ ∀ j, 0 ≤ j → j < k → 48 ≤ byteAt s j ∧ byteAt s j ≤ 57) (fun iv => s.size - (intOf iv).toNat)
          case atStart => exact ⟨0, Nat.le_refl _, by omega, rfl, fun j h1 h2 => by omega⟩
          case round =>
            obtain ⟨k, hk1, hk, rfl, hall⟩ := hrel
            have HALL := Lib.hid hall; clear hall
            by_cases hlt : k < s.size
            · have hgk := byteAt_get s k hlt
              by_cases hdk : 48 ≤ byteAt s k ∧ byteAt s k ≤ 57
              · have e1 : ∀ j, 0 ≤ j → j < k + 1 → 48 ≤ byteAt s j ∧ byteAt s j ≤ 57 := fun j h1 h2 => by
                  by_cases hj : j = k
                  · subst hj; exact hdk
                  · exact HALL.out j h1 (by omega)
                have E1 := Lib.hid e1; clear e1
                obtain ⟨hd1, hd2⟩ := hdk
                generalize byteAt s k = b at *
                go_wp2
                go_round
                case rel => exact ⟨k + 1, by omega, by omega, by go_num, E1.out⟩
                case measure => simp [intOf]; omega
              · have e1 : digFrom s 0 = false := digFrom_false hk1 hlt hdk
                have E1 := Lib.hid e1; clear e1
                have hdd : byteAt s k < 48 ∨ (¬ byteAt s k < 48 ∧ 57 < byteAt s k) := by omega
                clear hdk
                generalize byteAt s k = b at *
                rcases hdd with hdd | ⟨hdd, hde⟩
                all_goals
                  go_wp2
                  go_ret
                  exact ⟨ret_bool E1.out.symm, rfl⟩
            · have hkn : k = s.size := by omega
              subst hkn
              have e1 : digFrom s 0 = true := digFrom_true HALL.out
              have E1 := Lib.hid e1; clear e1
              go_wp2
              go_ret
              exact ⟨ret_bool E1.out.symm, rfl⟩
def DV (w : World) (v : Value) (l : List Nat) : Prop := ∃ ao c, v = .slice ao l.length c ∧ DAt w ao c l
def DRet (l : List Nat) (w : World) (e : Ending) (w' : World) : Prop := ∃ v, e = .returned v ∧ DV w' v l ∧ Below w.heap.size w w'
theorem DV.mono {w w' : World} {v : Value} {l : List Nat} (h : DV w v l) (hb : Below w.heap.size w w') : DV w' v l := by
  obtain ⟨ao, c, he, hr⟩ := h
  exact ⟨ao, c, he, hr.mono hb⟩
def dgOf (s : ByteArray) (p : Nat) : List Nat := ((bytes s).drop p).reverse.map fun c => c.toNat - 48
theorem dgOf_end (s : ByteArray) : dgOf s s.size = [] := by
  unfold dgOf
  rw [List.drop_of_length_le (by rw [bytes_length]; exact Nat.le_refl _)]; rfl
theorem dgOf_step (s : ByteArray) (k : Nat) (h : k < s.size) : dgOf s k = dgOf s (k + 1) ++ [byteAt s k - 48] := by
  unfold dgOf byteAt
  have h' : k < (bytes s).length := h
  rw [List.drop_eq_getElem_cons h', List.reverse_cons, List.map_append]
  simp [List.getD_eq_getElem?_getD, List.getElem?_eq_getElem h']
theorem dgOf_length (s : ByteArray) (k : Nat) : (dgOf s k).length = s.size - k := by
  unfold dgOf; simp [bytes_length]
set_option maxHeartbeats 2000000 in
theorem refDigits0_any (s : ByteArray) (p : Nat) (w : World) (hs : s.size ≤ 1000000000000) (hp : p ≤ s.size) (hd : ∀ j, p ≤ j → j < s.size → 48 ≤ byteAt s j ∧ byteAt s j ≤ 57)
    (hstop : p = 0 ∨ (p = 1 ∧ byteAt s 0 = 45)) :
    Calls Tryz.prog 118 #[.string s] w (DRet (dgOf s p) w) := by
  obtain ⟨i0, hi, hz0, hz1, hz2⟩ := info_parts dinfoU32
  have HD := Lib.hid hd; have HST := Lib.hid hstop
  have h0 : dgOf s s.size = [] := dgOf_end s
  have H0 := Lib.hid h0
  clear hd hstop h0
  go_enter Tryz.func118, Tryz.ntmps118
  go_wp2_with fail
  go_loopw [3, 4] (fun v iv wr => ∃ k : Nat, p ≤ k ∧ k ≤ s.size ∧ iv = .int .i64 ((k : Int) - 1) ∧ wr.ownsRow w.heap.size 3 1 v (s.size - k) (dcellsOf (dgOf s k)) ∧ Below w.heap.size w wr) (fun _ iv _ => (intOf iv + 1).toNat)
  case atStart => exact ⟨s.size, hp, Nat.le_refl _, rfl, by rw [H0.out, Nat.sub_self]; exact World.ownsRow_nil _ _ _ _, Below.refl _ _⟩
  case round =>
    obtain ⟨k, hk1, hk2, rfl, hown, hbw⟩ := hrel
    by_cases hkp : k = p
    · subst hkp
      have HB := Lib.hid hbw
      have hln : s.size - k = (dgOf s k).length := (dgOf_length s k).symm
      rw [hln] at hown
      obtain ⟨ao, c, rfl, hr⟩ := drow_of_owns hown
      have HR := Lib.hid hr
      clear hown hr hbw hln
      rcases HST.out with rfl | ⟨rfl, h45⟩
      · go_wp2
        go_ret
        exact ⟨_, rfl, ⟨_, _, rfl, HR.out⟩, HB.out⟩
      · have g0 := byteAt_get s 0 (by omega)
        rw [h45] at g0
        have hsz : 0 < s.size := by omega
        go_wp2
        go_ret
        exact ⟨_, rfl, ⟨_, _, rfl, HR.out⟩, HB.out⟩
    · obtain ⟨j, rfl⟩ : ∃ j, k = j + 1 := ⟨k - 1, by omega⟩
      have hj : j < s.size := by omega
      have gj := byteAt_get s j hj
      obtain ⟨hd1, hd2⟩ := HD.out j (by omega) hj
      have hstep := dgOf_step s j hj
      have HS := Lib.hid hstep; clear hstep
      generalize byteAt s j = b at *
      have hneq : ((b : Int) != 45) = true := by simp; omega
      go_wp2_with (at_builtin; refine wpList_append_own _ rfl _ _ 64 rfl w.heap.size 3 i0 (.int .i64 0) 1 8 Tryz.underlying64 hi hz0 hz1 hz2 rfl (by decide) _ _ _ rfl (hown.alloc _) ⟨wr.heap.size, 0, none⟩ 1 1 [.int .i64 ((b : Int) - 48)] rfl rfl ?c1 ?c2 ?c3 ?c4 ?c5 ?_)
      case c1 => intro j u hj; match j, hj with | 0, hj => (simp at hj; subst hj; simp [Addr.add])
      case c2 => intro u hu; simp at hu; subst hu; rfl
      case c3 => unfold maxLen; omega
      case c4 => omega
      case c5 => have := hbw.size; simp; omega
      intro v' w1 hown' hgrow _
      go_wp2
      go_roundw
      case rel =>
        refine ⟨j, by omega, by omega, by go_num, ?_, ?_⟩
        · rw [HS.out]
          have e : dcellsOf (dgOf s (j + 1) ++ [b - 48]) = dcellsOf (dgOf s (j + 1)) ++ [.int .i64 ((b : Int) - 48)] := by
            have e1 : dcellsOf [b - 48] = [.int .i64 ((b : Int) - 48)] := by
              show [Value.int .i64 ((b - 48 : Nat) : Int)] = _
              rw [show ((b - 48 : Nat) : Int) = (b : Int) - 48 by omega]
            rw [dcellsOf_append, e1]
          rw [e]
          have e2 : s.size - j = s.size - (j + 1) + 1 := by omega
          rw [e2]; exact hown'
        · exact hbw.trans (((Below.refl _ _).alloc (by have := hbw.size; omega) _).grown hgrow (by have := hbw.size; simp; omega) (fun k hk => ((hown.lt k hk)).1))
      case measure => simp only [intOf]; omega
end Go.Proofs.YtjobmkdaaionlaaGreatDoor

namespace Go.Proofs.YtjobmkdaaionlaaGreatDoor
open Go Go.Proofs
def dgs (n : Nat) : List Nat := (Lib.decDigits n).reverse.map fun c => c.toNat - 48
theorem dgs_length (n : Nat) : (dgs n).length = (Lib.decDigits n).length := by simp [dgs]
theorem dv_rev : ∀ (l : List UInt8), dv (l.reverse.map fun c => c.toNat - 48) = dec l
  | [] => rfl
  | c :: t => by
    rw [List.reverse_cons, List.map_append, dv_append, dv_rev t]
    simp only [List.length_map, List.length_reverse, List.map_cons, List.map_nil, dv, dec]
    rw [Nat.mul_zero, Nat.add_zero, Nat.mul_comm]; omega
theorem dv_dgs (n : Nat) : dv (dgs n) = n := by unfold dgs; rw [dv_rev, dec_decDigits]
theorem dgs_dg (n : Nat) : Dg (dgs n) := by
  intro x hx
  simp only [dgs, List.mem_map, List.mem_reverse] at hx
  obtain ⟨c, hc, rfl⟩ := hx
  have := isDig_iff.1 (allDig_decDigits n c hc)
  omega
theorem dgs_ne_nil (n : Nat) : dgs n ≠ [] := fun h => by
  have := congrArg List.length h
  rw [dgs_length] at this
  exact decDigits_ne_nil n (List.length_eq_zero_iff.1 this)
theorem dgs_pos {n : Nat} (h : n ≠ 0) : dgs n = nl n := by
  have e : nl n = nl (dv (dgs n)) := by rw [dv_dgs]
  rw [e]
  refine deq_limbs (dgs_dg n) fun hne => ?_
  have h1 := head?_decDigits n h
  have h2 : (dgs n).getLast hne = ((Lib.decDigits n).head (decDigits_ne_nil n)).toNat - 48 := by
    unfold dgs
    simp [List.getLast_reverse]
  rw [h2]
  have h3 := isDig_iff.1 (allDig_decDigits n _ (List.head_mem (decDigits_ne_nil n)))
  intro h4
  rw [List.head?_eq_some_head (decDigits_ne_nil n)] at h1
  exact h1 (by rw [show (Lib.decDigits n).head (decDigits_ne_nil n) = 48 from UInt8.toNat_inj.1 (by show _ = 48; omega)])
theorem nl_length (n : Nat) (h : n ≠ 0) : (nl n).length = (Lib.decDigits n).length := by rw [← dgs_pos h, dgs_length]
theorem nl_len_le (n : Nat) : (nl n).length ≤ (Lib.decDigits n).length := by
  by_cases h : n = 0
  · subst h; rw [nl_zero]; simp
  · rw [nl_length n h]; exact Nat.le_refl _
end Go.Proofs.YtjobmkdaaionlaaGreatDoor
