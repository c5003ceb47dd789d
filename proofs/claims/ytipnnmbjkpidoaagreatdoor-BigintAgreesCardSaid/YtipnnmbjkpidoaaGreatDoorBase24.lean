import Derived.Test.YtipnnmbjkpidoaaGreatDoorBase23

set_option linter.unusedVariables false
/-
  Plain mathematics of the long division.
-/
namespace Go.Proofs.YtipnnmbjkpidoaaGreatDoor

theorem scale_half (v : Nat) (h1 : 1 ≤ v) (h2 : v < 1000000000) : 500000000 ≤ v * (1000000000 / (v + 1)) := by
  by_cases hv : 500000000 ≤ v
  · have : 1 ≤ 1000000000 / (v + 1) := (Nat.le_div_iff_mul_le (by omega)).2 (by omega)
    have := Nat.mul_le_mul_left v this
    omega
  · have hd := Nat.div_add_mod 1000000000 (v + 1)
    have hm := Nat.mod_lt 1000000000 (show 0 < v + 1 by omega)
    generalize 1000000000 / (v + 1) = t at *
    -- v t >= 500000000: (v+1) t >= B - v, so (v+1) (v t) >= v (B - v), and 2 v (B - v) >= (B - 1) (v + 1)
    have h3 : 1000000000 - v ≤ (v + 1) * t := by omega
    rcases Nat.lt_or_ge (v * t) 500000000 with h4 | h4
    · exfalso
      have h5 : v * (1000000000 - v) ≤ v * ((v + 1) * t) := Nat.mul_le_mul_left _ h3
      have h6 : v * ((v + 1) * t) = (v + 1) * (v * t) := by grind
      have h7 : (v + 1) * (v * t) ≤ (v + 1) * 499999999 := Nat.mul_le_mul_left _ (by omega)
      obtain ⟨u, rfl⟩ : ∃ u, v = u + 1 := ⟨v - 1, by omega⟩
      obtain ⟨z, hz⟩ : ∃ z, 1000000000 - (u + 1) = 500000000 + z ∧ u + 1 + z = 500000000 := ⟨500000000 - (u + 1), by omega⟩
      rw [hz.1] at h5
      have h8 : (u + 1) * (500000000 + z) = (u + 1) * 500000000 + (u + 1) * z := Nat.mul_add ..
      have h9 : u * 1 ≤ u * z ∨ z = 0 := by
        rcases Nat.eq_zero_or_pos z with h | h
        · exact .inr h
        · exact .inl (Nat.mul_le_mul_left _ h)
      have h10 : (u + 1) * z = u * z + z := by grind
      have hz2 := hz.2
      rcases h9 with h9 | h9
      · omega
      · omega
    · exact h4

/-- A scaled divisor has as many limbs, and a high top limb. -/
theorem scaled_top {Y S : List Nat} {m t : Nat} (hY : Small Y) (hS : Small S) (hm : Y.length = m) (hm1 : 1 ≤ m) (hs : S.length = m + 1) (ht : t = 1000000000 / (Y.getD (m - 1) 0 + 1)) (htop : 1 ≤ Y.getD (m - 1) 0) (hv : val S = val Y * t) :
    S.getD m 0 = 0 ∧ 500000000 ≤ S.getD (m - 1) 0 ∧ val (S.take m) = val Y * t := by
  obtain ⟨k, rfl⟩ : ∃ k, m = k + 1 := ⟨m - 1, by omega⟩
  rw [Nat.add_sub_cancel] at *
  have hv1 := hY.getD k
  have hh := scale_half _ htop hv1
  rw [← ht] at hh
  have ey : val Y = val (Y.take k) + Y.getD k 0 * 1000000000 ^ k := by
    have : Y.take (k + 1) = Y := List.take_of_length_le (by omega)
    rw [← this, val_take_getD, this]
  have hyk := val_lt (hY.take k)
  rw [List.length_take, Nat.min_eq_left (by omega)] at hyk
  have es : val S = val (S.take k) + S.getD k 0 * 1000000000 ^ k + S.getD (k + 1) 0 * (1000000000 ^ k * 1000000000) := by
    have : S.take (k + 1 + 1) = S := List.take_of_length_le (by omega)
    rw [← this, val_take_getD, val_take_getD, this, Nat.pow_succ]
  have hsk := val_lt (hS.take k)
  rw [List.length_take, Nat.min_eq_left (by omega)] at hsk
  have hs1 := hS.getD k
  -- (v + 1) t <= B
  have h1 : (Y.getD k 0 + 1) * t ≤ 1000000000 := by rw [ht]; exact Nat.mul_div_le _ _
  have h2 : val Y * t < 1000000000 ^ k * 1000000000 := by
    have a1 : val Y * t ≤ ((Y.getD k 0 + 1) * 1000000000 ^ k - 1) * t := Nat.mul_le_mul_right _ (by rw [ey, Nat.add_mul]; omega)
    have hp : 0 < 1000000000 ^ k := Nat.pow_pos (by decide)
    have ht0 : 0 < t := by rcases Nat.eq_zero_or_pos t with h | h; (rw [h] at hh; omega); exact h
    have a2 : ((Y.getD k 0 + 1) * 1000000000 ^ k - 1) * t < ((Y.getD k 0 + 1) * 1000000000 ^ k) * t := Nat.mul_lt_mul_of_pos_right (by
      have : 1 * 1 ≤ (Y.getD k 0 + 1) * 1000000000 ^ k := Nat.mul_le_mul (by omega) hp
      omega) ht0
    have a3 : ((Y.getD k 0 + 1) * 1000000000 ^ k) * t = ((Y.getD k 0 + 1) * t) * 1000000000 ^ k := by grind
    have a4 : ((Y.getD k 0 + 1) * t) * 1000000000 ^ k ≤ 1000000000 * 1000000000 ^ k := Nat.mul_le_mul_right _ h1
    have a5 : 1000000000 * 1000000000 ^ k = 1000000000 ^ k * 1000000000 := Nat.mul_comm ..
    omega
  have h3 : S.getD (k + 1) 0 = 0 := by
    rcases Nat.eq_zero_or_pos (S.getD (k + 1) 0) with h | h
    · exact h
    · have := Nat.mul_le_mul_right (1000000000 ^ k * 1000000000) h
      omega
  refine ⟨h3, ?_, ?_⟩
  · rcases Nat.lt_or_ge (S.getD k 0) (Y.getD k 0 * t) with h | h
    · exfalso
      have b1 : (S.getD k 0 + 1) * 1000000000 ^ k ≤ (Y.getD k 0 * t) * 1000000000 ^ k := Nat.mul_le_mul_right _ h
      have b2 : (Y.getD k 0 * t) * 1000000000 ^ k ≤ val Y * t := by
        rw [ey, Nat.add_mul]
        have : Y.getD k 0 * t * 1000000000 ^ k = Y.getD k 0 * 1000000000 ^ k * t := by grind
        omega
      rw [Nat.add_mul] at b1
      rw [h3] at es
      omega
    · omega
  · rw [val_take_getD, ← hv, es, h3]; omega

/-- What the loop of the long division keeps: the quotient's limbs from k on are found. -/
structure LongInv (s q r : List Nat) (y m k : Nat) : Prop where
  lens : s.length = r.length
  smallq : Small q
  smallr : Small r
  low : r.take k = s.take k
  lt : val ((r.drop k).take m) < y
  eq : val (s.drop k) = val (q.drop k) * y + val ((r.drop k).take m)

theorem LongInv.start {s : List Nat} {y m n : Nat} (hs : Small s) (hl : s.length = n + m) (hlt : val (s.drop n) < y) : LongInv s (List.replicate n 0) s y m n := by
  have e : (s.drop n).take m = s.drop n := List.take_of_length_le (by simp; omega)
  exact ⟨rfl, Small.replicate _, hs, rfl, by rw [e]; exact hlt, by rw [e]; simp [val]⟩

/-- The window at i, and what it is worth. -/
theorem LongInv.window {s q r : List Nat} {y m i : Nat} (h : LongInv s q r y m (i + 1)) (hi : i + m < s.length) :
    ∃ A W C, r = A ++ W ++ C ∧ A.length = i ∧ W.length = m + 1 ∧ Small W ∧ val W = s.getD i 0 + 1000000000 * val ((r.drop (i + 1)).take m) ∧ val W < y * 1000000000 := by
  have hl := h.lens
  have hri : i < r.length := by omega
  have e1 : r.getD i 0 = s.getD i 0 := by
    have := congrArg (fun l => l[i]?) h.low
    simp only [List.getElem?_take_of_lt (Nat.lt_succ_self i)] at this
    simp [List.getD_eq_getElem?_getD, this]
  have e2 : (r.drop i).take (m + 1) = r.getD i 0 :: (r.drop (i + 1)).take m := by
    rw [List.drop_eq_getElem_cons hri, List.take_succ_cons, getD_lt r i hri]
  have h1 := h.lt
  have h2 : s.getD i 0 < 1000000000 := by rw [← e1]; exact h.smallr.getD i
  refine ⟨r.take i, (r.drop i).take (m + 1), (r.drop i).drop (m + 1), ?_, by simp; omega, by simp; omega, (h.smallr.drop _).take _, ?_, ?_⟩
  · rw [List.append_assoc, List.take_append_drop, List.take_append_drop]
  · rw [e2, val_cons, e1]
  · rw [e2, val_cons, e1]; omega

theorem LongInv.step {s q A W W' C : List Nat} {y m i : Nat} (h : LongInv s q (A ++ W ++ C) y m (i + 1)) (hi : i + m < s.length) (hiq : i < q.length) (hA : A.length = i) (hW : W.length = m + 1)
    (hV : val W = s.getD i 0 + 1000000000 * val (((A ++ W ++ C).drop (i + 1)).take m)) (hVy : val W < y * 1000000000)
    (hl : W'.length = m + 1) (hs : Small W') (hw : val (W'.take m) = val W % y) :
    LongInv s (q.set i (val W / y)) (A ++ W' ++ C) y m i := by
  have hlr := h.lens
  have hy : 0 < y := by
    rcases Nat.eq_zero_or_pos y with h0 | h0
    · rw [h0] at hVy; simp at hVy
    · exact h0
  have e1 : (A ++ W' ++ C).drop i = W' ++ C := by rw [List.append_assoc, ← hA, List.drop_left]
  have e2 : (W' ++ C).take m = W'.take m := List.take_append_of_le_length (by omega)
  refine ⟨?_, h.smallq.set _ _ (Nat.div_lt_of_lt_mul hVy), ?_, ?_, ?_, ?_⟩
  · rw [hlr]; simp; omega
  · have h1 := h.smallr
    refine Small.append (Small.append ?_ hs) ?_
    · exact fun z hz => h1 z (by simp [hz])
    · exact fun z hz => h1 z (by simp [hz])
  · have h1 := congrArg (fun l => l.take i) h.low
    simp only [List.take_take, Nat.min_eq_left (Nat.le_succ i)] at h1
    rw [← h1, ← hA, List.append_assoc, List.append_assoc, List.take_left, List.take_left]
  · rw [e1, e2, hw]; exact Nat.mod_lt _ hy
  · rw [e1, e2, hw, val_drop s i (by omega), val_drop (q.set i (val W / y)) i (by simpa using hiq), List.drop_set_of_lt (by omega), getD_lt (q.set i (val W / y)) i (by simpa using hiq), List.getElem_set_self, h.eq]
    have hd := Nat.div_add_mod (val W) y
    generalize val W / y = u at *
    generalize val W % y = v at *
    rw [hV] at hd
    clear hw hV hVy e1 e2 hlr h
    generalize val (((A ++ W ++ C).drop (i + 1)).take m) = z at *
    generalize val (q.drop (i + 1)) = g at *
    generalize s.getD i 0 = a at *
    grind

theorem LongInv.done {s q r : List Nat} {y m : Nat} (h : LongInv s q r y m 0) (hy : 0 < y) : val q = val s / y ∧ val (r.take m) = val s % y := by
  have h1 := h.eq; have h2 := h.lt
  simp only [List.drop_zero] at h1 h2
  rw [h1]
  constructor
  · rw [Nat.mul_comm, Nat.mul_add_div hy, Nat.div_eq_of_lt h2]; omega
  · rw [Nat.mul_comm, Nat.mul_add_mod, Nat.mod_eq_of_lt h2]

/-- The highest limbs of a scaled number are less than the scaled divisor. -/
theorem long_first {X Y S : List Nat} {n m t : Nat} (hX : Small X) (hn : X.length = n) (hm : Y.length = m) (hm1 : 1 ≤ m) (hmn : m ≤ n) (ht : 0 < t) (htop : 1 ≤ Y.getD (m - 1) 0)
    (hS : S.length = n + 1) (hv : val S = val X * t) : val (S.drop (n + 1 - m)) < val Y * t := by
  obtain ⟨k, rfl⟩ : ∃ k, m = k + 1 := ⟨m - 1, by omega⟩
  rw [Nat.add_sub_cancel] at htop
  have h1 := val_split S (n + 1 - (k + 1)) (by omega)
  have h2 := val_lt hX
  rw [hn] at h2
  have ey : val Y = val (Y.take k) + Y.getD k 0 * 1000000000 ^ k := by
    have : Y.take (k + 1) = Y := List.take_of_length_le (by omega)
    rw [← this, val_take_getD, this]
  have h3 : 1000000000 ^ k ≤ val Y := by
    have := Nat.mul_le_mul_right (1000000000 ^ k) htop
    omega
  have h4 : 1000000000 ^ k * t ≤ val Y * t := Nat.mul_le_mul_right _ h3
  have h5 : val X * t < 1000000000 ^ n * t := Nat.mul_lt_mul_of_pos_right h2 ht
  have e : 1000000000 ^ n = 1000000000 ^ (n + 1 - (k + 1)) * 1000000000 ^ k := by rw [← Nat.pow_add]; congr 1; omega
  rw [e] at h5
  have h6 : 1000000000 ^ (n + 1 - (k + 1)) * val (S.drop (n + 1 - (k + 1))) < 1000000000 ^ (n + 1 - (k + 1)) * (1000000000 ^ k * t) := by
    rw [← Nat.mul_assoc]; omega
  have h7 := Nat.lt_of_mul_lt_mul_left h6
  omega

theorem scale_div (x y t : Nat) (ht : 0 < t) : x * t / (y * t) = x / y := Nat.mul_div_mul_right x y ht
theorem scale_mod (x y t : Nat) : x * t % (y * t) = x % y * t := Nat.mul_mod_mul_right t x y

end Go.Proofs.YtipnnmbjkpidoaaGreatDoor
