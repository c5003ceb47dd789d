/-
  What Scan, Strip and Join answer, by the mathematics of tokens.
-/
import Derived.Test.YtmogmneaomndeaaDoorLexMath
import Derived.Test.YtmogmneaomndeaaDoorLexI
import Derived.Test.YtmogmneaomndeaaDoorLexH
set_option linter.unusedSimpArgs false
set_option linter.unusedVariables false
namespace Go.Proofs.YtmogmneaomndeaaDoor
open Go Go.Proofs Go.RowKit

def toTk (t : Int × List UInt8 × Nat) : Tk := ⟨t.1, str t.2.1, (t.2.2 : Int)⟩
theorem hc_drop (s : ByteArray) (a : Nat) : hc ((bytes s).drop a) = cls (byteAt s a) := by
  unfold hc byteAt
  rw [List.getD_eq_getElem?_getD, List.getElem?_drop, List.getD_eq_getElem?_getD, Nat.add_zero]
theorem extract_str (s : ByteArray) {a n : Nat} (h : a + n ≤ s.size) : s.extract a (a + n) = str (((bytes s).drop a).take n) := by
  rw [← extract_mid s h, str_bytes]
theorem tok_sq {s : ByteArray} {a : Nat} (h : a < s.size) : (tokX s a).2 = ter ((bytes s).drop a) ∧ tkT s a = ⟨tkd ((bytes s).drop a), str (((bytes s).drop a).take (tn ((bytes s).drop a))), (a : Int)⟩ := by
  have hh := hc_drop s a
  by_cases hw : cls (byteAt s a) = 3 ∨ cls (byteAt s a) = 4
  · obtain ⟨h1, h2, h3, h4⟩ := tok_word h hw
    have hn : tn ((bytes s).drop a) = wl ((bytes s).drop a) := tn_word (by rw [hh]; exact hw)
    have hb : byteAt (s.extract a (a + wl ((bytes s).drop a))) 0 = byteAt s a := by
      unfold byteAt
      rw [extract_mid s h2, List.getD_eq_getElem?_getD, List.getElem?_take_of_lt (by omega), List.getElem?_drop, List.getD_eq_getElem?_getD, Nat.add_zero]
    refine ⟨?_, ?_⟩
    · rw [h3]
      unfold wdE ter
      rw [hb, hh, extract_size s h2, extract_mid s h2]
      rcases hw with q | q
      · rw [if_neg (show ¬ cls (byteAt s a) = 4 by omega), if_pos q]
      · rw [if_pos q, if_neg (show ¬ cls (byteAt s a) = 3 by omega), if_pos q]
    · rw [h4, hn, extract_str s h2]
      unfold tkd
      rw [hh]
      rcases hw with q | q
      · rw [if_neg (show ¬ cls (byteAt s a) = 4 by omega), if_pos q]
      · rw [if_pos q, if_neg (show ¬ cls (byteAt s a) = 3 by omega), if_pos q]
  · have q3 : cls (byteAt s a) ≠ 3 := by omega
    have q4 : cls (byteAt s a) ≠ 4 := by omega
    obtain ⟨h2, h3, h4⟩ := tok_sign h q3 q4
    have hn : tn ((bytes s).drop a) = sl ((bytes s).drop a) := tn_sign (by rw [hh]; exact q3) (by rw [hh]; exact q4)
    refine ⟨?_, ?_⟩
    · rw [h3]
      unfold ter
      rw [hh, if_neg q3, if_neg q4]
    · rw [h4, hn, extract_str s h2]
      unfold tkd
      rw [hh, if_neg q3, if_neg q4]
theorem sq_scF (s : ByteArray) : ∀ (f a : Nat), a ≤ s.size → scF s f (PA s a) = ((sq f a ((bytes s).drop a)).1.map toTk, (sq f a ((bytes s).drop a)).2)
  | 0, _, _ => rfl
  | f + 1, a, ha => by
    have hpl := pa_le ha
    have hdd : ((bytes s).drop a).drop (skM false ((bytes s).drop a)) = (bytes s).drop (PA s a) := by rw [List.drop_drop]; rfl
    have hpa : a + skM false ((bytes s).drop a) = PA s a := rfl
    by_cases hlt : PA s a < s.size
    · obtain ⟨t1, t2⟩ := tok_sq hlt
      have hne : (bytes s).drop (PA s a) ≠ [] := fun e => by
        have := congrArg List.length e
        rw [List.length_drop, bytes_length] at this
        simp at this; omega
      rw [sq, hdd, hpa, if_neg hne]
      by_cases he : (tokX s (PA s a)).2 = 0
      · rw [scF_ok hlt he, if_pos (by rw [← t1]; exact he)]
        obtain ⟨z1, z2⟩ := tkT_size he hlt
        have hsz : (tkT s (PA s a)).t.size = tn ((bytes s).drop (PA s a)) := by
          rw [t2]
          show (str _).size = _
          rw [str_size, List.length_take]
          have := tn_le ((bytes s).drop (PA s a)); omega
        have ih := sq_scF s f (PA s a + (tkT s (PA s a)).t.size) z2
        rw [nx_pa, ih, hsz, List.drop_drop, t2]
        rfl
      · rw [scF_bad hlt he, if_neg (by rw [← t1]; exact he), ← t1]
        rfl
    · have hz : PA s a = s.size := by omega
      have hnil : (bytes s).drop (PA s a) = [] := List.drop_eq_nil_of_le (by rw [bytes_length]; omega)
      rw [sq, hdd, hpa, if_pos hnil, hz, scF_end (Nat.le_refl _)]
      rfl
/-- What Scan answers for texts that are not too long. -/
def sqR (l : List UInt8) : List (Int × List UInt8 × Nat) × Nat × Nat := sq (l.length + 1) 0 l
theorem scR_sq {s : ByteArray} (h : s.size ≤ 65536) : scR s = if (sqR (bytes s)).2.2 = 0 then ((sqR (bytes s)).1.map toTk, (sqR (bytes s)).2) else ([], (sqR (bytes s)).2) := by
  have e := sq_scF s (s.size + 1) 0 (Nat.zero_le _)
  have hp : PA s 0 = skM false (bytes s) := by unfold PA; rw [List.drop_zero, Nat.zero_add]
  rw [hp, List.drop_zero] at e
  unfold scR sqR
  rw [if_neg (by omega), bytes_length, e]
theorem scR_ok {s : ByteArray} (h : s.size ≤ 65536) (he : (scR s).2.2 = 0) : (sqR (bytes s)).2.2 = 0 ∧ (scR s).1 = (sqR (bytes s)).1.map toTk ∧ (scR s).2.1 = 0 := by
  rw [scR_sq h] at he ⊢
  by_cases q : (sqR (bytes s)).2.2 = 0
  · rw [if_pos q] at he ⊢
    exact ⟨q, rfl, (sq_shift 0 _ 0 (bytes s) (Nat.lt_succ_self _)).2 q⟩
  · rw [if_neg q] at he
    exact absurd he q
theorem scR_bad {s : ByteArray} (h : s.size ≤ 65536) (he : (scR s).2.2 ≠ 0) : (sqR (bytes s)).2.2 ≠ 0 ∧ scR s = ([], (sqR (bytes s)).2) ∧ (scR s).2.1 < s.size := by
  rw [scR_sq h] at he ⊢
  by_cases q : (sqR (bytes s)).2.2 = 0
  · rw [if_pos q] at he
    exact absurd q he
  · rw [if_neg q] at he ⊢
    have := (sq_ends _ 0 (bytes s) (Nat.lt_succ_self _)).2 q
    rw [bytes_length, Nat.zero_add] at this
    exact ⟨q, rfl, this⟩

theorem bytes_idx (s : ByteArray) : Lib.indexB s ⟨#[10]⟩ = Lib.indexByte (bytes s) 10 := by
  show Lib.index (bytes s) [10] = _; exact Lib.index_one _ _
theorem splitB_lns : ∀ (k : Nat) (s : ByteArray), (bytes s).count 10 = k → (Lib.splitB ⟨#[10]⟩ 0 k s).map bytes = lns (bytes s)
  | k, s, h => by
    rcases indexByte_cases (bytes s) 10 with ⟨hi, hm⟩ | ⟨i, hi, hlt, he, hm⟩
    · rw [Lib.splitB_miss _ _ _ _ (by rw [bytes_idx]; exact hi), lns_miss hm]; rfl
    · have hmem : 10 ∈ bytes s := by rw [he]; simp
      have hk : 0 < k := by rw [← h]; exact List.count_pos_iff.2 hmem
      obtain ⟨k, rfl⟩ : ∃ j, k = j + 1 := ⟨k - 1, by omega⟩
      have hi2 : i < s.size := hlt
      rw [Lib.splitB_hit _ _ _ _ i (by rw [bytes_idx]; exact hi)]
      have e1 : bytes (s.extract 0 (i + 0)) = (bytes s).take i := by rw [Nat.add_zero, extract_take, bytes_str]
      have e2 : bytes (s.extract (i + (⟨#[10]⟩ : ByteArray).size) s.size) = (bytes s).drop (i + 1) := by
        show bytes (s.extract (i + 1) s.size) = _
        rw [extract_drop, bytes_str]
      have hc2 : ((bytes s).drop (i + 1)).count 10 = k := by
        rw [he, List.count_append, List.count_cons_self, List.count_eq_zero.2 hm] at h
        omega
      rw [List.map_cons, e1, splitB_lns k _ (by rw [e2]; exact hc2), e2]
      conv => rhs; rw [he]
      rw [lns_hit _ hm]
theorem countB_bytes (s : ByteArray) (c : UInt8) : Lib.countB s ⟨#[c]⟩ = (bytes s).count c := by
  show Lib.count (bytes s) [c] = _; exact Lib.count_one c _
theorem lnB_lns (s : ByteArray) : (lnB s).map bytes = lns (bytes s) := by
  unfold lnB
  rw [countB_bytes]
  exact splitB_lns _ s rfl
theorem join_jl : ∀ ls : List (List UInt8), Lib.join ls [10] = jl ls
  | [] => rfl
  | [x] => Lib.join_one x [10]
  | x :: y :: r => by
    have ih := join_jl (y :: r)
    rw [Lib.join_cons] at ih ⊢
    show x ++ (([10] ++ y) ++ Lib.joinTail [10] r) = x ++ 10 :: jl (y :: r)
    rw [← ih]
    simp
theorem strip_bytes (s : ByteArray) : Lib.join ((plB (lnB s)).map (·.data.toList)) [10] = stB false (bytes s) := by
  have e : (plB (lnB s)).map (·.data.toList) = (lns (bytes s)).map (upTo 35) := by
    rw [← lnB_lns]
    unfold plB
    rw [List.map_map, List.map_map]
    refine List.map_congr_left fun x _ => ?_
    show bytes (str (upTo 35 (bytes x))) = upTo 35 (bytes x)
    rw [bytes_str]
  rw [e, join_jl, ← lnP_map, jl_st]
theorem stripR_st {s : ByteArray} (h : s.size ≤ 65536) : stripR s = (str (stB false (bytes s)), 0) := by
  unfold stripR
  rw [if_neg (by omega), strip_bytes]

theorem jn_jt : ∀ (l : List Tk) (p : Option (List UInt8)) (o : List UInt8), jnT p o l = if l = [] ∨ (o ++ jt p (l.map (fun t => bytes t.t))).length ≤ 65536 then some (o ++ jt p (l.map (fun t => bytes t.t))) else none
  | [], p, o => by
    rw [if_pos (.inl rfl)]
    show some o = some (o ++ [])
    rw [List.append_nil]
  | t :: r, p, o => by
    have e : outS p o (bytes t.t) ++ bytes t.t ++ jt (some (bytes t.t)) (r.map (fun t => bytes t.t)) = o ++ jt p ((t :: r).map (fun t => bytes t.t)) := by
      show _ = o ++ (sepT p (bytes t.t) ++ (bytes t.t ++ _))
      unfold outS sepT
      cases p with
      | none => simp
      | some q => dsimp only; split <;> simp
    have hj : jnT p o (t :: r) = if 65536 < (outS p o (bytes t.t) ++ bytes t.t).length then none else jnT (some (bytes t.t)) (outS p o (bytes t.t) ++ bytes t.t) r := rfl
    rw [hj, jn_jt r, e]
    have hlen : (outS p o (bytes t.t) ++ bytes t.t).length ≤ (o ++ jt p ((t :: r).map (fun t => bytes t.t))).length := by
      rw [← e]
      generalize outS p o (bytes t.t) ++ bytes t.t = Y
      rw [List.length_append]; omega
    have hnil : r = [] → (o ++ jt p ((t :: r).map (fun t => bytes t.t))) = outS p o (bytes t.t) ++ bytes t.t := fun q => by
      rw [← e, q]
      show _ ++ [] = _
      rw [List.append_nil]
    generalize o ++ jt p ((t :: r).map (fun t => bytes t.t)) = X at *
    generalize outS p o (bytes t.t) ++ bytes t.t = Y at *
    by_cases h1 : X.length ≤ 65536
    · rw [if_neg (by omega), if_pos (.inr h1), if_pos (.inr h1)]
    · by_cases h2 : 65536 < Y.length
      · rw [if_pos h2, if_neg]
        rintro (q | q)
        · cases q
        · exact h1 q
      · rw [if_neg h2, if_neg, if_neg]
        · rintro (q | q)
          · cases q
          · exact h1 q
        · rintro (q | q)
          · rw [hnil q] at h1; omega
          · exact h1 q
theorem itB_ok (x : List UInt8) (h : okX x) : itB (tkd x) x = true := by
  unfold itB
  rcases tkd_in x with e | e | e
  · rw [e, if_pos rfl]; exact word_ok.2 ⟨h, e⟩
  · rw [e, if_neg (by decide), if_pos rfl, decide_eq_true_iff]; exact num_ok.2 ⟨h, e⟩
  · rw [e, if_neg (by decide), if_neg (by decide), if_pos rfl, Bool.and_eq_true, decide_eq_true_iff, decide_eq_true_iff]; exact sign_ok.2 ⟨h, e⟩
theorem itB_tok {k : Int} {x : List UInt8} (h0 : 0 ≤ k) (h2 : k ≤ 2) (h : itB k x = true) : okX x ∧ tkd x = k := by
  unfold itB at h
  by_cases k0 : k = 0
  · rw [if_pos k0] at h; rw [k0]; exact word_ok.1 h
  · rw [if_neg k0] at h
    by_cases k1 : k = 1
    · rw [if_pos k1, decide_eq_true_iff] at h; rw [k1]; exact num_ok.1 h
    · have k2 : k = 2 := by omega
      rw [if_neg k1, if_pos k2, Bool.and_eq_true, decide_eq_true_iff, decide_eq_true_iff] at h
      rw [k2]; exact sign_ok.1 h
/-- The tokens of a text can be joined. -/
theorem ckL_ok (e : Int) : ∀ V : List Tk, (∀ t ∈ V, okX (bytes t.t) ∧ t.k = tkd (bytes t.t)) → ckL (V ++ [(⟨3, ⟨#[]⟩, e⟩ : Tk)]) = 0
  | [], _ => by
    show (if ckE 3 (bytes ⟨#[]⟩) true = 0 then 0 else ckE 3 (bytes ⟨#[]⟩) true) = 0
    have : ckE 3 (bytes ⟨#[]⟩) true = 0 := by decide
    rw [if_pos this]
  | t :: V, h => by
    obtain ⟨h1, h2⟩ := h t (by simp)
    have hk := tkd_in (bytes t.t)
    have e0 : ckE t.k (bytes t.t) (V ++ [(⟨3, ⟨#[]⟩, e⟩ : Tk)]).isEmpty = 0 := by
      unfold ckE
      rw [if_neg (by rw [h2]; omega), if_pos (by rw [h2]; exact itB_ok _ h1)]
    show (if ckE t.k (bytes t.t) (V ++ [(⟨3, ⟨#[]⟩, e⟩ : Tk)]).isEmpty = 0 then ckL (V ++ [(⟨3, ⟨#[]⟩, e⟩ : Tk)]) else _) = 0
    rw [if_pos e0]
    exact ckL_ok e V fun t ht => h t (by simp [ht])
theorem joinR_ok (e : Int) (V : List Tk) (h : ∀ t ∈ V, okX (bytes t.t) ∧ t.k = tkd (bytes t.t)) (hl : (jt none (V.map (fun t => bytes t.t) ++ [[]])).length ≤ 65536) :
    joinR (V ++ [(⟨3, ⟨#[]⟩, e⟩ : Tk)]) = (str (jt none (V.map (fun t => bytes t.t) ++ [[]])), 0) := by
  have hm : (V ++ [(⟨3, ⟨#[]⟩, e⟩ : Tk)]).map (fun t => bytes t.t) = V.map (fun t => bytes t.t) ++ [[]] := by rw [List.map_append]; rfl
  unfold joinR
  rw [List.getLast?_concat]
  dsimp only
  rw [if_pos rfl, if_pos (ckL_ok e V h), jn_jt, hm, List.nil_append, if_pos (.inr hl)]
end Go.Proofs.YtmogmneaomndeaaDoor
