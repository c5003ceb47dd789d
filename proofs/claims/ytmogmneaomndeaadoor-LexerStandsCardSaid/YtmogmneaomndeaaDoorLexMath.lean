/-
  Mathematics of tokens: texts, tokens behind each other, comments, lines, joined texts.
-/
import Derived.Test.YtmogmneaomndeaaDoorLexO
set_option linter.unusedVariables false
namespace Go.Proofs.YtmogmneaomndeaaDoor
open Go Go.Proofs Go.RowKit

/-- The class of the first byte. -/
def hc (l : List UInt8) : Nat := cls (l.getD 0 0).toNat
theorem hc_cons (c : UInt8) (l : List UInt8) : hc (c :: l) = cls c.toNat := rfl
theorem wl_cons (c : UInt8) (l : List UInt8) : wl (c :: l) = if wdB c.toNat = true then 1 + wl l else 0 := by
  unfold wl
  rw [List.takeWhile_cons]
  split
  · simp; omega
  · rfl
theorem wl_stop {c : UInt8} (hcw : wdB c.toNat = false) (m : List UInt8) : ∀ l, wl (l ++ c :: m) = wl l
  | [] => by rw [List.nil_append, wl_cons, hcw]; rfl
  | d :: l => by rw [List.cons_append, wl_cons, wl_cons, wl_stop hcw m l]
/-- A word of a length is followed by no byte of a word. -/
theorem wl_eq_len : ∀ (x z : List UInt8), wl (x ++ z) = x.length ↔ (∀ b ∈ x, wdB b.toNat = true) ∧ (wl z = 0)
  | [], z => by simp
  | c :: x, z => by
    rw [List.cons_append, wl_cons]
    have ih := wl_eq_len x z
    cases h : wdB c.toNat
    · simp [h]
    · simp only [if_true, List.length_cons, List.mem_cons, forall_eq_or_imp, h, true_and]
      rw [← ih]; omega
theorem wl_zero_app {y : List UInt8} (hy : y ≠ []) (r : List UInt8) : wl (y ++ r) = 0 ↔ wl y = 0 := by
  cases y with
  | nil => exact absurd rfl hy
  | cons c y =>
    rw [List.cons_append, wl_cons, wl_cons]
    split <;> simp
theorem wl_word_app {x y : List UInt8} (hy : y ≠ []) (r : List UInt8) : wl (x ++ (y ++ r)) = x.length ↔ wl (x ++ y) = x.length := by
  rw [wl_eq_len, wl_eq_len, wl_zero_app hy]
theorem lsB_ne {c d : UInt8} (h : d ≠ 61) : lsB [c, d] = false := by
  unfold lsB
  simp [h]
theorem sl_stop {c : UInt8} (h : c ≠ 61) (m : List UInt8) : ∀ {l : List UInt8}, l ≠ [] → sl (l ++ c :: m) = sl l
  | [], h => absurd rfl h
  | [x], _ => by
    unfold sl
    have : ([x] ++ c :: m).take 2 = [x, c] := rfl
    rw [this, lsB_ne h]
    simp
  | x :: y :: r, _ => by
    unfold sl
    simp
theorem sl_two {x y : List UInt8} (hx : x ≠ []) (hy : y ≠ []) (r : List UInt8) : sl (x ++ (y ++ r)) = sl (x ++ y) := by
  obtain ⟨a, x, rfl⟩ := List.exists_cons_of_ne_nil hx
  obtain ⟨b, y, rfl⟩ := List.exists_cons_of_ne_nil hy
  cases x with
  | nil => unfold sl; simp
  | cons c x => unfold sl; simp
theorem cls_sign2 {l : List UInt8} (h : lsB (l.take 2) = true) : hc l ≠ 3 ∧ hc l ≠ 4 ∧ hc l ≠ 1 ∧ hc l ≠ 2 := by
  cases l with
  | nil => exact absurd h (by decide)
  | cons c l =>
    rw [hc_cons]
    cases l with
    | nil => simp [lsB] at h
    | cons d l =>
      have : c = 58 ∨ c = 33 ∨ c = 60 ∨ c = 62 := by
        simp [lsB] at h
        rcases h with ((h | h) | h) | h <;> simp [h]
      rcases this with rfl | rfl | rfl | rfl <;> decide +kernel
/-- Words have no signs, signs no words. -/
theorem sl_word {l : List UInt8} (h : hc l = 3 ∨ hc l = 4) : sl l = 0 := by
  unfold sl
  split
  · rename_i hs
    have := cls_sign2 hs.2
    omega
  · split
    · rename_i h5
      have : hc l = 5 := h5.2
      omega
    · rfl
theorem wl_sign {l : List UInt8} (h3 : hc l ≠ 3) (h4 : hc l ≠ 4) : wl l = 0 := by
  cases l with
  | nil => rfl
  | cons c l =>
    rw [hc_cons] at h3 h4
    rw [wl_cons]
    unfold wdB
    rw [decide_eq_false h3, decide_eq_false h4]
    rfl
theorem wl_pos1 {l : List UInt8} (hl : l ≠ []) (h : hc l = 3 ∨ hc l = 4) : 0 < wl l := by
  obtain ⟨c, l, rfl⟩ := List.exists_cons_of_ne_nil hl
  rw [hc_cons] at h
  rw [wl_cons]
  unfold wdB
  rcases h with h | h <;> rw [h] <;> simp <;> omega
/-- The kind, the length and the error of the token at the beginning. -/
def tkd (l : List UInt8) : Int := if hc l = 3 then 0 else if hc l = 4 then 1 else 2
def tn (l : List UInt8) : Nat := max (wl l) (sl l)
def ter (l : List UInt8) : Nat := if hc l = 3 then (if 24 < wl l then 8 else 0) else if hc l = 4 then numErr (l.take (wl l)) else if sl l = 0 then 4 else 0
theorem tn_word {l : List UInt8} (h : hc l = 3 ∨ hc l = 4) : tn l = wl l := by unfold tn; rw [sl_word h]; omega
theorem tn_sign {l : List UInt8} (h3 : hc l ≠ 3) (h4 : hc l ≠ 4) : tn l = sl l := by unfold tn; rw [wl_sign h3 h4]; omega
theorem tn_le (l : List UInt8) : tn l ≤ l.length := by
  have := wl_le l; have := sl_le l; unfold tn; omega
theorem tn_pos {l : List UInt8} (hl : l ≠ []) (h : ter l = 0) : 0 < tn l := by
  unfold ter at h
  by_cases h3 : hc l = 3
  · have := wl_pos1 hl (.inl h3); unfold tn; omega
  · rw [if_neg h3] at h
    by_cases h4 : hc l = 4
    · have := wl_pos1 hl (.inr h4); unfold tn; omega
    · rw [if_neg h4] at h
      unfold tn
      split at h
      · cases h
      · omega
theorem ap_tn (x y : List UInt8) : apB x y = decide (tn (x ++ y) = x.length) := rfl
theorem hc_app {x : List UInt8} (hx : x ≠ []) (y : List UInt8) : hc (x ++ y) = hc x := by
  obtain ⟨c, x, rfl⟩ := List.exists_cons_of_ne_nil hx
  rfl
theorem tn_app {x y : List UInt8} (hx : x ≠ []) (hy : y ≠ []) (r : List UInt8) : tn (x ++ (y ++ r)) = x.length ↔ tn (x ++ y) = x.length := by
  unfold tn
  have h1 := wl_word_app (x := x) hy r
  rw [sl_two hx hy r]
  have e : ∀ z, hc (x ++ z) = hc x := fun z => hc_app hx z
  by_cases hw : hc x = 3 ∨ hc x = 4
  · rw [sl_word (by rw [e]; exact hw)]
    omega
  · rw [wl_sign (by rw [e]; omega) (by rw [e]; omega), wl_sign (by rw [e]; omega) (by rw [e]; omega)]
/-- Behind a token there may be a byte that belongs to none. -/
theorem tn_alone {x z : List UInt8} (hx : x ≠ []) (h : tn (x ++ z) = x.length) : tn x = x.length := by
  by_cases hw : hc x = 3 ∨ hc x = 4
  · rw [tn_word (by rw [hc_app hx]; exact hw)] at h
    rw [tn_word hw]
    have := (wl_eq_len x z).1 h
    have h2 := (wl_eq_len x []).2 ⟨this.1, rfl⟩
    rwa [List.append_nil] at h2
  · rw [tn_sign (by rw [hc_app hx]; omega) (by rw [hc_app hx]; omega)] at h
    rw [tn_sign (by omega) (by omega)]
    obtain ⟨a, x, rfl⟩ := List.exists_cons_of_ne_nil hx
    cases x with
    | nil =>
      have h5 : cls a.toNat = 5 := by
        unfold sl at h
        split at h
        · simp at h
        · split at h
          · rename_i h5; exact h5.2
          · simp at h
      unfold sl
      rw [if_neg (by simp), if_pos ⟨by simp, h5⟩]
      rfl
    | cons b x =>
      have hle : sl (a :: b :: x ++ z) ≤ 2 := by
        unfold sl
        split
        · omega
        · split <;> omega
      have hx0 : x = [] := by
        cases x with
        | nil => rfl
        | cons c x => rw [h] at hle; simp at hle
      subst hx0
      unfold sl at h ⊢
      simpa using h
theorem tn_stop {x : List UInt8} (hx : x ≠ []) (h : tn x = x.length) {c : UInt8} (hw : wdB c.toNat = false) (h61 : c ≠ 61) (m : List UInt8) : tn (x ++ c :: m) = x.length := by
  unfold tn at *
  rw [wl_stop hw, sl_stop h61 m hx]
  exact h
theorem ter_app {x z : List UInt8} (hx : x ≠ []) (h : tn (x ++ z) = x.length) : ter (x ++ z) = ter x ∧ tkd (x ++ z) = tkd x := by
  have h0 := tn_alone hx h
  refine ⟨?_, by unfold tkd; rw [hc_app hx]⟩
  unfold ter
  rw [hc_app hx]
  by_cases h3 : hc x = 3
  · rw [if_pos h3, if_pos h3]
    rw [tn_word (by rw [hc_app hx]; exact .inl h3)] at h
    rw [tn_word (.inl h3)] at h0
    rw [h, h0]
  · rw [if_neg h3, if_neg h3]
    by_cases h4 : hc x = 4
    · rw [if_pos h4, if_pos h4]
      rw [tn_word (by rw [hc_app hx]; exact .inr h4)] at h
      rw [tn_word (.inr h4)] at h0
      rw [h, h0, List.take_append_of_le_length (Nat.le_refl _)]
    · rw [if_neg h4, if_neg h4]
      rw [tn_sign (by rw [hc_app hx]; exact h3) (by rw [hc_app hx]; exact h4)] at h
      rw [tn_sign h3 h4] at h0
      rw [h, h0]
/-- The token at the beginning, alone. -/
theorem tn_take {l : List UInt8} (hl : l ≠ []) (h : ter l = 0) : tn (l.take (tn l)) = (l.take (tn l)).length ∧ l.take (tn l) ≠ [] ∧ ter (l.take (tn l)) = 0 ∧ tkd (l.take (tn l)) = tkd l := by
  have hp := tn_pos hl h
  have hle := tn_le l
  have hlen : (l.take (tn l)).length = tn l := by rw [List.length_take]; omega
  have hne : l.take (tn l) ≠ [] := fun e => by rw [e] at hlen; simp at hlen; omega
  have e : l.take (tn l) ++ l.drop (tn l) = l := List.take_append_drop _ _
  have h1 : tn (l.take (tn l) ++ l.drop (tn l)) = (l.take (tn l)).length := by rw [e, hlen]
  obtain ⟨h2, h3⟩ := ter_app hne h1
  rw [e] at h2 h3
  exact ⟨tn_alone hne h1, hne, by rw [← h2]; exact h, h3.symm⟩
/-- Blanks and comments in front of a line feed. -/
theorem skF (c : UInt8) (l : List UInt8) : skM false (c :: l) = if cls c.toNat = 1 then 1 + skM false l else if cls c.toNat = 2 then 1 + skM true l else 0 := by rw [skM]
theorem skT (c : UInt8) (l : List UInt8) : skM true (c :: l) = if c = 10 then 1 + skM false l else 1 + skM true l := by rw [skM]
theorem skN (b : Bool) : skM b [] = 0 := by cases b <;> rfl
theorem sk_app : ∀ (b : Bool) (l m : List UInt8), skM b (l ++ 10 :: m) = if skM b l < l.length then skM b l else l.length + 1 + skM false m
  | false, [], m => by
    rw [List.nil_append, skF, if_pos cls10, skN]; simp
  | true, [], m => by
    rw [List.nil_append, skT, if_pos rfl, skN]; simp
  | false, c :: l, m => by
    rw [List.cons_append, skF, skF]
    have h1 := sk_app false l m; have h2 := sk_app true l m
    by_cases c1 : cls c.toNat = 1
    · rw [if_pos c1, if_pos c1, h1, List.length_cons]
      split <;> split <;> omega
    · rw [if_neg c1, if_neg c1]
      by_cases c2 : cls c.toNat = 2
      · rw [if_pos c2, if_pos c2, h2, List.length_cons]
        split <;> split <;> omega
      · rw [if_neg c2, if_neg c2]
        simp
  | true, c :: l, m => by
    rw [List.cons_append, skT, skT]
    have h1 := sk_app false l m; have h2 := sk_app true l m
    by_cases c1 : c = 10
    · rw [if_pos c1, if_pos c1, h1, List.length_cons]
      split <;> split <;> omega
    · rw [if_neg c1, if_neg c1, h2, List.length_cons]
      split <;> split <;> omega
/-- What is skipped, and what is left. -/
theorem sk_zero : ∀ (b : Bool) (l : List UInt8), skM false (l.drop (skM b l)) = 0
  | _, [] => by simp [skM]
  | false, c :: l => by
    have h1 := sk_zero false l; have h2 := sk_zero true l
    by_cases c1 : cls c.toNat = 1
    · rw [show skM false (c :: l) = 1 + skM false l by rw [skM, if_pos c1], Nat.add_comm, List.drop_succ_cons]; exact h1
    · by_cases c2 : cls c.toNat = 2
      · rw [show skM false (c :: l) = 1 + skM true l by rw [skM, if_neg c1, if_pos c2], Nat.add_comm, List.drop_succ_cons]; exact h2
      · have e : skM false (c :: l) = 0 := by rw [skM, if_neg c1, if_neg c2]
        rw [e, List.drop_zero, e]
  | true, c :: l => by
    have h1 := sk_zero false l; have h2 := sk_zero true l
    by_cases c1 : c = 10
    · rw [show skM true (c :: l) = 1 + skM false l by rw [skM, if_pos c1], Nat.add_comm, List.drop_succ_cons]; exact h1
    · rw [show skM true (c :: l) = 1 + skM true l by rw [skM, if_neg c1], Nat.add_comm, List.drop_succ_cons]; exact h2
theorem sk_hc {l : List UInt8} (h : skM false l = 0) (hl : l ≠ []) : hc l ≠ 1 ∧ hc l ≠ 2 := by
  obtain ⟨c, l, rfl⟩ := List.exists_cons_of_ne_nil hl
  rw [hc_cons]
  rw [skF] at h
  constructor
  · intro c1; rw [if_pos c1] at h; omega
  · intro c2; rw [if_neg (by omega), if_pos c2] at h; omega
theorem sk_none {l : List UInt8} (h1 : hc l ≠ 1) (h2 : hc l ≠ 2) : skM false l = 0 := by
  cases l with
  | nil => rfl
  | cons c l => rw [hc_cons] at h1 h2; rw [skM, if_neg h1, if_neg h2]
theorem tok_hc {x : List UInt8} (hx : x ≠ []) (h : ter x = 0) : hc x ≠ 1 ∧ hc x ≠ 2 := by
  unfold ter at h
  by_cases h3 : hc x = 3
  · omega
  · rw [if_neg h3] at h
    by_cases h4 : hc x = 4
    · omega
    · rw [if_neg h4] at h
      split at h
      · cases h
      · rename_i hs
        unfold sl at hs
        split at hs
        · rename_i hs2
          have := cls_sign2 hs2.2
          omega
        · split at hs
          · rename_i h5
            have : hc x = 5 := h5.2
            omega
          · exact absurd rfl hs

/-- The tokens of a text whose first byte has an offset, the offset of the error, the error. -/
def sq : Nat → Nat → List UInt8 → List (Int × List UInt8 × Nat) × Nat × Nat
  | 0, _, _ => ([], 0, 0)
  | f + 1, a, l =>
    if l.drop (skM false l) = [] then ([(3, [], a + skM false l)], 0, 0)
    else if ter (l.drop (skM false l)) = 0 then
      ((tkd (l.drop (skM false l)), (l.drop (skM false l)).take (tn (l.drop (skM false l))), a + skM false l) :: (sq f (a + skM false l + tn (l.drop (skM false l))) ((l.drop (skM false l)).drop (tn (l.drop (skM false l))))).1,
        (sq f (a + skM false l + tn (l.drop (skM false l))) ((l.drop (skM false l)).drop (tn (l.drop (skM false l))))).2)
    else ([], a + skM false l, ter (l.drop (skM false l)))
/-- How a text begins. -/
theorem sq_cases (f a : Nat) (l : List UInt8) : (l.drop (skM false l) = [] ∧ skM false l = l.length ∧ sq (f + 1) a l = ([(3, [], a + l.length)], 0, 0)) ∨
    (∃ k m, skM false l = k ∧ l.drop k = m ∧ m ≠ [] ∧ k + m.length = l.length ∧ skM false m = 0 ∧ ter m ≠ 0 ∧ sq (f + 1) a l = ([], a + k, ter m)) ∨
    (∃ k x z, skM false l = k ∧ l.drop k = x ++ z ∧ x ≠ [] ∧ k + x.length + z.length = l.length ∧ skM false (x ++ z) = 0 ∧ tn (x ++ z) = x.length ∧ ter (x ++ z) = 0 ∧ ter x = 0 ∧ tn x = x.length ∧
      sq (f + 1) a l = ((tkd x, x, a + k) :: (sq f (a + k + x.length) z).1, (sq f (a + k + x.length) z).2)) := by
  have hz := sk_zero false l
  have hle := skM_le false l
  by_cases h : l.drop (skM false l) = []
  · have e : skM false l = l.length := by have := List.drop_eq_nil_iff.1 h; omega
    refine .inl ⟨h, e, ?_⟩
    rw [sq, if_pos h, e]
  · obtain ⟨k, hk⟩ : ∃ k, skM false l = k := ⟨_, rfl⟩
    rw [hk] at h hz hle
    obtain ⟨m, hm⟩ : ∃ m, l.drop k = m := ⟨_, rfl⟩
    rw [hm] at h hz
    have hlen : k + m.length = l.length := by rw [← hm, List.length_drop]; omega
    by_cases he : ter m = 0
    · obtain ⟨t1, t2, t3, t4⟩ := tn_take h he
      have tl := tn_le m
      have hx : (m.take (tn m)).length = tn m := by rw [List.length_take]; omega
      have hs : m.take (tn m) ++ m.drop (tn m) = m := List.take_append_drop _ _
      refine .inr (.inr ⟨k, m.take (tn m), m.drop (tn m), hk, by rw [hm, hs], t2, ?_, by rw [hs]; exact hz, by rw [hs, hx], by rw [hs]; exact he, t3, t1, ?_⟩)
      · rw [hx, List.length_drop]; omega
      · rw [sq, hk, hm, if_neg h, if_pos he, hx, t4]
    · refine .inr (.inl ⟨k, m, hk, hm, h, hlen, hz, he, ?_⟩)
      rw [sq, hk, hm, if_neg h, if_neg he]
theorem sq_fuel : ∀ (f g a : Nat) (l : List UInt8), l.length < f → l.length < g → sq f a l = sq g a l
  | 0, _, _, l, h, _ => by omega
  | f + 1, 0, _, l, _, h => by omega
  | f + 1, g + 1, a, l, h1, h2 => by
    rcases sq_cases f a l with ⟨h, -, e⟩ | ⟨k, m, hk, hm, hne, hl, -, he, e⟩ | ⟨k, x, z, hk, hm, hx, hl, -, ht, he, -, -, e⟩
    · rw [e]
      rw [sq, if_pos h]
      have : skM false l = l.length := by have := List.drop_eq_nil_iff.1 h; have := skM_le false l; omega
      rw [this]
    · rw [e, sq, hk, hm, if_neg hne, if_neg he]
    · have hp : 0 < x.length := List.length_pos_iff.2 hx
      have hne : x ++ z ≠ [] := fun q => hx (List.append_eq_nil_iff.1 q).1
      have htk : tkd (x ++ z) = tkd x := (ter_app hx ht).2
      rw [e, sq, hk, hm, if_neg hne, if_pos he, ht, htk, List.take_left' rfl, List.drop_left' rfl, sq_fuel f g (a + k + x.length) z (by omega) (by omega)]
/-- Offsets may be moved. -/
theorem sq_shift (d : Nat) : ∀ (f a : Nat) (l : List UInt8), l.length < f → sq f (a + d) l = ((sq f a l).1.map (fun t => (t.1, t.2.1, t.2.2 + d)), (if (sq f a l).2.2 = 0 then 0 else (sq f a l).2.1 + d), (sq f a l).2.2) ∧ ((sq f a l).2.2 = 0 → (sq f a l).2.1 = 0)
  | 0, _, _, h => by omega
  | f + 1, a, l, h => by
    rcases sq_cases f a l with ⟨h0, h1, e⟩ | ⟨k, m, hk, hm, hne, hl, -, he, e⟩ | ⟨k, x, z, hk, hm, hx, hl, -, ht, he, -, -, e⟩
    · rw [e, sq, if_pos h0, h1]
      refine ⟨?_, fun _ => rfl⟩
      simp; omega
    · rw [e, sq, hk, hm, if_neg hne, if_neg he]
      refine ⟨?_, fun q => absurd q he⟩
      simp only [if_neg he, List.map_nil]
      rw [show a + d + k = a + k + d by omega]
    · have hp : 0 < x.length := List.length_pos_iff.2 hx
      have hne : x ++ z ≠ [] := fun q => hx (List.append_eq_nil_iff.1 q).1
      have htk : tkd (x ++ z) = tkd x := (ter_app hx ht).2
      obtain ⟨i1, i2⟩ := sq_shift d f (a + k + x.length) z (by omega)
      rw [e, sq, hk, hm, if_neg hne, if_pos he, ht, htk, List.take_left' rfl, List.drop_left' rfl]
      rw [show a + d + k + x.length = a + k + x.length + d by omega, i1]
      refine ⟨?_, i2⟩
      simp only [List.map_cons]
      rw [show a + d + k = a + k + d by omega]
theorem sq_ends : ∀ (f a : Nat) (l : List UInt8), l.length < f → ((sq f a l).2.2 = 0 → (sq f a l).1 ≠ []) ∧ ((sq f a l).2.2 ≠ 0 → (sq f a l).2.1 < a + l.length)
  | 0, _, _, h => by omega
  | f + 1, a, l, h => by
    rcases sq_cases f a l with ⟨h0, h1, e⟩ | ⟨k, m, hk, hm, hne, hl, -, he, e⟩ | ⟨k, x, z, hk, hm, hx, hl, -, ht, he, -, -, e⟩
    · rw [e]; exact ⟨fun _ => by simp, fun q => absurd rfl q⟩
    · rw [e]
      have : 0 < m.length := List.length_pos_iff.2 hne
      exact ⟨fun q => absurd q he, fun _ => by show a + k < _; omega⟩
    · have hp : 0 < x.length := List.length_pos_iff.2 hx
      obtain ⟨i1, i2⟩ := sq_ends f (a + k + x.length) z (by omega)
      rw [e]
      exact ⟨fun _ => by simp, fun q => by have := i2 q; show (sq f (a + k + x.length) z).2.1 < _; omega⟩
/-- Two texts with a line feed between them. -/
theorem sq_line (m : List UInt8) : ∀ (f g a : Nat) (l : List UInt8), l.length < f → l.length + 1 + m.length < g →
    sq g a (l ++ 10 :: m) = if (sq f a l).2.2 = 0 then ((sq f a l).1.dropLast ++ (sq g (a + l.length + 1) m).1, (sq g (a + l.length + 1) m).2) else sq f a l
  | 0, _, _, _, h, _ => by omega
  | f + 1, 0, _, _, _, h => by omega
  | f + 1, g + 1, a, l, h1, h2 => by
    have hap := sk_app false l m
    rcases sq_cases f a l with ⟨h0, h3, e⟩ | ⟨k, y, hk, hm, hne, hl, -, he, e⟩ | ⟨k, x, z, hk, hm, hx, hl, -, ht, he, hex, htx, e⟩
    · rw [e, if_pos rfl]
      rw [h3, if_neg (by omega)] at hap
      have hd : (l ++ 10 :: m).drop (l.length + 1 + skM false m) = m.drop (skM false m) := by
        rw [List.drop_append, List.drop_eq_nil_of_le (by omega)]
        rw [show l.length + 1 + skM false m - l.length = skM false m + 1 by omega, List.drop_succ_cons]
        rfl
      show _ = ([] ++ _, _)
      rw [List.nil_append]
      show sq (g + 1) a (l ++ 10 :: m) = sq (g + 1) (a + l.length + 1) m
      rw [sq, sq, hap, hd]
      rw [show a + (l.length + 1 + skM false m) = a + l.length + 1 + skM false m by omega]
    · rw [e, if_neg he]
      have hmp : 0 < y.length := List.length_pos_iff.2 hne
      rw [hk, if_pos (by omega)] at hap
      have hd : (l ++ 10 :: m).drop k = y ++ 10 :: m := by rw [List.drop_append_of_le_length (by omega), hm]
      have hte : ter (y ++ 10 :: m) = ter y := by
        unfold ter
        rw [hc_app hne, wl_stop (by decide +kernel), sl_stop (by decide) m hne, List.take_append_of_le_length (wl_le y)]
      rw [sq, hap, hd, if_neg (by simp), hte, if_neg he]
    · have hp : 0 < x.length := List.length_pos_iff.2 hx
      rw [hk, if_pos (by omega)] at hap
      have hd : (l ++ 10 :: m).drop k = x ++ (z ++ 10 :: m) := by rw [List.drop_append_of_le_length (by omega), hm, List.append_assoc]
      have hne : x ++ (z ++ 10 :: m) ≠ [] := fun q => hx (List.append_eq_nil_iff.1 q).1
      have htn : tn (x ++ (z ++ 10 :: m)) = x.length := by
        rw [← List.append_assoc]
        have := hc_app (x := x) hx z
        unfold tn at ht ⊢
        rw [wl_stop (by decide +kernel), sl_stop (by decide) m (fun q => hx (List.append_eq_nil_iff.1 q).1)]
        exact ht
      obtain ⟨g1, g2⟩ := ter_app hx htn
      have ih := sq_line m f g (a + k + x.length) z (by omega) (by omega)
      rw [sq, hap, hd, if_neg hne, g1, if_pos hex, htn, g2, List.take_left' rfl, List.drop_left' rfl, ih, e]
      dsimp only
      have hfm := sq_fuel (g + 1) g (a + l.length + 1) m (by omega) (by omega)
      have hend := (sq_ends f (a + k + x.length) z (by omega)).1
      have hq : a + k + x.length + z.length + 1 = a + l.length + 1 := by omega
      split
      · rename_i h0
        rw [hq, hfm]
        obtain ⟨c, r, hr⟩ := List.exists_cons_of_ne_nil (hend h0)
        rw [hr]
        rfl
      · rfl
theorem cls2_35 (c : UInt8) : cls c.toNat = 2 ↔ c = 35 := by
  have h : ∀ n, n < 256 → (cls n = 2 ↔ n = 35) := by decide +kernel
  rw [h c.toNat (UInt8.toNat_lt c)]
  exact ⟨fun e => UInt8.toNat_inj.1 e, fun e => by subst e; rfl⟩
theorem cls1_in (c : UInt8) (h : cls c.toNat = 1) : c = 10 ∨ c = 32 ∨ c = 9 ∨ c = 13 := by
  have g : ∀ n, n < 256 → cls n = 1 → n = 10 ∨ n = 32 ∨ n = 9 ∨ n = 13 := by decide +kernel
  rcases g c.toNat (UInt8.toNat_lt c) h with e | e | e | e
  · exact .inl (UInt8.toNat_inj.1 e)
  · exact .inr (.inl (UInt8.toNat_inj.1 e))
  · exact .inr (.inr (.inl (UInt8.toNat_inj.1 e)))
  · exact .inr (.inr (.inr (UInt8.toNat_inj.1 e)))
/-- A text without its comments (true: within a comment). -/
def stB : Bool → List UInt8 → List UInt8
  | _, [] => []
  | false, c :: l => if c = 35 then stB true l else c :: stB false l
  | true, c :: l => if c = 10 then c :: stB false l else stB true l
theorem stN (b : Bool) : stB b [] = [] := by cases b <;> rfl
theorem stF (c : UInt8) (l : List UInt8) : stB false (c :: l) = if c = 35 then stB true l else c :: stB false l := by rw [stB]
theorem stT (c : UInt8) (l : List UInt8) : stB true (c :: l) = if c = 10 then c :: stB false l else stB true l := by rw [stB]
theorem st_none : ∀ (b : Bool) (l : List UInt8), (35 : UInt8) ∉ stB b l
  | b, [] => by rw [stN]; simp
  | false, c :: l => by
    have h1 := st_none false l; have h2 := st_none true l
    rw [stF]
    by_cases c1 : c = 35
    · rw [if_pos c1]; exact h2
    · rw [if_neg c1]; simp only [List.mem_cons, not_or]; exact ⟨fun e => c1 e.symm, h1⟩
  | true, c :: l => by
    have h1 := st_none false l; have h2 := st_none true l
    rw [stT]
    by_cases c1 : c = 10
    · rw [if_pos c1]; simp only [List.mem_cons, not_or]; exact ⟨fun e => by rw [← e] at c1; exact absurd c1 (by decide), h1⟩
    · rw [if_neg c1]; exact h2
theorem st_id : ∀ {l : List UInt8}, (35 : UInt8) ∉ l → stB false l = l
  | [], _ => rfl
  | c :: l, h => by
    simp only [List.mem_cons, not_or] at h
    rw [stF, if_neg (fun e => h.1 e.symm), st_id h.2]
theorem st_app : ∀ {x : List UInt8} (z : List UInt8), (35 : UInt8) ∉ x → stB false (x ++ z) = x ++ stB false z
  | [], z, _ => rfl
  | c :: l, z, h => by
    simp only [List.mem_cons, not_or] at h
    rw [List.cons_append, stF, if_neg (fun e => h.1 e.symm), st_app z h.2]; rfl
theorem st_count : ∀ (b : Bool) (l : List UInt8), (stB b l).count 10 = l.count 10
  | b, [] => by rw [stN]
  | false, c :: l => by
    have h1 := st_count false l; have h2 := st_count true l
    rw [stF]
    by_cases c1 : c = 35
    · rw [if_pos c1, h2, c1, List.count_cons_of_ne (by decide)]
    · rw [if_neg c1, List.count_cons, List.count_cons, h1]
  | true, c :: l => by
    have h1 := st_count false l; have h2 := st_count true l
    rw [stT]
    by_cases c1 : c = 10
    · rw [if_pos c1, List.count_cons, List.count_cons, h1]
    · rw [if_neg c1, h2, List.count_cons_of_ne c1]
theorem st_len : ∀ (b : Bool) (l : List UInt8), (stB b l).length ≤ l.length
  | b, [] => by rw [stN]; simp
  | false, c :: l => by
    have h1 := st_len false l; have h2 := st_len true l
    rw [stF]
    split <;> simp <;> omega
  | true, c :: l => by
    have h1 := st_len false l; have h2 := st_len true l
    rw [stT]
    split <;> simp <;> omega
theorem st_skip : ∀ (b : Bool) (l : List UInt8), (stB b l).drop (skM false (stB b l)) = stB false (l.drop (skM b l))
  | b, [] => by rw [stN, skN, skN]; rfl
  | false, c :: l => by
    have h1 := st_skip false l; have h2 := st_skip true l
    rw [stF, skF]
    by_cases c1 : c = 35
    · rw [if_pos c1]
      have e2 := (cls2_35 c).2 c1
      rw [if_neg (by omega), if_pos e2, h2, Nat.add_comm, List.drop_succ_cons]
    · rw [if_neg c1]
      have e2 : ¬ cls c.toNat = 2 := fun e => c1 ((cls2_35 c).1 e)
      by_cases e1 : cls c.toNat = 1
      · rw [if_pos e1, skF, if_pos e1, Nat.add_comm, List.drop_succ_cons, h1, Nat.add_comm, List.drop_succ_cons]
      · rw [if_neg e1, if_neg e2, skF, if_neg e1, if_neg e2, List.drop_zero, List.drop_zero, stF, if_neg c1]
  | true, c :: l => by
    have h1 := st_skip false l; have h2 := st_skip true l
    rw [stT, skT]
    by_cases c1 : c = 10
    · rw [if_pos c1, if_pos c1, skF, if_pos (by rw [c1]; exact cls10), Nat.add_comm, List.drop_succ_cons, h1, Nat.add_comm, List.drop_succ_cons]
    · rw [if_neg c1, if_neg c1, h2, Nat.add_comm, List.drop_succ_cons]
theorem st_head : ∀ l : List UInt8, stB true l = [] ∨ ∃ r, stB true l = 10 :: r
  | [] => .inl rfl
  | c :: l => by
    rw [stT]
    by_cases c1 : c = 10
    · rw [if_pos c1]; exact .inr ⟨_, by rw [c1]⟩
    · rw [if_neg c1]; exact st_head l
theorem st_wl : ∀ l : List UInt8, wl (stB false l) = wl l
  | [] => rfl
  | c :: l => by
    rw [stF]
    by_cases c1 : c = 35
    · rw [if_pos c1, wl_cons, if_neg (by rw [c1]; decide +kernel)]
      rcases st_head l with e | ⟨r, e⟩ <;> rw [e]
      · rfl
      · rw [wl_cons, if_neg (by decide +kernel)]
    · rw [if_neg c1, wl_cons, wl_cons, st_wl l]
theorem sl_hd (c : UInt8) (r : List UInt8) : sl (c :: r) = if lsB [c, r.getD 0 0] = true then 2 else if cls c.toNat = 5 then 1 else 0 := by
  unfold sl
  cases r with
  | nil =>
    rw [lsB_ne (by decide)]
    simp
  | cons d r => simp
theorem st_sl {m : List UInt8} (h : hc m ≠ 2) : sl (stB false m) = sl m := by
  cases m with
  | nil => rfl
  | cons c r =>
    rw [hc_cons] at h
    have c1 : c ≠ 35 := fun e => h ((cls2_35 c).2 e)
    rw [stF, if_neg c1, sl_hd, sl_hd]
    have key : lsB [c, (stB false r).getD 0 0] = lsB [c, r.getD 0 0] := by
      cases r with
      | nil => rfl
      | cons d r =>
        rw [stF]
        by_cases d1 : d = 35
        · rw [if_pos d1, show (d :: r).getD 0 0 = d from rfl, lsB_ne (d := d) (by rw [d1]; decide)]
          rcases st_head r with e | ⟨q, e⟩ <;> rw [e]
          · exact lsB_ne (by decide)
          · exact lsB_ne (d := 10) (by decide)
        · rw [if_neg d1]; rfl
    rw [key]
theorem take_wl (l : List UInt8) : ∀ b ∈ l.take (wl l), wdB b.toNat = true := by
  have e : l.take (wl l) ++ l.drop (wl l) = l := List.take_append_drop _ _
  have h := wl_le l
  refine ((wl_eq_len (l.take (wl l)) (l.drop (wl l))).1 ?_).1
  rw [e, List.length_take]; omega
theorem no35_tok (m : List UInt8) (h : hc m ≠ 2) : (35 : UInt8) ∉ m.take (tn m) := by
  by_cases hw : hc m = 3 ∨ hc m = 4
  · rw [tn_word hw]
    intro hm
    exact absurd (take_wl m _ hm) (by decide +kernel)
  · rw [tn_sign (by omega) (by omega)]
    cases m with
    | nil => simp
    | cons c r =>
      rw [hc_cons] at h
      have c1 : c ≠ 35 := fun e => h ((cls2_35 c).2 e)
      rw [sl_hd]
      split
      · rename_i hs
        cases r with
        | nil => simp; exact fun e => c1 e.symm
        | cons d r =>
          have hd : d = 61 := by
            apply Decidable.byContradiction
            intro hd
            rw [show (d :: r).getD 0 0 = d from rfl, lsB_ne hd] at hs
            cases hs
          subst hd
          simp; exact fun e => c1 e.symm
      · split
        · simp; exact fun e => c1 e.symm
        · simp
theorem hc_st {m : List UInt8} (h : hc m ≠ 2) : hc (stB false m) = hc m := by
  cases m with
  | nil => rfl
  | cons c r =>
    rw [hc_cons] at h
    have c1 : c ≠ 35 := fun e => h ((cls2_35 c).2 e)
    rw [stF, if_neg c1]; rfl
theorem st_tok {m : List UInt8} (hm : m ≠ []) (h : hc m ≠ 2) : tn (stB false m) = tn m ∧ ter (stB false m) = ter m ∧ tkd (stB false m) = tkd m ∧ (stB false m).take (tn m) = m.take (tn m) ∧ (stB false m).drop (tn m) = stB false (m.drop (tn m)) ∧ stB false m ≠ [] := by
  have h35 := no35_tok m h
  have hl := tn_le m
  have e : m.take (tn m) ++ m.drop (tn m) = m := List.take_append_drop _ _
  have e2 : stB false m = m.take (tn m) ++ stB false (m.drop (tn m)) := by
    have := st_app (m.drop (tn m)) h35
    rwa [e] at this
  have el : (m.take (tn m)).length = tn m := by rw [List.length_take]; omega
  have t1 : tn (stB false m) = tn m := by unfold tn; rw [st_wl, st_sl h]
  have t4 : (stB false m).take (tn m) = m.take (tn m) := by rw [e2]; exact List.take_left' el
  refine ⟨t1, ?_, by unfold tkd; rw [hc_st h], t4, by rw [e2]; exact List.drop_left' el, ?_⟩
  · unfold ter
    rw [hc_st h, st_wl, st_sl h]
    by_cases h4 : hc m = 4
    · have : tn m = wl m := tn_word (.inr h4)
      rw [this] at t4
      rw [t4]
    · rw [if_neg h4, if_neg h4]
  · obtain ⟨c, r, rfl⟩ := List.exists_cons_of_ne_nil hm
    rw [hc_cons] at h
    rw [stF, if_neg (fun e => h ((cls2_35 c).2 e))]
    simp
theorem sq_strip : ∀ (f a b : Nat) (l : List UInt8), l.length < f → (sq f b (stB false l)).1.map (fun t => (t.1, t.2.1)) = (sq f a l).1.map (fun t => (t.1, t.2.1)) ∧ (sq f b (stB false l)).2.2 = (sq f a l).2.2
  | 0, _, _, _, h => by omega
  | f + 1, a, b, l, h => by
    have hsk := st_skip false l
    rcases sq_cases f a l with ⟨h0, h1, e⟩ | ⟨k, m, hk, hm, hne, hl, hs0, he, e⟩ | ⟨k, x, z, hk, hm, hx, hl, hs0, ht, he, -, -, e⟩
    · rw [h0] at hsk
      rw [e, sq, hsk, stN, if_pos rfl]
      exact ⟨rfl, rfl⟩
    · rw [hk, hm] at hsk
      obtain ⟨s1, s2, s3, s4, s5, s6⟩ := st_tok hne (sk_hc hs0 hne).2
      rw [e, sq, hsk, if_neg s6, s2, if_neg he]
      exact ⟨rfl, rfl⟩
    · rw [hk, hm] at hsk
      have hne : x ++ z ≠ [] := fun q => hx (List.append_eq_nil_iff.1 q).1
      have hp : 0 < x.length := List.length_pos_iff.2 hx
      obtain ⟨s1, s2, s3, s4, s5, s6⟩ := st_tok hne (sk_hc hs0 hne).2
      have htk : tkd (x ++ z) = tkd x := (ter_app hx ht).2
      rw [ht] at s1 s4 s5
      rw [List.take_left' rfl] at s4
      rw [List.drop_left' rfl] at s5
      obtain ⟨i1, i2⟩ := sq_strip f (a + k + x.length) (b + skM false (stB false l) + x.length) z (by omega)
      rw [e, sq, hsk, if_neg s6, s2, if_pos he, s1, s4, s5, s3, htk]
      exact ⟨by simp only [List.map_cons, i1], i2⟩

/-- The lines of a text. -/
def lns : List UInt8 → List (List UInt8)
  | [] => [[]]
  | c :: l => if c = 10 then [] :: lns l else match lns l with | [] => [[c]] | x :: r => (c :: x) :: r
theorem lns_ne : ∀ l, lns l ≠ []
  | [] => by simp [lns]
  | c :: l => by
    rw [lns]
    split
    · simp
    · split <;> simp
theorem lns_miss : ∀ {l : List UInt8}, (10 : UInt8) ∉ l → lns l = [l]
  | [], _ => rfl
  | c :: l, h => by
    simp only [List.mem_cons, not_or] at h
    rw [lns, if_neg (fun e => h.1 e.symm), lns_miss h.2]
theorem lns_hit : ∀ {p : List UInt8} (q : List UInt8), (10 : UInt8) ∉ p → lns (p ++ 10 :: q) = p :: lns q
  | [], q, _ => by rw [List.nil_append, lns, if_pos rfl]
  | c :: p, q, h => by
    simp only [List.mem_cons, not_or] at h
    rw [List.cons_append, lns, if_neg (fun e => h.1 e.symm), lns_hit q h.2]
/-- The lines put together. -/
def jl : List (List UInt8) → List UInt8
  | [] => []
  | [x] => x
  | x :: y :: r => x ++ 10 :: jl (y :: r)
theorem jl_cons (x : List UInt8) {r : List (List UInt8)} (h : r ≠ []) : jl (x :: r) = x ++ 10 :: jl r := by
  obtain ⟨y, r, rfl⟩ := List.exists_cons_of_ne_nil h
  rfl
theorem jl_head (c : UInt8) (x : List UInt8) (r : List (List UInt8)) : jl ((c :: x) :: r) = c :: jl (x :: r) := by
  cases r with
  | nil => rfl
  | cons y r => rfl
theorem upTo_cons (c d : UInt8) (l : List UInt8) : upTo c (d :: l) = if d = c then [] else d :: upTo c l := by
  unfold upTo
  rw [List.takeWhile_cons]
  by_cases h : d = c
  · rw [if_pos h, if_neg (by simp [h])]
  · rw [if_neg h, if_pos (by simp [h])]
/-- The lines without comments. -/
def lnP (b : Bool) (ls : List (List UInt8)) : List (List UInt8) := match ls with | [] => [] | x :: r => (if b = true then [] else upTo 35 x) :: r.map (upTo 35)
theorem lnP_map (ls : List (List UInt8)) : lnP false ls = ls.map (upTo 35) := by cases ls <;> rfl
theorem jl_st : ∀ (b : Bool) (l : List UInt8), jl (lnP b (lns l)) = stB b l
  | b, [] => by cases b <;> rfl
  | b, c :: l => by
    have h1 := jl_st false l; have h2 := jl_st true l
    have hne := lns_ne l
    rw [lns]
    by_cases c1 : c = 10
    · rw [if_pos c1]
      have e : lnP b ([] :: lns l) = [] :: lnP false (lns l) := by rw [lnP_map]; cases b <;> rfl
      rw [e, jl_cons _ (by rw [lnP_map]; simpa using hne), h1]
      cases b
      · rw [stF, if_neg (by rw [c1]; decide), c1]; rfl
      · rw [stT, if_pos c1, c1]; rfl
    · rw [if_neg c1]
      obtain ⟨x, r, hx⟩ := List.exists_cons_of_ne_nil hne
      rw [hx] at h1 h2
      rw [hx]
      cases b
      · rw [stF]
        by_cases c2 : c = 35
        · rw [if_pos c2, ← h2]
          show jl (upTo 35 (c :: x) :: _) = _
          rw [upTo_cons, if_pos c2]; rfl
        · rw [if_neg c2, ← h1]
          show jl (upTo 35 (c :: x) :: _) = _
          rw [upTo_cons, if_neg c2, jl_head]; rfl
      · rw [stT, if_neg c1, ← h2]; rfl
/-- A line that is blank up to its comment. -/
def blk (p : List UInt8) : Prop := ∀ b ∈ upTo 35 p, b = 32 ∨ b = 9 ∨ b = 13
theorem blk_nil : blk [] := fun b h => by cases h
theorem gap_blk : ∀ (b : Bool) (l : List UInt8), match lns (l.take (skM b l)) with | [] => True | x :: r => (b = true ∨ blk x) ∧ ∀ p ∈ r, blk p
  | b, [] => by rw [skN]; cases b <;> exact ⟨by simp [blk_nil], by simp⟩
  | false, c :: l => by
    have h1 := gap_blk false l; have h2 := gap_blk true l
    rw [skF]
    by_cases c1 : cls c.toNat = 1
    · rw [if_pos c1, Nat.add_comm, List.take_succ_cons, lns]
      obtain ⟨x, r, hx⟩ := List.exists_cons_of_ne_nil (lns_ne (l.take (skM false l)))
      rw [hx] at h1 ⊢
      by_cases c10 : c = 10
      · rw [if_pos c10]
        refine ⟨.inr blk_nil, fun p hp => ?_⟩
        rcases List.mem_cons.1 hp with rfl | hp
        · exact h1.1.resolve_left (by simp)
        · exact h1.2 p hp
      · rw [if_neg c10]
        refine ⟨.inr fun d hd => ?_, h1.2⟩
        rw [upTo_cons] at hd
        split at hd
        · cases hd
        · rcases List.mem_cons.1 hd with rfl | hd
          · exact (cls1_in _ c1).resolve_left c10
          · exact (h1.1.resolve_left (by simp)) d hd
    · rw [if_neg c1]
      by_cases c2 : cls c.toNat = 2
      · rw [if_pos c2, Nat.add_comm, List.take_succ_cons, lns]
        have c35 := (cls2_35 c).1 c2
        obtain ⟨x, r, hx⟩ := List.exists_cons_of_ne_nil (lns_ne (l.take (skM true l)))
        rw [hx] at h2 ⊢
        rw [if_neg (by rw [c35]; decide)]
        refine ⟨.inr fun d hd => ?_, h2.2⟩
        rw [upTo_cons, if_pos c35] at hd
        cases hd
      · rw [if_neg c2]
        exact ⟨.inr blk_nil, by simp⟩
  | true, c :: l => by
    have h1 := gap_blk false l; have h2 := gap_blk true l
    rw [skT]
    by_cases c10 : c = 10
    · rw [if_pos c10, Nat.add_comm, List.take_succ_cons, lns, if_pos c10]
      obtain ⟨x, r, hx⟩ := List.exists_cons_of_ne_nil (lns_ne (l.take (skM false l)))
      rw [hx] at h1 ⊢
      refine ⟨.inl rfl, fun p hp => ?_⟩
      rcases List.mem_cons.1 hp with rfl | hp
      · exact h1.1.resolve_left (by simp)
      · exact h1.2 p hp
    · rw [if_neg c10, Nat.add_comm, List.take_succ_cons, lns, if_neg c10]
      obtain ⟨x, r, hx⟩ := List.exists_cons_of_ne_nil (lns_ne (l.take (skM true l)))
      rw [hx] at h2 ⊢
      exact ⟨.inl rfl, h2.2⟩
theorem gap_ok (l : List UInt8) : ∀ p ∈ lns (l.take (skM false l)), blk p := by
  have h := gap_blk false l
  obtain ⟨x, r, hx⟩ := List.exists_cons_of_ne_nil (lns_ne (l.take (skM false l)))
  rw [hx] at h ⊢
  intro p hp
  rcases List.mem_cons.1 hp with rfl | hp
  · exact h.1.resolve_left (by simp)
  · exact h.2 p hp
/-- What stands in front of a token in a joined text. -/
def sepT (p : Option (List UInt8)) (t : List UInt8) : List UInt8 := match p with | some q => if apB q t = true then [] else [32] | none => []
def jt : Option (List UInt8) → List (List UInt8) → List UInt8
  | _, [] => []
  | p, t :: r => sepT p t ++ (t ++ jt (some t) r)
/-- The text of a token. -/
def okX (x : List UInt8) : Prop := x ≠ [] ∧ ter x = 0 ∧ tn x = x.length
theorem okX_nil {x : List UInt8} (h : okX x) : apB x [] = true := by rw [ap_tn, List.append_nil, decide_eq_true_iff]; exact h.2.2
theorem sep_nil {p : Option (List UInt8)} (h : ∀ q, p = some q → okX q) : sepT p [] = [] := by
  cases p with
  | none => rfl
  | some q => show (if apB q [] = true then _ else _) = _; rw [if_pos (okX_nil (h q rfl))]
theorem sq_tok {f a k : Nat} {l x z : List UInt8} (hk : skM false l = k) (hm : l.drop k = x ++ z) (hx : x ≠ []) (ht : tn (x ++ z) = x.length) (he : ter x = 0) :
    sq (f + 1) a l = ((tkd x, x, a + k) :: (sq f (a + k + x.length) z).1, (sq f (a + k + x.length) z).2) := by
  have hne : x ++ z ≠ [] := fun q => hx (List.append_eq_nil_iff.1 q).1
  obtain ⟨h1, h2⟩ := ter_app hx ht
  rw [sq, hk, hm, if_neg hne, h1, if_pos he, ht, h2, List.take_left' rfl, List.drop_left' rfl]
/-- The tokens of a text are tokens, the last one is the end. -/
theorem sq_ok : ∀ (f a : Nat) (l : List UInt8), l.length < f → (sq f a l).2.2 = 0 → ∃ V e, (sq f a l).1 = V ++ [(3, [], e)] ∧ ∀ v ∈ V, okX v.2.1 ∧ v.1 = tkd v.2.1
  | 0, _, _, h, _ => by omega
  | f + 1, a, l, h, h0 => by
    rcases sq_cases f a l with ⟨-, -, e⟩ | ⟨k, m, hk, hm, hne, hl, -, he, e⟩ | ⟨k, x, z, hk, hm, hx, hl, -, ht, -, he, htx, e⟩
    · rw [e]; exact ⟨[], _, rfl, by simp⟩
    · rw [e] at h0; exact absurd h0 he
    · have hp : 0 < x.length := List.length_pos_iff.2 hx
      rw [e] at h0 ⊢
      obtain ⟨V, e1, h1, h2⟩ := sq_ok f (a + k + x.length) z (by omega) h0
      refine ⟨(tkd x, x, a + k) :: V, e1, by rw [h1]; rfl, ?_⟩
      intro v hv
      rcases List.mem_cons.1 hv with rfl | hv
      · exact ⟨⟨hx, he, htx⟩, rfl⟩
      · exact h2 v hv
/-- A joined text is no longer than a text with the same tokens. -/
theorem jt_short : ∀ (f a : Nat) (l : List UInt8) (p : Option (List UInt8)), (∀ q, p = some q → okX q ∧ tn (q ++ l) = q.length) → l.length < f → (sq f a l).2.2 = 0 →
    (jt p ((sq f a l).1.map (fun t => t.2.1))).length ≤ l.length
  | 0, _, _, _, _, h, _ => by omega
  | f + 1, a, l, p, hp, h, h0 => by
    rcases sq_cases f a l with ⟨-, -, e⟩ | ⟨k, m, hk, hm, hne, hl, -, he, e⟩ | ⟨k, x, z, hk, hm, hx, hl, -, ht, -, he, htx, e⟩
    · rw [e]
      show (sepT p [] ++ ([] ++ [])).length ≤ _
      rw [sep_nil (fun q hq => (hp q hq).1)]
      simp
    · rw [e] at h0; exact absurd h0 he
    · have hp1 : 0 < x.length := List.length_pos_iff.2 hx
      rw [e] at h0 ⊢
      have ih := jt_short f (a + k + x.length) z (some x) (fun q hq => by cases hq; exact ⟨⟨hx, he, htx⟩, ht⟩) (by omega) h0
      show (sepT p x ++ (x ++ jt (some x) _)).length ≤ _
      rw [List.length_append, List.length_append]
      have hs : (sepT p x).length ≤ k := by
        cases p with
        | none => exact Nat.zero_le _
        | some q =>
          obtain ⟨hq, hq2⟩ := hp q rfl
          show (if apB q x = true then _ else _ : List UInt8).length ≤ _
          by_cases hk0 : k = 0
          · subst hk0
            rw [List.drop_zero] at hm
            rw [hm] at hq2
            rw [if_pos (by rw [ap_tn, decide_eq_true_iff]; exact (tn_app hq.1 hx z).1 hq2)]
            simp
          · split <;> simp; omega
      omega
theorem jt_front {y : List UInt8} (hy : okX y) : ∀ V : List (List UInt8), (∀ v ∈ V, okX v) → tn (y ++ jt (some y) (V ++ [[]])) = y.length
  | [], _ => by
    show tn (y ++ (sepT (some y) [] ++ ([] ++ []))) = _
    rw [sep_nil (fun q hq => by cases hq; exact hy)]
    simpa using hy.2.2
  | z :: V, h => by
    show tn (y ++ (sepT (some y) z ++ (z ++ _))) = _
    have hz := h z (by simp)
    show tn (y ++ ((if apB y z = true then [] else [32]) ++ (z ++ _))) = _
    by_cases ha : apB y z = true
    · rw [if_pos ha, List.nil_append]
      rw [ap_tn, decide_eq_true_iff] at ha
      exact (tn_app hy.1 hz.1 _).2 ha
    · rw [if_neg ha]
      exact tn_stop hy.1 hy.2.2 (by decide +kernel) (by decide) _
/-- The tokens of a joined text. -/
theorem sq_jt : ∀ (V : List (List UInt8)) (p : Option (List UInt8)) (f a : Nat), (∀ v ∈ V, okX v) → (∀ q, p = some q → okX q) → (jt p (V ++ [[]])).length < f →
    (sq f a (jt p (V ++ [[]]))).2.2 = 0 ∧ (sq f a (jt p (V ++ [[]]))).1.map (fun t => (t.1, t.2.1)) = V.map (fun v => (tkd v, v)) ++ [(3, [])]
  | V, _, 0, _, _, _, h => by omega
  | [], p, f + 1, a, hV, hp, hf => by
    have e : jt p ([] ++ [[]]) = [] := by
      show sepT p [] ++ ([] ++ []) = []
      rw [sep_nil hp]; rfl
    rw [e, sq]
    exact ⟨rfl, rfl⟩
  | y :: V, p, f + 1, a, hV, hp, hf => by
    have hy := hV y (by simp)
    have hV2 : ∀ v ∈ V, okX v := fun v hv => hV v (by simp [hv])
    have hfr := jt_front hy V hV2
    have hne : y ++ jt (some y) (V ++ [[]]) ≠ [] := fun q => hy.1 (List.append_eq_nil_iff.1 q).1
    have hh := tok_hc hy.1 hy.2.1
    have hk0 : skM false (y ++ jt (some y) (V ++ [[]])) = 0 := sk_none (by rw [hc_app hy.1]; exact hh.1) (by rw [hc_app hy.1]; exact hh.2)
    have e : jt p (y :: V ++ [[]]) = sepT p y ++ (y ++ jt (some y) (V ++ [[]])) := rfl
    rw [e] at hf ⊢
    have hs : sepT p y = [] ∨ sepT p y = [32] := by
      cases p with
      | none => exact .inl rfl
      | some q =>
        show (if apB q y = true then _ else _ : List UInt8) = _ ∨ (if apB q y = true then _ else _ : List UInt8) = _
        split <;> simp
    have hyp : 0 < y.length := List.length_pos_iff.2 hy.1
    obtain ⟨k, hk, hd⟩ : ∃ k, skM false (sepT p y ++ (y ++ jt (some y) (V ++ [[]]))) = k ∧ (sepT p y ++ (y ++ jt (some y) (V ++ [[]]))).drop k = y ++ jt (some y) (V ++ [[]]) := by
      rcases hs with q | q
      · rw [q, List.nil_append]; exact ⟨0, hk0, rfl⟩
      · rw [q]
        refine ⟨1, ?_, rfl⟩
        show skM false (32 :: (y ++ jt (some y) (V ++ [[]]))) = 1
        rw [skF, if_pos (by decide +kernel), hk0]
    rw [sq_tok hk hd hy.1 hfr hy.2.1]
    have hlen : (jt (some y) (V ++ [[]])).length < f := by
      rw [List.length_append, List.length_append] at hf; omega
    obtain ⟨i1, i2⟩ := sq_jt V (some y) f (a + k + y.length) hV2 (fun q hq => by cases hq; exact hy) hlen
    exact ⟨i1, by simp only [List.map_cons, i2, List.cons_append]⟩
/-- Two tokens' texts alone. -/
theorem sq_pair {x y : List UInt8} (hx : okX x) (hy : okX y) (f : Nat) (ha : apB x y = true) :
    sq (f + 3) 0 (x ++ y) = ([(tkd x, x, 0), (tkd y, y, x.length), (3, [], x.length + y.length)], 0, 0) := by
  have h1 := tok_hc hx.1 hx.2.1
  have h2 := tok_hc hy.1 hy.2.1
  rw [ap_tn, decide_eq_true_iff] at ha
  have k0 : skM false (x ++ y) = 0 := sk_none (by rw [hc_app hx.1]; exact h1.1) (by rw [hc_app hx.1]; exact h1.2)
  have k1 : skM false y = 0 := sk_none h2.1 h2.2
  rw [sq_tok (f := f + 2) (a := 0) k0 (by rw [List.drop_zero]) hx.1 ha hx.2.1]
  rw [sq_tok (f := f + 1) (x := y) (z := []) k1 (by simp) hy.1 (by rw [List.append_nil]; exact hy.2.2) hy.2.1]
  rw [sq]
  simp [skN]
theorem sq_fused {x y : List UInt8} (hx : okX x) (f : Nat) (ha : apB x y = false) :
    (sq (f + 1) 0 (x ++ y)).2.2 ≠ 0 ∨ ∃ t r, (sq (f + 1) 0 (x ++ y)).1 = t :: r ∧ t.2.1 ≠ x := by
  have h1 := tok_hc hx.1 hx.2.1
  have k0 : skM false (x ++ y) = 0 := sk_none (by rw [hc_app hx.1]; exact h1.1) (by rw [hc_app hx.1]; exact h1.2)
  rw [ap_tn, decide_eq_false_iff_not] at ha
  rcases sq_cases f 0 (x ++ y) with ⟨e0, -, -⟩ | ⟨k, m, hk, hm, hne, hl, -, he, e⟩ | ⟨k, x2, z, hk, hm, hx2, hl, -, ht, -, he, htx, e⟩
  · rw [k0, List.drop_zero] at e0
    exact absurd (List.append_eq_nil_iff.1 e0).1 hx.1
  · rw [e]; exact .inl he
  · rw [e]
    refine .inr ⟨_, _, rfl, ?_⟩
    rintro rfl
    rw [k0] at hk
    subst hk
    rw [List.drop_zero] at hm
    rw [hm] at ha
    exact ha ht
/-- Texts that tokens may have. -/
theorem word_ok {x : List UInt8} : iwB x = true ↔ okX x ∧ tkd x = 0 := by
  unfold iwB okX
  rw [Bool.and_eq_true, Bool.and_eq_true, Bool.and_eq_true, decide_eq_true_iff, decide_eq_true_iff, decide_eq_true_iff, decide_eq_true_iff]
  constructor
  · rintro ⟨h0, h24, h3, hw⟩
    have h3 : hc x = 3 := h3
    have hne : x ≠ [] := fun e => by rw [e] at h0; simp at h0
    refine ⟨⟨hne, ?_, by rw [tn_word (.inl h3)]; exact hw⟩, by unfold tkd; rw [if_pos h3]⟩
    unfold ter; rw [if_pos h3, if_neg (by omega)]
  · rintro ⟨⟨hne, he, ht⟩, hk⟩
    have h3 : hc x = 3 := by
      unfold tkd at hk
      by_cases h3 : hc x = 3
      · exact h3
      · rw [if_neg h3] at hk
        split at hk <;> cases hk
    rw [tn_word (.inl h3)] at ht
    unfold ter at he
    rw [if_pos h3] at he
    refine ⟨List.length_pos_iff.2 hne, ?_, h3, ht⟩
    split at he
    · cases he
    · omega
theorem num_ok {x : List UInt8} : numErr x = 0 ↔ okX x ∧ tkd x = 1 := by
  unfold okX
  constructor
  · intro h
    have had : adB x = true := by
      unfold numErr at h
      split at h
      · assumption
      · cases h
    unfold adB at had
    rw [Bool.and_eq_true, List.all_eq_true] at had
    have hne : x ≠ [] := fun e => by rw [e] at had; simp at had
    have h4 : hc x = 4 := by
      obtain ⟨c, r, rfl⟩ := List.exists_cons_of_ne_nil hne
      have := had.1 c (by simp)
      unfold dgB at this
      exact of_decide_eq_true this
    have hw : wl x = x.length := by
      have := (wl_eq_len x []).2 ⟨fun b hb => by
        have := had.1 b hb
        unfold dgB at this
        unfold wdB
        rw [this, Bool.or_true], rfl⟩
      rwa [List.append_nil] at this
    refine ⟨⟨hne, ?_, by rw [tn_word (.inr h4)]; exact hw⟩, by unfold tkd; rw [if_neg (by omega), if_pos h4]⟩
    unfold ter; rw [if_neg (by omega), if_pos h4, hw, List.take_length]; exact h
  · rintro ⟨⟨hne, he, ht⟩, hk⟩
    have h4 : hc x = 4 := by
      unfold tkd at hk
      by_cases h3 : hc x = 3
      · rw [if_pos h3] at hk; cases hk
      · rw [if_neg h3] at hk
        split at hk
        · assumption
        · cases hk
    rw [tn_word (.inr h4)] at ht
    unfold ter at he
    rw [if_neg (by omega), if_pos h4, ht, List.take_length] at he
    exact he
theorem sign_ok {x : List UInt8} : (0 < x.length ∧ sl x = x.length) ↔ okX x ∧ tkd x = 2 := by
  unfold okX
  constructor
  · rintro ⟨h0, hs⟩
    have hne : x ≠ [] := fun e => by rw [e] at h0; simp at h0
    have hw : ¬ (hc x = 3 ∨ hc x = 4) := fun h => by have := sl_word h; omega
    refine ⟨⟨hne, ?_, by rw [tn_sign (by omega) (by omega)]; exact hs⟩, by unfold tkd; rw [if_neg (by omega), if_neg (by omega)]⟩
    unfold ter; rw [if_neg (by omega), if_neg (by omega), if_neg (by omega)]
  · rintro ⟨⟨hne, he, ht⟩, hk⟩
    have h3 : hc x ≠ 3 := fun h => by unfold tkd at hk; rw [if_pos h] at hk; cases hk
    have h4 : hc x ≠ 4 := fun h => by unfold tkd at hk; rw [if_neg h3, if_pos h] at hk; cases hk
    rw [tn_sign h3 h4] at ht
    exact ⟨List.length_pos_iff.2 hne, ht⟩
theorem tkd_in (x : List UInt8) : tkd x = 0 ∨ tkd x = 1 ∨ tkd x = 2 := by
  unfold tkd
  split
  · exact .inl rfl
  · split
    · exact .inr (.inl rfl)
    · exact .inr (.inr rfl)
end Go.Proofs.YtmogmneaomndeaaDoor
