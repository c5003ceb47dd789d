import Derived.Test.YtjobmkdaaionlaaGreatDoorCut29

set_option linter.unusedVariables false
/-
  The reference of rational: Frac, Of, both, large.
-/
namespace Go.Proofs.YtjobmkdaaionlaaGreatDoor
open Go Go.Proofs Go.RowKit

theorem sgcd_pos {x y : Int} (h : 0 < y) : sgcd x y = gcdI x y := by unfold sgcd; rw [if_neg (by omega)]
theorem commonT {m n : Nat} {s t : ByteArray} {x y : Int} (W : World) (hs : Txt m s x) (ht : Txt n t y) (hm : m ≤ 800000) (hn : n ≤ 800000) : Calls Tryz.prog 91 #[.string s, .string t] W (Bret (.string (str (Lib.itoa (gcdI x y)))) W) :=
  refCommonI s t x y W hs.text ht.text (by have := hs.size; omega) (by have := ht.size; omega)
theorem txt_gcd {m n : Nat} {s t : ByteArray} {x y : Int} (hs : Txt m s x) (ht : Txt n t y) : Txt (m + n) (str (Lib.itoa (gcdI x y))) (gcdI x y) := by
  refine Txt.ofLt (by have := hs.pos; omega) ?_
  have h1 : (gcdI x y).natAbs < 10 ^ (m + n) := by
    unfold gcdI
    rw [Int.natAbs_natCast]
    exact gcd_le x y _ (Nat.lt_of_lt_of_le hs.lt (Nat.pow_le_pow_right (by decide) (by omega))) (Nat.lt_of_lt_of_le ht.lt (Nat.pow_le_pow_right (by decide) (by omega)))
  exact h1
theorem negT {m : Nat} {s : ByteArray} {x : Int} (W : World) (hs : Txt m s x) (hm : m ≤ 800000) : Calls Tryz.prog 125 #[.string s] W fun e w' => e = .returned (.string (str (Lib.itoa (-x)))) ∧ w' = W := refNegatedT s x W hs.text (by have := hs.size; omega)
theorem txt_neg' {m : Nat} {s : ByteArray} {x : Int} (hs : Txt m s x) : Txt m (str (Lib.itoa (-x))) (-x) := Txt.of (by rw [Int.natAbs_neg]; exact hs.len)
theorem signT {m : Nat} {s : ByteArray} {x : Int} (W : World) (hs : Txt m s x) : Calls Tryz.prog 124 #[.string s] W fun e w' => e = .returned (.int .i64 (cmpI x 0)) ∧ w' = W := refSign_txt s x W hs.text
/-- The parts of a fraction with a positive denominator. -/
theorem frac_parts {x y : Int} (hy : 0 < y) : x.fdiv (gcdI x y) = (Rat.divInt x y).num ∧ y.fdiv (gcdI x y) = ((Rat.divInt x y).den : Int) := by
  have := reduced_parts (x := x) (y := y) (by omega)
  rwa [sgcd_pos hy] at this

theorem frac_facts {m n : Nat} {s t : ByteArray} {x y : Int} (hs : Txt m s x) (ht : Txt n t y) (hm : m ≤ 100000) (hn : n ≤ 100000) (hy : 0 < y) :
    (∀ W, Calls Tryz.prog 91 #[.string s, .string t] W (Bret (.string (str (Lib.itoa (gcdI x y)))) W)) ∧
    (∀ W, Calls Tryz.prog 89 #[.string s, .string (str (Lib.itoa (gcdI x y)))] W (Bret (.string (str (Lib.itoa (Rat.divInt x y).num))) W)) ∧
    (∀ W, Calls Tryz.prog 89 #[.string t, .string (str (Lib.itoa (gcdI x y)))] W (Bret (.string (str (Lib.itoa ((Rat.divInt x y).den : Int)))) W)) ∧
    (str (Lib.itoa (Rat.divInt x y).num)).size ≤ 200000 ∧ (str (Lib.itoa ((Rat.divInt x y).den : Int))).size ≤ 200000 := by
  have hg := gcdI_pos (x := x) (y := y) (by omega)
  have tg := txt_gcd hs ht
  obtain ⟨k1, k2⟩ := frac_parts (x := x) hy
  have t1 := txt_fdiv (y := gcdI x y) hs (by omega)
  have t2 := txt_fdiv (y := gcdI x y) ht (by omega)
  rw [k1] at t1
  rw [k2] at t2
  refine ⟨fun W => commonT W hs ht (by omega) (by omega), fun W => ?_, fun W => ?_, by have := t1.size; omega, by have := t2.size; omega⟩
  · have := fdivT W hs tg (by omega) (by omega) (by omega)
    rwa [k1] at this
  · have := fdivT W ht tg (by omega) (by omega) (by omega)
    rwa [k2] at this
theorem ratL_one {q : Rat} (h : q.den = 1) : str (ratL q) = str (Lib.itoa q.num) := by unfold ratL; rw [if_pos h]
theorem ratL_more {q : Rat} (h : q.den ≠ 1) : str (ratL q) = (str (Lib.itoa q.num) ++ ⟨#[47]⟩) ++ str (Lib.itoa (q.den : Int)) := by unfold ratL; rw [if_neg h, slash_str, str_cat, str_cat]; simp
theorem den_ne_lit {q : Rat} (h : q.den ≠ 1) : ((str (Lib.itoa (q.den : Int))).toList == [49]) = false := itoa_ne_one (by omega)
theorem den_is_lit {q : Rat} (h : q.den = 1) : str (Lib.itoa (q.den : Int)) = ⟨#[49]⟩ := by rw [h]; exact lit_str s1

set_option maxHeartbeats 4000000 in
theorem frac_pos (s t : ByteArray) (x y : Int) (m n : Nat) (w : World) (hs : Txt m s x) (ht : Txt n t y) (hm : m ≤ 100000) (hn : n ≤ 100000) (hy : 0 < y) :
    Calls Tryz.prog 92 #[.string s, .string t] w (Bret (.string (str (ratL (Rat.divInt x y)))) w) := by
  have CS := fun W => signT W ht
  have hc : cmpI y 0 = 1 := cmpI_gt hy
  rw [hc] at CS
  obtain ⟨C1, C2, C3, z1, z2⟩ := frac_facts hs ht hm hn hy
  generalize Rat.divInt x y = r at *
  by_cases h : r.den = 1
  · rw [ratL_one h]
    rw [den_is_lit h] at C3
    clear hs ht hm hn hy hc z1 z2 h
    generalize str (Lib.itoa r.num) = u at *
    generalize str (Lib.itoa (gcdI (x) (y))) = g at *
    have KS := Lib.hid CS; have K1 := Lib.hid C1; have K2 := Lib.hid C2; have K3 := Lib.hid C3
    clear CS C1 C2 C3
    go_enter Tryz.func92, Tryz.ntmps92
    go_wp2_with (go_at_call 124; refine (KS.out _).mono ?_; rintro e w1 ⟨rfl, h⟩; subst h; refine Hid.out ?_)
    refine Lib.hid ?_
    go_wp2_with (go_at_call 91; refine (K1.out _).mono ?_; rintro e w2 ⟨rfl, hb2⟩; refine Hid.out ?_)
    refine Lib.hid ?_
    go_wp2_with (go_at_call 89; refine (K2.out _).mono ?_; rintro e w3 ⟨rfl, hb3⟩; refine Hid.out ?_)
    have hB3 := Below.chain hb2 hb3; clear hb3 hb2
    refine Lib.hid ?_
    go_wp2_with (go_at_call 89; refine (K3.out _).mono ?_; rintro e w4 ⟨rfl, hb4⟩; refine Hid.out ?_)
    have hB4 := Below.chain hB3 hb4; clear hb4 hB3
    refine Lib.hid ?_
    go_wp2
    refine bodyPost_ret (v := .string u) (by simp [results, Tryz.results92, go_sem]) rfl ?_
    exact ⟨rfl, hB4⟩
  · rw [ratL_more h]
    have hne := den_ne_lit h
    clear hs ht hm hn hy hc h
    generalize str (Lib.itoa r.num) = u at *
    generalize str (Lib.itoa (r.den : Int)) = v at *
    generalize str (Lib.itoa (gcdI (x) (y))) = g at *
    have hsz : (u ++ ⟨#[47]⟩ : ByteArray).size ≤ 200001 := by rw [ByteArray.size_append]; exact Nat.succ_le_succ z1
    have KS := Lib.hid CS; have K1 := Lib.hid C1; have K2 := Lib.hid C2; have K3 := Lib.hid C3
    clear CS C1 C2 C3
    go_enter Tryz.func92, Tryz.ntmps92
    go_wp2_with (go_at_call 124; refine (KS.out _).mono ?_; rintro e w1 ⟨rfl, h⟩; subst h; refine Hid.out ?_)
    refine Lib.hid ?_
    go_wp2_with (go_at_call 91; refine (K1.out _).mono ?_; rintro e w2 ⟨rfl, hb2⟩; refine Hid.out ?_)
    refine Lib.hid ?_
    go_wp2_with (go_at_call 89; refine (K2.out _).mono ?_; rintro e w3 ⟨rfl, hb3⟩; refine Hid.out ?_)
    have hB3 := Below.chain hb2 hb3; clear hb3 hb2
    refine Lib.hid ?_
    go_wp2_with (go_at_call 89; refine (K3.out _).mono ?_; rintro e w4 ⟨rfl, hb4⟩; refine Hid.out ?_)
    have hB4 := Below.chain hB3 hb4; clear hb4 hB3
    refine Lib.hid ?_
    go_wp2
    refine bodyPost_ret (v := .string (u ++ ⟨#[47]⟩ ++ v)) (by simp [results, Tryz.results92, go_sem]) rfl ?_
    exact ⟨rfl, hB4⟩

set_option maxHeartbeats 4000000 in
theorem frac_neg (s t : ByteArray) (x y : Int) (m n : Nat) (w : World) (hs : Txt m s x) (ht : Txt n t y) (hm : m ≤ 100000) (hn : n ≤ 100000) (hy : y < 0) :
    Calls Tryz.prog 92 #[.string s, .string t] w (Bret (.string (str (ratL (Rat.divInt x y)))) w) := by
  have CS := fun W => signT W ht
  have hc : cmpI y 0 = -1 := cmpI_lt hy
  rw [hc] at CS
  have CN1 := fun W => negT W hs (by omega)
  have CN2 := fun W => negT W ht (by omega)
  obtain ⟨C1, C2, C3, z1, z2⟩ := frac_facts (txt_neg' hs) (txt_neg' ht) hm hn (by omega : 0 < -y)
  rw [Rat.neg_divInt_neg] at C2 C3 z1 z2
  generalize Rat.divInt x y = r at *
  by_cases h : r.den = 1
  · rw [ratL_one h]
    rw [den_is_lit h] at C3
    clear hs ht hm hn hy hc z1 z2 h
    generalize str (Lib.itoa r.num) = u at *
    generalize str (Lib.itoa (gcdI (-x) (-y))) = g at *
    generalize str (Lib.itoa (-x)) = nx at *
    generalize str (Lib.itoa (-y)) = ny at *
    have KN1 := Lib.hid CN1; have KN2 := Lib.hid CN2; clear CN1 CN2
    have KS := Lib.hid CS; have K1 := Lib.hid C1; have K2 := Lib.hid C2; have K3 := Lib.hid C3
    clear CS C1 C2 C3
    go_enter Tryz.func92, Tryz.ntmps92
    go_wp2_with (go_at_call 124; refine (KS.out _).mono ?_; rintro e w1 ⟨rfl, h⟩; subst h; refine Hid.out ?_)
    refine Lib.hid ?_
    go_wp2_with (go_at_call 125; refine (KN1.out _).mono ?_; rintro e w2 ⟨rfl, h⟩; subst h; refine Hid.out ?_)
    refine Lib.hid ?_
    go_wp2_with (go_at_call 125; refine (KN2.out _).mono ?_; rintro e w3 ⟨rfl, h⟩; subst h; refine Hid.out ?_)
    refine Lib.hid ?_
    go_wp2_with (go_at_call 91; refine (K1.out _).mono ?_; rintro e w4 ⟨rfl, hb4⟩; refine Hid.out ?_)
    refine Lib.hid ?_
    go_wp2_with (go_at_call 89; refine (K2.out _).mono ?_; rintro e w5 ⟨rfl, hb5⟩; refine Hid.out ?_)
    have hB5 := Below.chain hb4 hb5; clear hb5 hb4
    refine Lib.hid ?_
    go_wp2_with (go_at_call 89; refine (K3.out _).mono ?_; rintro e w6 ⟨rfl, hb6⟩; refine Hid.out ?_)
    have hB6 := Below.chain hB5 hb6; clear hb6 hB5
    refine Lib.hid ?_
    go_wp2
    refine bodyPost_ret (v := .string u) (by simp [results, Tryz.results92, go_sem]) rfl ?_
    exact ⟨rfl, hB6⟩
  · rw [ratL_more h]
    have hne := den_ne_lit h
    clear hs ht hm hn hy hc h
    generalize str (Lib.itoa r.num) = u at *
    generalize str (Lib.itoa (r.den : Int)) = v at *
    generalize str (Lib.itoa (gcdI (-x) (-y))) = g at *
    have hsz : (u ++ ⟨#[47]⟩ : ByteArray).size ≤ 200001 := by rw [ByteArray.size_append]; exact Nat.succ_le_succ z1
    generalize str (Lib.itoa (-x)) = nx at *
    generalize str (Lib.itoa (-y)) = ny at *
    have KN1 := Lib.hid CN1; have KN2 := Lib.hid CN2; clear CN1 CN2
    have KS := Lib.hid CS; have K1 := Lib.hid C1; have K2 := Lib.hid C2; have K3 := Lib.hid C3
    clear CS C1 C2 C3
    go_enter Tryz.func92, Tryz.ntmps92
    go_wp2_with (go_at_call 124; refine (KS.out _).mono ?_; rintro e w1 ⟨rfl, h⟩; subst h; refine Hid.out ?_)
    refine Lib.hid ?_
    go_wp2_with (go_at_call 125; refine (KN1.out _).mono ?_; rintro e w2 ⟨rfl, h⟩; subst h; refine Hid.out ?_)
    refine Lib.hid ?_
    go_wp2_with (go_at_call 125; refine (KN2.out _).mono ?_; rintro e w3 ⟨rfl, h⟩; subst h; refine Hid.out ?_)
    refine Lib.hid ?_
    go_wp2_with (go_at_call 91; refine (K1.out _).mono ?_; rintro e w4 ⟨rfl, hb4⟩; refine Hid.out ?_)
    refine Lib.hid ?_
    go_wp2_with (go_at_call 89; refine (K2.out _).mono ?_; rintro e w5 ⟨rfl, hb5⟩; refine Hid.out ?_)
    have hB5 := Below.chain hb4 hb5; clear hb5 hb4
    refine Lib.hid ?_
    go_wp2_with (go_at_call 89; refine (K3.out _).mono ?_; rintro e w6 ⟨rfl, hb6⟩; refine Hid.out ?_)
    have hB6 := Below.chain hB5 hb6; clear hb6 hB5
    refine Lib.hid ?_
    go_wp2
    refine bodyPost_ret (v := .string (u ++ ⟨#[47]⟩ ++ v)) (by simp [results, Tryz.results92, go_sem]) rfl ?_
    exact ⟨rfl, hB6⟩

theorem fracT {m n : Nat} {s t : ByteArray} {x y : Int} (w : World) (hs : Txt m s x) (ht : Txt n t y) (hm : m ≤ 100000) (hn : n ≤ 100000) (hy : y ≠ 0) :
    Calls Tryz.prog 92 #[.string s, .string t] w (Bret (.string (str (ratL (Rat.divInt x y)))) w) := by
  by_cases h : y < 0
  · exact frac_neg s t x y m n w hs ht hm hn h
  · exact frac_pos s t x y m n w hs ht hm hn (by omega)
end Go.Proofs.YtjobmkdaaionlaaGreatDoor
