import Derived.Test.YtbadibbdoljjhaaGreatDoorBase25

set_option linter.unusedVariables false
/-
  The reference's Gcd, Lcm, Bezout; BigintShares: the walk.
-/
namespace Go.Proofs.YtbadibbdoljjhaaGreatDoor
open Go Go.Proofs Go.RowKit

set_option maxHeartbeats 2000000 in
theorem refGcdR (s t : ByteArray) (w : World) (hs : s.size ≤ 9223372036854775807) (ht : t.size ≤ 9223372036854775807) :
    Calls Tryz.prog 20 #[.string s, .string t] w (Bret (opR gcdI (bytes s) (bytes t)) w) := by
  have C1 := fun W => refChecks_any s t W hs ht
  unfold opR
  by_cases h : errBoth (bytes s) (bytes t) = 0
  · rw [if_pos h]
    obtain ⟨h1, h2⟩ := errBoth_zero h
    have q1 := str_of_err h1; have q2 := str_of_err h2
    rw [h] at C1
    generalize valZ (bytes s) = x at *
    generalize valZ (bytes t) = y at *
    have z1 := q1.size; have z2 := q2.size
    have C2 : ∀ W, Calls Tryz.prog 85 #[.string s, .string t] W (Bret (.string (str (Lib.itoa (gcdI x y)))) W) := fun W => refCommonI s t x y W q1.text q2.text (by omega) (by omega)
    rw [resV_lit (gcd_fits q1 q2)]
    generalize str (Lib.itoa (gcdI x y)) = r at *
    have K1 := Lib.hid C1; have K2 := Lib.hid C2
    clear C1 C2 h h1 h2 q1 q2 z1 z2 hs ht
    go_enter Tryz.func20, Tryz.ntmps20
    go_wp2_with (go_at_call 84; refine (K1.out _).mono ?_; rintro e w1 ⟨rfl, h⟩; subst h; refine Hid.out ?_)
    refine Lib.hid ?_
    go_wp2_with (go_at_call 85; refine (K2.out _).mono ?_; rintro e w2 ⟨rfl, hb2⟩; refine Hid.out ?_)
    refine Lib.hid ?_
    go_wp2
    refine bodyPost_ret (by simp [results, Tryz.results20, go_sem]; rfl) rfl ?_
    exact ⟨rfl, hb2⟩
  · rw [if_neg h]
    unfold errV
    have hc := errBoth_cases (bytes s) (bytes t)
    generalize errBoth (bytes s) (bytes t) = c at *
    have K1 := Lib.hid C1; clear C1 hs ht
    rcases hc with rfl | rfl | rfl
    · exact absurd rfl h
    all_goals
      clear h
      go_enter Tryz.func20, Tryz.ntmps20
      go_wp2_with (go_at_call 84; refine (K1.out _).mono ?_; rintro e w1 ⟨rfl, h⟩; subst h; refine Hid.out ?_)
      refine Lib.hid ?_
      go_wp2
      refine bodyPost_ret (by simp [results, Tryz.results20, go_sem]; rfl) rfl ?_
      exact ⟨rfl, Below.refl _ _⟩

theorem lcm_same (x y : Int) : lcmI x y = ((x * y.fdiv (gcdI x y)).natAbs : Int) := by
  by_cases h : gcdI x y = 0
  · obtain ⟨rfl, rfl⟩ := gcdI_zero.1 h
    unfold lcmI; simp
  · unfold lcmI
    obtain ⟨a, ha⟩ : gcdI x y ∣ x := Int.gcd_dvd_left ..
    obtain ⟨b, hb⟩ : gcdI x y ∣ y := Int.gcd_dvd_right ..
    generalize gcdI x y = g at *
    subst ha; subst hb
    rw [Int.mul_fdiv_cancel_left _ h, Int.mul_fdiv_cancel_left _ h, Int.mul_left_comm, Int.mul_assoc]

set_option maxHeartbeats 2000000 in
theorem refLcmR (s t : ByteArray) (w : World) (hs : s.size ≤ 9223372036854775807) (ht : t.size ≤ 9223372036854775807) :
    Calls Tryz.prog 22 #[.string s, .string t] w (Bret (opR lcmI (bytes s) (bytes t)) w) := by
  have C1 := fun W => refChecks_any s t W hs ht
  unfold opR
  by_cases h : errBoth (bytes s) (bytes t) = 0
  · rw [if_pos h]
    obtain ⟨h1, h2⟩ := errBoth_zero h
    have q1 := str_of_err h1; have q2 := str_of_err h2
    rw [h] at C1
    generalize valZ (bytes s) = x at *
    generalize valZ (bytes t) = y at *
    have z1 := q1.size; have z2 := q2.size
    have t1 : Txt 4096 s x := ⟨q1.text, q1.len⟩
    have t2 : Txt 4096 t y := ⟨q2.text, q2.len⟩
    by_cases hx : x = 0
    · subst hx
      obtain rfl := txt_is_zero q1.text
      have e : resV (lcmI 0 y) = .tuple #[.string ⟨#[48]⟩, .int .i64 0] := resV_lit' str_zero (by unfold lcmI; simp)
      rw [e]
      have K1 := Lib.hid C1
      clear C1 h h1 h2 q1 q2 z1 z2 hs ht e t1 t2
      go_enter Tryz.func22, Tryz.ntmps22
      go_wp2_with (go_at_call 84; refine (K1.out _).mono ?_; rintro e w1 ⟨rfl, h⟩; subst h; refine Hid.out ?_)
      refine Lib.hid ?_
      go_wp2
      refine bodyPost_ret (by simp [results, Tryz.results22, go_sem]; rfl) rfl ?_
      exact ⟨rfl, Below.refl _ _⟩
    · have n1 := eq48 s (txt_zero q1.text hx)
      by_cases hy : y = 0
      · subst hy
        obtain rfl := txt_is_zero q2.text
        have e : resV (lcmI x 0) = .tuple #[.string ⟨#[48]⟩, .int .i64 0] := resV_lit' str_zero (by unfold lcmI; simp)
        rw [e]
        have K1 := Lib.hid C1
        clear C1 h h1 h2 q1 q2 z1 z2 hs ht e hx t1 t2
        go_enter Tryz.func22, Tryz.ntmps22
        go_wp2_with (go_at_call 84; refine (K1.out _).mono ?_; rintro e w1 ⟨rfl, h⟩; subst h; refine Hid.out ?_)
        refine Lib.hid ?_
        go_wp2
        refine bodyPost_ret (by simp [results, Tryz.results22, go_sem]; rfl) rfl ?_
        exact ⟨rfl, Below.refl _ _⟩
      · have n2 := eq48 t (txt_zero q2.text hy)
        have hg : gcdI x y ≠ 0 := fun e => hx (gcdI_zero.1 e).1
        have C2 : ∀ W, Calls Tryz.prog 85 #[.string s, .string t] W (Bret (.string (str (Lib.itoa (gcdI x y)))) W) := fun W => refCommonI s t x y W q1.text q2.text (by omega) (by omega)
        have tg : Txt 4096 (str (Lib.itoa (gcdI x y))) (gcdI x y) := ⟨txt_str _, (gcd_fits q1 q2).len⟩
        have tf := txt_fdiv (y := gcdI x y) t2 hg
        have tp := txt_prod t1 tf
        have tm := txt_abs tp
        have C3 := fun W => fdivT W t2 tg (by omega) (by omega) hg
        have C4 := fun W => prodT W t1 tf (by omega) (by omega)
        have C5 := fun W => magT W tp (by omega)
        have C6 := fun W => limited_any _ _ W tm.text (by have := tm.size; omega)
        rw [← lcm_same x y] at C5 C6
        obtain ⟨u, e, hr⟩ := resV_parts (lcmI x y)
        rw [hr] at C6 ⊢
        generalize str (Lib.itoa (lcmI x y)) = r4 at *
        generalize str (Lib.itoa (x * y.fdiv (gcdI x y))) = r3 at *
        generalize str (Lib.itoa (y.fdiv (gcdI x y))) = r2 at *
        generalize str (Lib.itoa (gcdI x y)) = r1 at *
        have K1 := Lib.hid C1; have K2 := Lib.hid C2; have K3 := Lib.hid C3; have K4 := Lib.hid C4; have K5 := Lib.hid C5; have K6 := Lib.hid C6
        clear C1 C2 C3 C4 C5 C6 h h1 h2 q1 q2 z1 z2 hs ht hx hy hg t1 t2 tg tf tp tm hr
        go_enter Tryz.func22, Tryz.ntmps22
        go_wp2_with (go_at_call 84; refine (K1.out _).mono ?_; rintro e w1 ⟨rfl, h⟩; subst h; refine Hid.out ?_)
        refine Lib.hid ?_
        go_wp2_with (go_at_call 85; refine (K2.out _).mono ?_; rintro e w2 ⟨rfl, hb2⟩; refine Hid.out ?_)
        refine Lib.hid ?_
        go_wp2_with (go_at_call 89; refine (K3.out _).mono ?_; rintro e w3 ⟨rfl, hb3⟩; refine Hid.out ?_)
        have hB3 := Below.chain hb2 hb3; clear hb3 hb2
        refine Lib.hid ?_
        go_wp2_with (go_at_call 88; refine (K4.out _).mono ?_; rintro e w4 ⟨rfl, hb4⟩; refine Hid.out ?_)
        have hB4 := Below.chain hB3 hb4; clear hb4 hB3
        refine Lib.hid ?_
        go_wp2_with (go_at_call 87; refine (K5.out _).mono ?_; rintro e w5 ⟨rfl, h⟩; subst h; refine Hid.out ?_)
        refine Lib.hid ?_
        go_wp2_with (go_at_call 86; refine (K6.out _).mono ?_; rintro e w6 ⟨rfl, hb6⟩; refine Hid.out ?_)
        have hB6 := Below.chain hB4 hb6; clear hb6 hB4
        refine Lib.hid ?_
        go_wp2
        refine bodyPost_ret (by simp [results, Tryz.results22, go_sem]; rfl) rfl ?_
        exact ⟨rfl, hB6⟩
  · rw [if_neg h]
    unfold errV
    have hc := errBoth_cases (bytes s) (bytes t)
    generalize errBoth (bytes s) (bytes t) = c at *
    have K1 := Lib.hid C1; clear C1 hs ht
    rcases hc with rfl | rfl | rfl
    · exact absurd rfl h
    all_goals
      clear h
      go_enter Tryz.func22, Tryz.ntmps22
      go_wp2_with (go_at_call 84; refine (K1.out _).mono ?_; rintro e w1 ⟨rfl, h⟩; subst h; refine Hid.out ?_)
      refine Lib.hid ?_
      go_wp2
      refine bodyPost_ret (by simp [results, Tryz.results22, go_sem]; rfl) rfl ?_
      exact ⟨rfl, Below.refl _ _⟩

set_option maxHeartbeats 2000000 in
theorem refBezoutR (s t : ByteArray) (w : World) (hs : s.size ≤ 9223372036854775807) (ht : t.size ≤ 9223372036854775807) :
    Calls Tryz.prog 24 #[.string s, .string t] w (Bret (bezR (bytes s) (bytes t)) w) := by
  have C1 := fun W => refChecks_any s t W hs ht
  unfold bezR
  by_cases h : errBoth (bytes s) (bytes t) = 0
  · rw [if_pos h]
    obtain ⟨h1, h2⟩ := errBoth_zero h
    have q1 := str_of_err h1; have q2 := str_of_err h2
    rw [h] at C1
    generalize valZ (bytes s) = x at *
    generalize valZ (bytes t) = y at *
    have z1 := q1.size; have z2 := q2.size
    have t1 : Txt 100000 s x := ⟨q1.text, Nat.le_trans q1.len (by decide)⟩
    have t2 : Txt 100000 t y := ⟨q2.text, Nat.le_trans q2.len (by decide)⟩
    have C2 := fun W => refCoefficients s t x y W t1 t2
    have C3 := fun W => refCommonI s t x y W q1.text q2.text (by omega) (by omega)
    rw [← (bezOf_spec x y).1] at C3
    unfold bezV
    generalize str (Lib.itoa (bezOf x y).1) = r1 at *
    generalize str (Lib.itoa (bezOf x y).2.1) = r2 at *
    generalize str (Lib.itoa (bezOf x y).2.2) = r3 at *
    have K1 := Lib.hid C1; have K2 := Lib.hid C2; have K3 := Lib.hid C3
    clear C1 C2 C3 h h1 h2 q1 q2 z1 z2 hs ht t1 t2
    go_enter Tryz.func24, Tryz.ntmps24
    go_wp2_with (go_at_call 84; refine (K1.out _).mono ?_; rintro e w1 ⟨rfl, h⟩; subst h; refine Hid.out ?_)
    refine Lib.hid ?_
    go_wp2_with (go_at_call 94; refine (K2.out _).mono ?_; rintro e w2 ⟨rfl, hb2⟩; refine Hid.out ?_)
    refine Lib.hid ?_
    go_wp2_with (go_at_call 85; refine (K3.out _).mono ?_; rintro e w3 ⟨rfl, hb3⟩; refine Hid.out ?_)
    have hB3 := Below.chain hb2 hb3; clear hb3 hb2
    refine Lib.hid ?_
    go_wp2
    refine bodyPost_ret (by simp [results, Tryz.results24, go_sem]; rfl) rfl ?_
    exact ⟨rfl, hB3⟩
  · rw [if_neg h]
    unfold bezErr
    have hc := errBoth_cases (bytes s) (bytes t)
    generalize errBoth (bytes s) (bytes t) = c at *
    have K1 := Lib.hid C1; clear C1 hs ht
    rcases hc with rfl | rfl | rfl
    · exact absurd rfl h
    all_goals
      clear h
      go_enter Tryz.func24, Tryz.ntmps24
      go_wp2_with (go_at_call 84; refine (K1.out _).mono ?_; rintro e w1 ⟨rfl, h⟩; subst h; refine Hid.out ?_)
      refine Lib.hid ?_
      go_wp2
      refine bodyPost_ret (by simp [results, Tryz.results24, go_sem]; rfl) rfl ?_
      exact ⟨rfl, Below.refl _ _⟩

set_option maxRecDepth 20000 in
set_option maxHeartbeats 8000000 in
theorem shares_walk (s t : ByteArray) (w : World) (hs : s.size ≤ 9223372036854775807) (ht : t.size ≤ 9223372036854775807)
    (htab : Lib.TabIs Tryz.prog w "internal/strconv.uint64pow10" .u64 Lib.pow10Tab) :
    Calls Tryz.prog 3 #[.string s, .string t] w fun e w' => e = .returned (.bool true) ∧ Below w.heap.size w w' := by
  have hT := Lib.tabBelow_of_tabIs htab
  have B0 : Below w.heap.size w (w.alloc (Obj.cells #[.string s, .string t] 22)) := (Below.refl _ _).alloc (Nat.le_refl _) _
  have C0 := few_two s t w hs ht
  have C7 : ∀ W : World, Below w.heap.size w W → Calls Tryz.prog 18 #[] W (Bret (.bool true) W) := fun W hW => awake_any W (hT.on hW).here
  have K7 := Lib.hid C7; have HB0 := Lib.hid B0
  clear C7 B0
  cases hf : fewB s && fewB t
  · rw [hf] at C0
    have K0 := Lib.hid C0; clear C0 hf hs ht hT htab
    go_enter Tryz.func3, Tryz.ntmps3
    go_wp2_with (go_at_call 17; refine K0.out.mono ?_; rintro e w0 ⟨rfl, rfl⟩; refine Hid.out ?_)
    have hB0 := HB0.out
    refine Lib.hid ?_
    go_wp2_with (go_at_call 18; refine (K7.out _ hB0).mono ?_; rintro e w1 ⟨rfl, hb1⟩; refine Hid.out ?_)
    have hB1 := Below.chain hB0 hb1; clear hb1 hB0
    refine Lib.hid ?_
    go_wp2
    refine bodyPost_ret (v := .bool true) (by simp [results, Tryz.results3, go_sem]) rfl ?_
    exact ⟨rfl, hB1⟩
  · rw [hf] at C0
    have K0 := Lib.hid C0; clear C0 hf
    have C1 : ∀ W : World, Below w.heap.size w W → Calls Tryz.prog 19 #[.string s, .string t] W (Bret (opR gcdI (bytes s) (bytes t)) W) := fun W hW => bigGcdR s t W hs ht (hT.on hW).here
    have C2 : ∀ W : World, Below w.heap.size w W → Calls Tryz.prog 20 #[.string s, .string t] W (Bret (opR gcdI (bytes s) (bytes t)) W) := fun W hW => refGcdR s t W hs ht
    have C3 : ∀ W : World, Below w.heap.size w W → Calls Tryz.prog 21 #[.string s, .string t] W (Bret (opR lcmI (bytes s) (bytes t)) W) := fun W hW => bigLcmR s t W hs ht (hT.on hW).here
    have C4 : ∀ W : World, Below w.heap.size w W → Calls Tryz.prog 22 #[.string s, .string t] W (Bret (opR lcmI (bytes s) (bytes t)) W) := fun W hW => refLcmR s t W hs ht
    have C5 : ∀ W : World, Below w.heap.size w W → Calls Tryz.prog 23 #[.string s, .string t] W (Bret (bezR (bytes s) (bytes t)) W) := fun W hW => bigBezoutR s t W hs ht (hT.on hW).here
    have C6 : ∀ W : World, Below w.heap.size w W → Calls Tryz.prog 24 #[.string s, .string t] W (Bret (bezR (bytes s) (bytes t)) W) := fun W hW => refBezoutR s t W hs ht
    obtain ⟨u0, e0, h0⟩ := opR_parts gcdI (bytes s) (bytes t)
    rw [h0] at C1 C2
    obtain ⟨u1, e1, h1⟩ := opR_parts lcmI (bytes s) (bytes t)
    rw [h1] at C3 C4
    obtain ⟨u2, v2, z2, e2, h2⟩ := bezR_parts (bytes s) (bytes t)
    rw [h2] at C5 C6
    have K1 := Lib.hid C1; have K2 := Lib.hid C2; have K3 := Lib.hid C3; have K4 := Lib.hid C4; have K5 := Lib.hid C5; have K6 := Lib.hid C6
    clear C1 C2 C3 C4 C5 C6 h0 h1 h2 hs ht hT htab
    go_enter Tryz.func3, Tryz.ntmps3
    go_wp2_with (go_at_call 17; refine K0.out.mono ?_; rintro e w0 ⟨rfl, rfl⟩; refine Hid.out ?_)
    have hB0 := HB0.out
    refine Lib.hid ?_
    go_wp2_with (go_at_call 19; refine (K1.out _ hB0).mono ?_; rintro e w1 ⟨rfl, hb1⟩; refine Hid.out ?_)
    have hB1 := Below.chain hB0 hb1; clear hb1 hB0
    refine Lib.hid ?_
    go_wp2_with (go_at_call 20; refine (K2.out _ hB1).mono ?_; rintro e w2 ⟨rfl, hb2⟩; refine Hid.out ?_)
    have hB2 := Below.chain hB1 hb2; clear hb2 hB1
    refine Lib.hid ?_
    go_wp2_with (go_at_call 21; refine (K3.out _ hB2).mono ?_; rintro e w3 ⟨rfl, hb3⟩; refine Hid.out ?_)
    have hB3 := Below.chain hB2 hb3; clear hb3 hB2
    refine Lib.hid ?_
    go_wp2_with (go_at_call 22; refine (K4.out _ hB3).mono ?_; rintro e w4 ⟨rfl, hb4⟩; refine Hid.out ?_)
    have hB4 := Below.chain hB3 hb4; clear hb4 hB3
    refine Lib.hid ?_
    go_wp2_with (go_at_call 23; refine (K5.out _ hB4).mono ?_; rintro e w5 ⟨rfl, hb5⟩; refine Hid.out ?_)
    have hB5 := Below.chain hB4 hb5; clear hb5 hB4
    refine Lib.hid ?_
    go_wp2_with (go_at_call 24; refine (K6.out _ hB5).mono ?_; rintro e w6 ⟨rfl, hb6⟩; refine Hid.out ?_)
    have hB6 := Below.chain hB5 hb6; clear hb6 hB5
    refine Lib.hid ?_
    go_wp2_with (go_at_call 18; refine (K7.out _ hB6).mono ?_; rintro e w7 ⟨rfl, hb7⟩; refine Hid.out ?_)
    have hB7 := Below.chain hB6 hb7; clear hb7 hB6
    refine Lib.hid ?_
    go_wp2
    refine bodyPost_ret (v := .bool true) (by simp [results, Tryz.results3, go_sem]) rfl ?_
    exact ⟨rfl, hB7⟩
end Go.Proofs.YtbadibbdoljjhaaGreatDoor
