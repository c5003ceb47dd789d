import Derived.Test.YtbadibbdoljjhaaGreatDoorCut33

set_option linter.unusedVariables false
/-
  RationalOrders: the walk.
-/
namespace Go.Proofs.YtbadibbdoljjhaaGreatDoor
open Go Go.Proofs Go.RowKit

theorem ordQ_swap (p q : Rat) : ordQ q p = -ordQ p q := by
  rcases ordQ_cases p q with ⟨h, k⟩ | ⟨h, k⟩ | ⟨h, k⟩
  · rw [h, ordQ_gt k]; rfl
  · subst k; rw [ordQ_eq]; rfl
  · rw [h, ordQ_lt k]
theorem ordQ_le {p q : Rat} (h : ordQ p q ≤ 0) : p ≤ q := by
  rcases ordQ_cases p q with ⟨h, k⟩ | ⟨h, k⟩ | ⟨h, k⟩
  · exact Rat.le_of_lt k
  · rw [k]; exact Rat.le_refl
  · omega
theorem ordQ_of_le {p q : Rat} (h : p ≤ q) : ordQ p q ≤ 0 := by
  rcases ordQ_cases p q with ⟨h1, k⟩ | ⟨h1, k⟩ | ⟨h1, k⟩
  · omega
  · omega
  · exact absurd h (Rat.not_le.2 k)
theorem ordQ_add (p q z : Rat) : ordQ (p + z) (q + z) = ordQ p q := by
  rcases ordQ_cases p q with ⟨h, k⟩ | ⟨h, k⟩ | ⟨h, k⟩
  · rw [h, ordQ_lt (Rat.add_lt_add_right.2 k)]
  · subst k; rw [ordQ_eq, ordQ_eq]
  · rw [h, ordQ_gt (Rat.add_lt_add_right.2 k)]
theorem lt_mul_neg {p q z : Rat} (h : p < q) (hz : z < 0) : q * z < p * z := by
  have h1 : 0 < -z := by have := Rat.neg_lt_neg_iff.2 hz; rwa [Rat.neg_zero] at this
  have h2 := (Rat.mul_lt_mul_right h1).2 h
  rw [Rat.mul_neg, Rat.mul_neg] at h2
  exact Rat.neg_lt_neg_iff.1 h2
theorem ordQ_mul (p q z : Rat) : ordQ (p * z) (q * z) = ordQ p q * ordQ z 0 := by
  rcases ordQ_cases z 0 with ⟨h, k⟩ | ⟨h, k⟩ | ⟨h, k⟩
  · rw [h]
    rcases ordQ_cases p q with ⟨h1, k1⟩ | ⟨h1, k1⟩ | ⟨h1, k1⟩
    · rw [h1, ordQ_gt (lt_mul_neg k1 k)]; rfl
    · subst k1; rw [ordQ_eq, ordQ_eq]; rfl
    · rw [h1, ordQ_lt (lt_mul_neg k1 k)]; rfl
  · rw [h]; subst k; rw [Rat.mul_zero, Rat.mul_zero, ordQ_eq, Int.mul_zero]
  · rw [h, Int.mul_one]
    rcases ordQ_cases p q with ⟨h1, k1⟩ | ⟨h1, k1⟩ | ⟨h1, k1⟩
    · rw [h1, ordQ_lt ((Rat.mul_lt_mul_right k).2 k1)]
    · subst k1; rw [ordQ_eq, ordQ_eq]
    · rw [h1, ordQ_gt ((Rat.mul_lt_mul_right k).2 k1)]
theorem ordQ_range (p q : Rat) : -1 ≤ ordQ p q ∧ ordQ p q ≤ 1 := by
  rcases ordQ_cases p q with ⟨h, -⟩ | ⟨h, -⟩ | ⟨h, -⟩ <;> omega
theorem rstr_differ {s t : ByteArray} {p q : Rat} (hs : RStr s p) (ht : RStr t q) (h : p ≠ q) : s ≠ t := fun e => h (by subst e; exact hs.inj ht)

set_option maxRecDepth 20000 in
set_option maxHeartbeats 8000000 in
theorem orders_1 (s t u r1 r2 m1 m2 : ByteArray) (c3 c4 g : Int) (w : World) (n1 : s ≠ t) (hg0 : -1 ≤ g) (hg1 : g ≤ 1)
    (C0 : Calls Tryz.prog 52 #[.slice (some ⟨w.heap.size, 0, none⟩) 3 3] (w.alloc (Obj.cells #[.string s, .string t, .string u] 35)) (Bret (.bool true) (w.alloc (Obj.cells #[.string s, .string t, .string u] 35))))
    (C1 : ∀ W : World, Below w.heap.size w W → Calls Tryz.prog 41 #[.string s, .string t] W (Bret (.tuple #[.int .i64 (1), .int .i64 0]) W))
    (C2 : ∀ W : World, Below w.heap.size w W → Calls Tryz.prog 41 #[.string t, .string s] W (Bret (.tuple #[.int .i64 (-1), .int .i64 0]) W))
    (C3 : ∀ W : World, Below w.heap.size w W → Calls Tryz.prog 41 #[.string t, .string u] W (Bret (.tuple #[.int .i64 (c3), .int .i64 0]) W))
    (C4 : ∀ W : World, Below w.heap.size w W → Calls Tryz.prog 41 #[.string s, .string u] W (Bret (.tuple #[.int .i64 (c4), .int .i64 0]) W))
    (C5 : ∀ W : World, Below w.heap.size w W → Calls Tryz.prog 43 #[.string s, .string u] W (Bret (.tuple #[.string r1, .int .i64 0]) W))
    (C6 : ∀ W : World, Below w.heap.size w W → Calls Tryz.prog 43 #[.string t, .string u] W (Bret (.tuple #[.string r2, .int .i64 0]) W))
    (C7 : ∀ W : World, Below w.heap.size w W → Calls Tryz.prog 41 #[.string r1, .string r2] W (Bret (.tuple #[.int .i64 (1), .int .i64 0]) W))
    (C8 : ∀ W : World, Below w.heap.size w W → Calls Tryz.prog 41 #[.string u, .string ⟨#[48]⟩] W (Bret (.tuple #[.int .i64 (g), .int .i64 0]) W))
    (C9 : ∀ W : World, Below w.heap.size w W → Calls Tryz.prog 47 #[.string s, .string u] W (Bret (.tuple #[.string m1, .int .i64 0]) W))
    (C10 : ∀ W : World, Below w.heap.size w W → Calls Tryz.prog 47 #[.string t, .string u] W (Bret (.tuple #[.string m2, .int .i64 0]) W))
    (C11 : ∀ W : World, Below w.heap.size w W → Calls Tryz.prog 41 #[.string m1, .string m2] W (Bret (.tuple #[.int .i64 (g), .int .i64 0]) W))
    (CA : ∀ W : World, Below w.heap.size w W → Calls Tryz.prog 26 #[] W (Bret (.bool true) W)) :
    Calls Tryz.prog 9 #[.string s, .string t, .string u] w (Bret (.bool true) w) := by
  have n2 : (s.toList == t.toList) = false := by rw [beq_eq_false_iff_ne]; intro e; exact n1 (ByteArray.ext (Array.toList_inj.1 (by rw [ByteArray.toList_eq, ByteArray.toList_eq] at e; exact e)))
  have B0 : Below w.heap.size w (w.alloc (Obj.cells #[.string s, .string t, .string u] 35)) := (Below.refl _ _).alloc (Nat.le_refl _) _
  have K0 := Lib.hid C0; have K1 := Lib.hid C1; have K2 := Lib.hid C2; have K3 := Lib.hid C3; have K4 := Lib.hid C4; have K5 := Lib.hid C5; have K6 := Lib.hid C6; have K7 := Lib.hid C7; have K8 := Lib.hid C8; have K9 := Lib.hid C9; have K10 := Lib.hid C10; have K11 := Lib.hid C11; have KA := Lib.hid CA; have HB0 := Lib.hid B0
  clear C0 C1 C2 C3 C4 C5 C6 C7 C8 C9 C10 C11 CA B0
  go_enter Tryz.func9, Tryz.ntmps9
  go_wp2_with (go_at_call 52; refine K0.out.mono ?_; rintro e w0 ⟨rfl, hb0⟩; refine Hid.out ?_)
  have hB0 := Below.chain HB0.out hb0; clear hb0
  refine Lib.hid ?_
  go_wp2_with (go_at_call 41; refine (K1.out _ hB0).mono ?_; rintro e w1 ⟨rfl, hb1⟩; refine Hid.out ?_)
  have hB1 := Below.chain hB0 hb1; clear hb1 hB0
  refine Lib.hid ?_
  go_wp2_with (go_at_call 41; refine (K2.out _ hB1).mono ?_; rintro e w2 ⟨rfl, hb2⟩; refine Hid.out ?_)
  have hB2 := Below.chain hB1 hb2; clear hb2 hB1
  refine Lib.hid ?_
  go_wp2_with (go_at_call 41; refine (K3.out _ hB2).mono ?_; rintro e w3 ⟨rfl, hb3⟩; refine Hid.out ?_)
  have hB3 := Below.chain hB2 hb3; clear hb3 hB2
  refine Lib.hid ?_
  go_wp2_with (go_at_call 41; refine (K4.out _ hB3).mono ?_; rintro e w4 ⟨rfl, hb4⟩; refine Hid.out ?_)
  have hB4 := Below.chain hB3 hb4; clear hb4 hB3
  refine Lib.hid ?_
  go_wp2_with (go_at_call 43; refine (K5.out _ hB4).mono ?_; rintro e w5 ⟨rfl, hb5⟩; refine Hid.out ?_)
  have hB5 := Below.chain hB4 hb5; clear hb5 hB4
  refine Lib.hid ?_
  go_wp2_with (go_at_call 43; refine (K6.out _ hB5).mono ?_; rintro e w6 ⟨rfl, hb6⟩; refine Hid.out ?_)
  have hB6 := Below.chain hB5 hb6; clear hb6 hB5
  refine Lib.hid ?_
  go_wp2_with (go_at_call 41; refine (K7.out _ hB6).mono ?_; rintro e w7 ⟨rfl, hb7⟩; refine Hid.out ?_)
  have hB7 := Below.chain hB6 hb7; clear hb7 hB6
  refine Lib.hid ?_
  go_wp2_with (go_at_call 41; refine (K8.out _ hB7).mono ?_; rintro e w8 ⟨rfl, hb8⟩; refine Hid.out ?_)
  have hB8 := Below.chain hB7 hb8; clear hb8 hB7
  refine Lib.hid ?_
  go_wp2_with (go_at_call 47; refine (K9.out _ hB8).mono ?_; rintro e w9 ⟨rfl, hb9⟩; refine Hid.out ?_)
  have hB9 := Below.chain hB8 hb9; clear hb9 hB8
  refine Lib.hid ?_
  go_wp2_with (go_at_call 47; refine (K10.out _ hB9).mono ?_; rintro e w10 ⟨rfl, hb10⟩; refine Hid.out ?_)
  have hB10 := Below.chain hB9 hb10; clear hb10 hB9
  refine Lib.hid ?_
  go_wp2_with (go_at_call 41; refine (K11.out _ hB10).mono ?_; rintro e w11 ⟨rfl, hb11⟩; refine Hid.out ?_)
  have hB11 := Below.chain hB10 hb11; clear hb11 hB10
  refine Lib.hid ?_
  go_wp2_with (go_at_call 26; refine (KA.out _ hB11).mono ?_; rintro e w12 ⟨rfl, hb12⟩; refine Hid.out ?_)
  have hB12 := Below.chain hB11 hb12; clear hb12 hB11
  refine Lib.hid ?_
  go_wp2
  refine bodyPost_ret (v := .bool true) (by simp [results, Tryz.results9, go_sem]) rfl ?_
  exact ⟨rfl, hB12⟩

set_option maxRecDepth 20000 in
set_option maxHeartbeats 8000000 in
theorem orders_0n (s u r1 r2 m1 m2 : ByteArray) (c3 c4 g : Int) (w : World) (h3 : c3 ≤ 0) (h4 : c4 ≤ 0) (hg0 : -1 ≤ g) (hg1 : g ≤ 1)
    (C0 : Calls Tryz.prog 52 #[.slice (some ⟨w.heap.size, 0, none⟩) 3 3] (w.alloc (Obj.cells #[.string s, .string s, .string u] 35)) (Bret (.bool true) (w.alloc (Obj.cells #[.string s, .string s, .string u] 35))))
    (C1 : ∀ W : World, Below w.heap.size w W → Calls Tryz.prog 41 #[.string s, .string s] W (Bret (.tuple #[.int .i64 (0), .int .i64 0]) W))
    (C2 : ∀ W : World, Below w.heap.size w W → Calls Tryz.prog 41 #[.string s, .string s] W (Bret (.tuple #[.int .i64 (0), .int .i64 0]) W))
    (C3 : ∀ W : World, Below w.heap.size w W → Calls Tryz.prog 41 #[.string s, .string u] W (Bret (.tuple #[.int .i64 (c3), .int .i64 0]) W))
    (C4 : ∀ W : World, Below w.heap.size w W → Calls Tryz.prog 41 #[.string s, .string u] W (Bret (.tuple #[.int .i64 (c4), .int .i64 0]) W))
    (C5 : ∀ W : World, Below w.heap.size w W → Calls Tryz.prog 43 #[.string s, .string u] W (Bret (.tuple #[.string r1, .int .i64 0]) W))
    (C6 : ∀ W : World, Below w.heap.size w W → Calls Tryz.prog 43 #[.string s, .string u] W (Bret (.tuple #[.string r1, .int .i64 0]) W))
    (C7 : ∀ W : World, Below w.heap.size w W → Calls Tryz.prog 41 #[.string r1, .string r1] W (Bret (.tuple #[.int .i64 (0), .int .i64 0]) W))
    (C8 : ∀ W : World, Below w.heap.size w W → Calls Tryz.prog 41 #[.string u, .string ⟨#[48]⟩] W (Bret (.tuple #[.int .i64 (g), .int .i64 0]) W))
    (C9 : ∀ W : World, Below w.heap.size w W → Calls Tryz.prog 47 #[.string s, .string u] W (Bret (.tuple #[.string m1, .int .i64 0]) W))
    (C10 : ∀ W : World, Below w.heap.size w W → Calls Tryz.prog 47 #[.string s, .string u] W (Bret (.tuple #[.string m1, .int .i64 0]) W))
    (C11 : ∀ W : World, Below w.heap.size w W → Calls Tryz.prog 41 #[.string m1, .string m1] W (Bret (.tuple #[.int .i64 (0), .int .i64 0]) W))
    (CA : ∀ W : World, Below w.heap.size w W → Calls Tryz.prog 26 #[] W (Bret (.bool true) W)) :
    Calls Tryz.prog 9 #[.string s, .string s, .string u] w (Bret (.bool true) w) := by
  have B0 : Below w.heap.size w (w.alloc (Obj.cells #[.string s, .string s, .string u] 35)) := (Below.refl _ _).alloc (Nat.le_refl _) _
  have K0 := Lib.hid C0; have K1 := Lib.hid C1; have K2 := Lib.hid C2; have K3 := Lib.hid C3; have K4 := Lib.hid C4; have K5 := Lib.hid C5; have K6 := Lib.hid C6; have K7 := Lib.hid C7; have K8 := Lib.hid C8; have K9 := Lib.hid C9; have K10 := Lib.hid C10; have K11 := Lib.hid C11; have KA := Lib.hid CA; have HB0 := Lib.hid B0
  clear C0 C1 C2 C3 C4 C5 C6 C7 C8 C9 C10 C11 CA B0
  go_enter Tryz.func9, Tryz.ntmps9
  go_wp2_with (go_at_call 52; refine K0.out.mono ?_; rintro e w0 ⟨rfl, hb0⟩; refine Hid.out ?_)
  have hB0 := Below.chain HB0.out hb0; clear hb0
  refine Lib.hid ?_
  go_wp2_with (go_at_call 41; refine (K1.out _ hB0).mono ?_; rintro e w1 ⟨rfl, hb1⟩; refine Hid.out ?_)
  have hB1 := Below.chain hB0 hb1; clear hb1 hB0
  refine Lib.hid ?_
  go_wp2_with (go_at_call 41; refine (K2.out _ hB1).mono ?_; rintro e w2 ⟨rfl, hb2⟩; refine Hid.out ?_)
  have hB2 := Below.chain hB1 hb2; clear hb2 hB1
  refine Lib.hid ?_
  go_wp2_with (go_at_call 41; refine (K3.out _ hB2).mono ?_; rintro e w3 ⟨rfl, hb3⟩; refine Hid.out ?_)
  have hB3 := Below.chain hB2 hb3; clear hb3 hB2
  refine Lib.hid ?_
  go_wp2_with (go_at_call 41; refine (K4.out _ hB3).mono ?_; rintro e w4 ⟨rfl, hb4⟩; refine Hid.out ?_)
  have hB4 := Below.chain hB3 hb4; clear hb4 hB3
  refine Lib.hid ?_
  go_wp2_with (go_at_call 43; refine (K5.out _ hB4).mono ?_; rintro e w5 ⟨rfl, hb5⟩; refine Hid.out ?_)
  have hB5 := Below.chain hB4 hb5; clear hb5 hB4
  refine Lib.hid ?_
  go_wp2_with (go_at_call 43; refine (K6.out _ hB5).mono ?_; rintro e w6 ⟨rfl, hb6⟩; refine Hid.out ?_)
  have hB6 := Below.chain hB5 hb6; clear hb6 hB5
  refine Lib.hid ?_
  go_wp2_with (go_at_call 41; refine (K7.out _ hB6).mono ?_; rintro e w7 ⟨rfl, hb7⟩; refine Hid.out ?_)
  have hB7 := Below.chain hB6 hb7; clear hb7 hB6
  refine Lib.hid ?_
  go_wp2_with (go_at_call 41; refine (K8.out _ hB7).mono ?_; rintro e w8 ⟨rfl, hb8⟩; refine Hid.out ?_)
  have hB8 := Below.chain hB7 hb8; clear hb8 hB7
  refine Lib.hid ?_
  go_wp2_with (go_at_call 47; refine (K9.out _ hB8).mono ?_; rintro e w9 ⟨rfl, hb9⟩; refine Hid.out ?_)
  have hB9 := Below.chain hB8 hb9; clear hb9 hB8
  refine Lib.hid ?_
  go_wp2_with (go_at_call 47; refine (K10.out _ hB9).mono ?_; rintro e w10 ⟨rfl, hb10⟩; refine Hid.out ?_)
  have hB10 := Below.chain hB9 hb10; clear hb10 hB9
  refine Lib.hid ?_
  go_wp2_with (go_at_call 41; refine (K11.out _ hB10).mono ?_; rintro e w11 ⟨rfl, hb11⟩; refine Hid.out ?_)
  have hB11 := Below.chain hB10 hb11; clear hb11 hB10
  refine Lib.hid ?_
  go_wp2_with (go_at_call 26; refine (KA.out _ hB11).mono ?_; rintro e w12 ⟨rfl, hb12⟩; refine Hid.out ?_)
  have hB12 := Below.chain hB11 hb12; clear hb12 hB11
  refine Lib.hid ?_
  go_wp2
  refine bodyPost_ret (v := .bool true) (by simp [results, Tryz.results9, go_sem]) rfl ?_
  exact ⟨rfl, hB12⟩

set_option maxRecDepth 20000 in
set_option maxHeartbeats 8000000 in
theorem orders_0p (s u r1 r2 m1 m2 : ByteArray) (c3 c4 g : Int) (w : World) (h3 : 0 < c3) (hg0 : -1 ≤ g) (hg1 : g ≤ 1)
    (C0 : Calls Tryz.prog 52 #[.slice (some ⟨w.heap.size, 0, none⟩) 3 3] (w.alloc (Obj.cells #[.string s, .string s, .string u] 35)) (Bret (.bool true) (w.alloc (Obj.cells #[.string s, .string s, .string u] 35))))
    (C1 : ∀ W : World, Below w.heap.size w W → Calls Tryz.prog 41 #[.string s, .string s] W (Bret (.tuple #[.int .i64 (0), .int .i64 0]) W))
    (C2 : ∀ W : World, Below w.heap.size w W → Calls Tryz.prog 41 #[.string s, .string s] W (Bret (.tuple #[.int .i64 (0), .int .i64 0]) W))
    (C3 : ∀ W : World, Below w.heap.size w W → Calls Tryz.prog 41 #[.string s, .string u] W (Bret (.tuple #[.int .i64 (c3), .int .i64 0]) W))
    (C4 : ∀ W : World, Below w.heap.size w W → Calls Tryz.prog 41 #[.string s, .string u] W (Bret (.tuple #[.int .i64 (c4), .int .i64 0]) W))
    (C5 : ∀ W : World, Below w.heap.size w W → Calls Tryz.prog 43 #[.string s, .string u] W (Bret (.tuple #[.string r1, .int .i64 0]) W))
    (C6 : ∀ W : World, Below w.heap.size w W → Calls Tryz.prog 43 #[.string s, .string u] W (Bret (.tuple #[.string r1, .int .i64 0]) W))
    (C7 : ∀ W : World, Below w.heap.size w W → Calls Tryz.prog 41 #[.string r1, .string r1] W (Bret (.tuple #[.int .i64 (0), .int .i64 0]) W))
    (C8 : ∀ W : World, Below w.heap.size w W → Calls Tryz.prog 41 #[.string u, .string ⟨#[48]⟩] W (Bret (.tuple #[.int .i64 (g), .int .i64 0]) W))
    (C9 : ∀ W : World, Below w.heap.size w W → Calls Tryz.prog 47 #[.string s, .string u] W (Bret (.tuple #[.string m1, .int .i64 0]) W))
    (C10 : ∀ W : World, Below w.heap.size w W → Calls Tryz.prog 47 #[.string s, .string u] W (Bret (.tuple #[.string m1, .int .i64 0]) W))
    (C11 : ∀ W : World, Below w.heap.size w W → Calls Tryz.prog 41 #[.string m1, .string m1] W (Bret (.tuple #[.int .i64 (0), .int .i64 0]) W))
    (CA : ∀ W : World, Below w.heap.size w W → Calls Tryz.prog 26 #[] W (Bret (.bool true) W)) :
    Calls Tryz.prog 9 #[.string s, .string s, .string u] w (Bret (.bool true) w) := by
  have B0 : Below w.heap.size w (w.alloc (Obj.cells #[.string s, .string s, .string u] 35)) := (Below.refl _ _).alloc (Nat.le_refl _) _
  have K0 := Lib.hid C0; have K1 := Lib.hid C1; have K2 := Lib.hid C2; have K3 := Lib.hid C3; have K4 := Lib.hid C4; have K5 := Lib.hid C5; have K6 := Lib.hid C6; have K7 := Lib.hid C7; have K8 := Lib.hid C8; have K9 := Lib.hid C9; have K10 := Lib.hid C10; have K11 := Lib.hid C11; have KA := Lib.hid CA; have HB0 := Lib.hid B0
  clear C0 C1 C2 C3 C4 C5 C6 C7 C8 C9 C10 C11 CA B0
  go_enter Tryz.func9, Tryz.ntmps9
  go_wp2_with (go_at_call 52; refine K0.out.mono ?_; rintro e w0 ⟨rfl, hb0⟩; refine Hid.out ?_)
  have hB0 := Below.chain HB0.out hb0; clear hb0
  refine Lib.hid ?_
  go_wp2_with (go_at_call 41; refine (K1.out _ hB0).mono ?_; rintro e w1 ⟨rfl, hb1⟩; refine Hid.out ?_)
  have hB1 := Below.chain hB0 hb1; clear hb1 hB0
  refine Lib.hid ?_
  go_wp2_with (go_at_call 41; refine (K2.out _ hB1).mono ?_; rintro e w2 ⟨rfl, hb2⟩; refine Hid.out ?_)
  have hB2 := Below.chain hB1 hb2; clear hb2 hB1
  refine Lib.hid ?_
  go_wp2_with (go_at_call 41; refine (K3.out _ hB2).mono ?_; rintro e w3 ⟨rfl, hb3⟩; refine Hid.out ?_)
  have hB3 := Below.chain hB2 hb3; clear hb3 hB2
  refine Lib.hid ?_
  go_wp2_with (go_at_call 41; refine (K4.out _ hB3).mono ?_; rintro e w4 ⟨rfl, hb4⟩; refine Hid.out ?_)
  have hB4 := Below.chain hB3 hb4; clear hb4 hB3
  refine Lib.hid ?_
  go_wp2_with (go_at_call 43; refine (K5.out _ hB4).mono ?_; rintro e w5 ⟨rfl, hb5⟩; refine Hid.out ?_)
  have hB5 := Below.chain hB4 hb5; clear hb5 hB4
  refine Lib.hid ?_
  go_wp2_with (go_at_call 43; refine (K6.out _ hB5).mono ?_; rintro e w6 ⟨rfl, hb6⟩; refine Hid.out ?_)
  have hB6 := Below.chain hB5 hb6; clear hb6 hB5
  refine Lib.hid ?_
  go_wp2_with (go_at_call 41; refine (K7.out _ hB6).mono ?_; rintro e w7 ⟨rfl, hb7⟩; refine Hid.out ?_)
  have hB7 := Below.chain hB6 hb7; clear hb7 hB6
  refine Lib.hid ?_
  go_wp2_with (go_at_call 41; refine (K8.out _ hB7).mono ?_; rintro e w8 ⟨rfl, hb8⟩; refine Hid.out ?_)
  have hB8 := Below.chain hB7 hb8; clear hb8 hB7
  refine Lib.hid ?_
  go_wp2_with (go_at_call 47; refine (K9.out _ hB8).mono ?_; rintro e w9 ⟨rfl, hb9⟩; refine Hid.out ?_)
  have hB9 := Below.chain hB8 hb9; clear hb9 hB8
  refine Lib.hid ?_
  go_wp2_with (go_at_call 47; refine (K10.out _ hB9).mono ?_; rintro e w10 ⟨rfl, hb10⟩; refine Hid.out ?_)
  have hB10 := Below.chain hB9 hb10; clear hb10 hB9
  refine Lib.hid ?_
  go_wp2_with (go_at_call 41; refine (K11.out _ hB10).mono ?_; rintro e w11 ⟨rfl, hb11⟩; refine Hid.out ?_)
  have hB11 := Below.chain hB10 hb11; clear hb11 hB10
  refine Lib.hid ?_
  go_wp2_with (go_at_call 26; refine (KA.out _ hB11).mono ?_; rintro e w12 ⟨rfl, hb12⟩; refine Hid.out ?_)
  have hB12 := Below.chain hB11 hb12; clear hb12 hB11
  refine Lib.hid ?_
  go_wp2
  refine bodyPost_ret (v := .bool true) (by simp [results, Tryz.results9, go_sem]) rfl ?_
  exact ⟨rfl, hB12⟩

set_option maxRecDepth 20000 in
set_option maxHeartbeats 8000000 in
theorem orders_mn (s t u r1 r2 m1 m2 : ByteArray) (c3 c4 g : Int) (w : World) (n1 : s ≠ t) (h3 : c3 ≤ 0) (h4 : c4 ≤ 0) (hg0 : -1 ≤ g) (hg1 : g ≤ 1)
    (C0 : Calls Tryz.prog 52 #[.slice (some ⟨w.heap.size, 0, none⟩) 3 3] (w.alloc (Obj.cells #[.string s, .string t, .string u] 35)) (Bret (.bool true) (w.alloc (Obj.cells #[.string s, .string t, .string u] 35))))
    (C1 : ∀ W : World, Below w.heap.size w W → Calls Tryz.prog 41 #[.string s, .string t] W (Bret (.tuple #[.int .i64 (-1), .int .i64 0]) W))
    (C2 : ∀ W : World, Below w.heap.size w W → Calls Tryz.prog 41 #[.string t, .string s] W (Bret (.tuple #[.int .i64 (1), .int .i64 0]) W))
    (C3 : ∀ W : World, Below w.heap.size w W → Calls Tryz.prog 41 #[.string t, .string u] W (Bret (.tuple #[.int .i64 (c3), .int .i64 0]) W))
    (C4 : ∀ W : World, Below w.heap.size w W → Calls Tryz.prog 41 #[.string s, .string u] W (Bret (.tuple #[.int .i64 (c4), .int .i64 0]) W))
    (C5 : ∀ W : World, Below w.heap.size w W → Calls Tryz.prog 43 #[.string s, .string u] W (Bret (.tuple #[.string r1, .int .i64 0]) W))
    (C6 : ∀ W : World, Below w.heap.size w W → Calls Tryz.prog 43 #[.string t, .string u] W (Bret (.tuple #[.string r2, .int .i64 0]) W))
    (C7 : ∀ W : World, Below w.heap.size w W → Calls Tryz.prog 41 #[.string r1, .string r2] W (Bret (.tuple #[.int .i64 (-1), .int .i64 0]) W))
    (C8 : ∀ W : World, Below w.heap.size w W → Calls Tryz.prog 41 #[.string u, .string ⟨#[48]⟩] W (Bret (.tuple #[.int .i64 (g), .int .i64 0]) W))
    (C9 : ∀ W : World, Below w.heap.size w W → Calls Tryz.prog 47 #[.string s, .string u] W (Bret (.tuple #[.string m1, .int .i64 0]) W))
    (C10 : ∀ W : World, Below w.heap.size w W → Calls Tryz.prog 47 #[.string t, .string u] W (Bret (.tuple #[.string m2, .int .i64 0]) W))
    (C11 : ∀ W : World, Below w.heap.size w W → Calls Tryz.prog 41 #[.string m1, .string m2] W (Bret (.tuple #[.int .i64 (-g), .int .i64 0]) W))
    (CA : ∀ W : World, Below w.heap.size w W → Calls Tryz.prog 26 #[] W (Bret (.bool true) W)) :
    Calls Tryz.prog 9 #[.string s, .string t, .string u] w (Bret (.bool true) w) := by
  have n2 : (s.toList == t.toList) = false := by rw [beq_eq_false_iff_ne]; intro e; exact n1 (ByteArray.ext (Array.toList_inj.1 (by rw [ByteArray.toList_eq, ByteArray.toList_eq] at e; exact e)))
  have B0 : Below w.heap.size w (w.alloc (Obj.cells #[.string s, .string t, .string u] 35)) := (Below.refl _ _).alloc (Nat.le_refl _) _
  have K0 := Lib.hid C0; have K1 := Lib.hid C1; have K2 := Lib.hid C2; have K3 := Lib.hid C3; have K4 := Lib.hid C4; have K5 := Lib.hid C5; have K6 := Lib.hid C6; have K7 := Lib.hid C7; have K8 := Lib.hid C8; have K9 := Lib.hid C9; have K10 := Lib.hid C10; have K11 := Lib.hid C11; have KA := Lib.hid CA; have HB0 := Lib.hid B0
  clear C0 C1 C2 C3 C4 C5 C6 C7 C8 C9 C10 C11 CA B0
  go_enter Tryz.func9, Tryz.ntmps9
  go_wp2_with (go_at_call 52; refine K0.out.mono ?_; rintro e w0 ⟨rfl, hb0⟩; refine Hid.out ?_)
  have hB0 := Below.chain HB0.out hb0; clear hb0
  refine Lib.hid ?_
  go_wp2_with (go_at_call 41; refine (K1.out _ hB0).mono ?_; rintro e w1 ⟨rfl, hb1⟩; refine Hid.out ?_)
  have hB1 := Below.chain hB0 hb1; clear hb1 hB0
  refine Lib.hid ?_
  go_wp2_with (go_at_call 41; refine (K2.out _ hB1).mono ?_; rintro e w2 ⟨rfl, hb2⟩; refine Hid.out ?_)
  have hB2 := Below.chain hB1 hb2; clear hb2 hB1
  refine Lib.hid ?_
  go_wp2_with (go_at_call 41; refine (K3.out _ hB2).mono ?_; rintro e w3 ⟨rfl, hb3⟩; refine Hid.out ?_)
  have hB3 := Below.chain hB2 hb3; clear hb3 hB2
  refine Lib.hid ?_
  go_wp2_with (go_at_call 41; refine (K4.out _ hB3).mono ?_; rintro e w4 ⟨rfl, hb4⟩; refine Hid.out ?_)
  have hB4 := Below.chain hB3 hb4; clear hb4 hB3
  refine Lib.hid ?_
  go_wp2_with (go_at_call 43; refine (K5.out _ hB4).mono ?_; rintro e w5 ⟨rfl, hb5⟩; refine Hid.out ?_)
  have hB5 := Below.chain hB4 hb5; clear hb5 hB4
  refine Lib.hid ?_
  go_wp2_with (go_at_call 43; refine (K6.out _ hB5).mono ?_; rintro e w6 ⟨rfl, hb6⟩; refine Hid.out ?_)
  have hB6 := Below.chain hB5 hb6; clear hb6 hB5
  refine Lib.hid ?_
  go_wp2_with (go_at_call 41; refine (K7.out _ hB6).mono ?_; rintro e w7 ⟨rfl, hb7⟩; refine Hid.out ?_)
  have hB7 := Below.chain hB6 hb7; clear hb7 hB6
  refine Lib.hid ?_
  go_wp2_with (go_at_call 41; refine (K8.out _ hB7).mono ?_; rintro e w8 ⟨rfl, hb8⟩; refine Hid.out ?_)
  have hB8 := Below.chain hB7 hb8; clear hb8 hB7
  refine Lib.hid ?_
  go_wp2_with (go_at_call 47; refine (K9.out _ hB8).mono ?_; rintro e w9 ⟨rfl, hb9⟩; refine Hid.out ?_)
  have hB9 := Below.chain hB8 hb9; clear hb9 hB8
  refine Lib.hid ?_
  go_wp2_with (go_at_call 47; refine (K10.out _ hB9).mono ?_; rintro e w10 ⟨rfl, hb10⟩; refine Hid.out ?_)
  have hB10 := Below.chain hB9 hb10; clear hb10 hB9
  refine Lib.hid ?_
  go_wp2_with (go_at_call 41; refine (K11.out _ hB10).mono ?_; rintro e w11 ⟨rfl, hb11⟩; refine Hid.out ?_)
  have hB11 := Below.chain hB10 hb11; clear hb11 hB10
  refine Lib.hid ?_
  go_wp2_with (go_at_call 26; refine (KA.out _ hB11).mono ?_; rintro e w12 ⟨rfl, hb12⟩; refine Hid.out ?_)
  have hB12 := Below.chain hB11 hb12; clear hb12 hB11
  refine Lib.hid ?_
  go_wp2
  refine bodyPost_ret (v := .bool true) (by simp [results, Tryz.results9, go_sem]) rfl ?_
  exact ⟨rfl, hB12⟩

set_option maxRecDepth 20000 in
set_option maxHeartbeats 8000000 in
theorem orders_mp (s t u r1 r2 m1 m2 : ByteArray) (c3 c4 g : Int) (w : World) (n1 : s ≠ t) (h3 : 0 < c3) (hg0 : -1 ≤ g) (hg1 : g ≤ 1)
    (C0 : Calls Tryz.prog 52 #[.slice (some ⟨w.heap.size, 0, none⟩) 3 3] (w.alloc (Obj.cells #[.string s, .string t, .string u] 35)) (Bret (.bool true) (w.alloc (Obj.cells #[.string s, .string t, .string u] 35))))
    (C1 : ∀ W : World, Below w.heap.size w W → Calls Tryz.prog 41 #[.string s, .string t] W (Bret (.tuple #[.int .i64 (-1), .int .i64 0]) W))
    (C2 : ∀ W : World, Below w.heap.size w W → Calls Tryz.prog 41 #[.string t, .string s] W (Bret (.tuple #[.int .i64 (1), .int .i64 0]) W))
    (C3 : ∀ W : World, Below w.heap.size w W → Calls Tryz.prog 41 #[.string t, .string u] W (Bret (.tuple #[.int .i64 (c3), .int .i64 0]) W))
    (C4 : ∀ W : World, Below w.heap.size w W → Calls Tryz.prog 41 #[.string s, .string u] W (Bret (.tuple #[.int .i64 (c4), .int .i64 0]) W))
    (C5 : ∀ W : World, Below w.heap.size w W → Calls Tryz.prog 43 #[.string s, .string u] W (Bret (.tuple #[.string r1, .int .i64 0]) W))
    (C6 : ∀ W : World, Below w.heap.size w W → Calls Tryz.prog 43 #[.string t, .string u] W (Bret (.tuple #[.string r2, .int .i64 0]) W))
    (C7 : ∀ W : World, Below w.heap.size w W → Calls Tryz.prog 41 #[.string r1, .string r2] W (Bret (.tuple #[.int .i64 (-1), .int .i64 0]) W))
    (C8 : ∀ W : World, Below w.heap.size w W → Calls Tryz.prog 41 #[.string u, .string ⟨#[48]⟩] W (Bret (.tuple #[.int .i64 (g), .int .i64 0]) W))
    (C9 : ∀ W : World, Below w.heap.size w W → Calls Tryz.prog 47 #[.string s, .string u] W (Bret (.tuple #[.string m1, .int .i64 0]) W))
    (C10 : ∀ W : World, Below w.heap.size w W → Calls Tryz.prog 47 #[.string t, .string u] W (Bret (.tuple #[.string m2, .int .i64 0]) W))
    (C11 : ∀ W : World, Below w.heap.size w W → Calls Tryz.prog 41 #[.string m1, .string m2] W (Bret (.tuple #[.int .i64 (-g), .int .i64 0]) W))
    (CA : ∀ W : World, Below w.heap.size w W → Calls Tryz.prog 26 #[] W (Bret (.bool true) W)) :
    Calls Tryz.prog 9 #[.string s, .string t, .string u] w (Bret (.bool true) w) := by
  have n2 : (s.toList == t.toList) = false := by rw [beq_eq_false_iff_ne]; intro e; exact n1 (ByteArray.ext (Array.toList_inj.1 (by rw [ByteArray.toList_eq, ByteArray.toList_eq] at e; exact e)))
  have B0 : Below w.heap.size w (w.alloc (Obj.cells #[.string s, .string t, .string u] 35)) := (Below.refl _ _).alloc (Nat.le_refl _) _
  have K0 := Lib.hid C0; have K1 := Lib.hid C1; have K2 := Lib.hid C2; have K3 := Lib.hid C3; have K4 := Lib.hid C4; have K5 := Lib.hid C5; have K6 := Lib.hid C6; have K7 := Lib.hid C7; have K8 := Lib.hid C8; have K9 := Lib.hid C9; have K10 := Lib.hid C10; have K11 := Lib.hid C11; have KA := Lib.hid CA; have HB0 := Lib.hid B0
  clear C0 C1 C2 C3 C4 C5 C6 C7 C8 C9 C10 C11 CA B0
  go_enter Tryz.func9, Tryz.ntmps9
  go_wp2_with (go_at_call 52; refine K0.out.mono ?_; rintro e w0 ⟨rfl, hb0⟩; refine Hid.out ?_)
  have hB0 := Below.chain HB0.out hb0; clear hb0
  refine Lib.hid ?_
  go_wp2_with (go_at_call 41; refine (K1.out _ hB0).mono ?_; rintro e w1 ⟨rfl, hb1⟩; refine Hid.out ?_)
  have hB1 := Below.chain hB0 hb1; clear hb1 hB0
  refine Lib.hid ?_
  go_wp2_with (go_at_call 41; refine (K2.out _ hB1).mono ?_; rintro e w2 ⟨rfl, hb2⟩; refine Hid.out ?_)
  have hB2 := Below.chain hB1 hb2; clear hb2 hB1
  refine Lib.hid ?_
  go_wp2_with (go_at_call 41; refine (K3.out _ hB2).mono ?_; rintro e w3 ⟨rfl, hb3⟩; refine Hid.out ?_)
  have hB3 := Below.chain hB2 hb3; clear hb3 hB2
  refine Lib.hid ?_
  go_wp2_with (go_at_call 41; refine (K4.out _ hB3).mono ?_; rintro e w4 ⟨rfl, hb4⟩; refine Hid.out ?_)
  have hB4 := Below.chain hB3 hb4; clear hb4 hB3
  refine Lib.hid ?_
  go_wp2_with (go_at_call 43; refine (K5.out _ hB4).mono ?_; rintro e w5 ⟨rfl, hb5⟩; refine Hid.out ?_)
  have hB5 := Below.chain hB4 hb5; clear hb5 hB4
  refine Lib.hid ?_
  go_wp2_with (go_at_call 43; refine (K6.out _ hB5).mono ?_; rintro e w6 ⟨rfl, hb6⟩; refine Hid.out ?_)
  have hB6 := Below.chain hB5 hb6; clear hb6 hB5
  refine Lib.hid ?_
  go_wp2_with (go_at_call 41; refine (K7.out _ hB6).mono ?_; rintro e w7 ⟨rfl, hb7⟩; refine Hid.out ?_)
  have hB7 := Below.chain hB6 hb7; clear hb7 hB6
  refine Lib.hid ?_
  go_wp2_with (go_at_call 41; refine (K8.out _ hB7).mono ?_; rintro e w8 ⟨rfl, hb8⟩; refine Hid.out ?_)
  have hB8 := Below.chain hB7 hb8; clear hb8 hB7
  refine Lib.hid ?_
  go_wp2_with (go_at_call 47; refine (K9.out _ hB8).mono ?_; rintro e w9 ⟨rfl, hb9⟩; refine Hid.out ?_)
  have hB9 := Below.chain hB8 hb9; clear hb9 hB8
  refine Lib.hid ?_
  go_wp2_with (go_at_call 47; refine (K10.out _ hB9).mono ?_; rintro e w10 ⟨rfl, hb10⟩; refine Hid.out ?_)
  have hB10 := Below.chain hB9 hb10; clear hb10 hB9
  refine Lib.hid ?_
  go_wp2_with (go_at_call 41; refine (K11.out _ hB10).mono ?_; rintro e w11 ⟨rfl, hb11⟩; refine Hid.out ?_)
  have hB11 := Below.chain hB10 hb11; clear hb11 hB10
  refine Lib.hid ?_
  go_wp2_with (go_at_call 26; refine (KA.out _ hB11).mono ?_; rintro e w12 ⟨rfl, hb12⟩; refine Hid.out ?_)
  have hB12 := Below.chain hB11 hb12; clear hb12 hB11
  refine Lib.hid ?_
  go_wp2
  refine bodyPost_ret (v := .bool true) (by simp [results, Tryz.results9, go_sem]) rfl ?_
  exact ⟨rfl, hB12⟩

set_option maxRecDepth 20000 in
set_option maxHeartbeats 4000000 in
theorem rorders_awake (s t u : ByteArray) (w : World)
    (C0 : Calls Tryz.prog 52 #[.slice (some ⟨w.heap.size, 0, none⟩) 3 3] (w.alloc (Obj.cells #[.string s, .string t, .string u] 35)) (Bret (.bool false) (w.alloc (Obj.cells #[.string s, .string t, .string u] 35))))
    (htab : Lib.TabIs Tryz.prog w "internal/strconv.uint64pow10" .u64 Lib.pow10Tab) :
    Calls Tryz.prog 9 #[.string s, .string t, .string u] w (Bret (.bool true) w) := by
  have hT := Lib.tabBelow_of_tabIs htab
  have C1 : ∀ W : World, Below w.heap.size w W → Calls Tryz.prog 26 #[] W (Bret (.bool true) W) := fun W hW => awake02 W (hT.on hW).here
  have B0 : Below w.heap.size w (w.alloc (Obj.cells #[.string s, .string t, .string u] 35)) := (Below.refl _ _).alloc (Nat.le_refl _) _
  have K0 := Lib.hid C0; have K1 := Lib.hid C1; have HB0 := Lib.hid B0
  clear C0 C1 B0 hT htab
  go_enter Tryz.func9, Tryz.ntmps9
  go_wp2_with (go_at_call 52; refine K0.out.mono ?_; rintro e w0 ⟨rfl, hb0⟩; refine Hid.out ?_)
  have hB0 := Below.chain HB0.out hb0; clear hb0
  refine Lib.hid ?_
  go_wp2_with (go_at_call 26; refine (K1.out _ hB0).mono ?_; rintro e w1 ⟨rfl, hb1⟩; refine Hid.out ?_)
  have hB1 := Below.chain hB0 hb1; clear hb1 hB0
  refine Lib.hid ?_
  go_wp2
  refine bodyPost_ret (v := .bool true) (by simp [results, Tryz.results9, go_sem]) rfl ?_
  exact ⟨rfl, hB1⟩

theorem rorders_main (s t u : ByteArray) (p q z : Rat) (w : World) (hs : RStr s p) (ht : RStr t q) (hu : RStr u z) (hp : RZ 300 p) (hq : RZ 300 q) (hz : RZ 300 z)
    (C0 : Calls Tryz.prog 52 #[.slice (some ⟨w.heap.size, 0, none⟩) 3 3] (w.alloc (Obj.cells #[.string s, .string t, .string u] 35)) (Bret (.bool true) (w.alloc (Obj.cells #[.string s, .string t, .string u] 35))))
    (htab : Lib.TabIs Tryz.prog w "internal/strconv.uint64pow10" .u64 Lib.pow10Tab) :
    Calls Tryz.prog 9 #[.string s, .string t, .string u] w (Bret (.bool true) w) := by
  have hT := Lib.tabBelow_of_tabIs htab
  have h00 : RZ 1 0 := ⟨by unfold Sz; decide, by unfold Sz; decide⟩
  have r1 := rstrZ (hp.add hz) (by decide)
  have r2 := rstrZ (hq.add hz) (by decide)
  have m1 := rstrZ (hp.mul hz) (by decide)
  have m2 := rstrZ (hq.mul hz) (by decide)
  have C1 : ∀ W : World, Below w.heap.size w W → Calls Tryz.prog 41 #[.string s, .string t] W (Bret (.tuple #[.int .i64 (ordQ p q), .int .i64 0]) W) := fun W hW => by
    have := rcmpS hs ht hp hq (by decide) W (hT.on hW).here; exact this
  have C2 : ∀ W : World, Below w.heap.size w W → Calls Tryz.prog 41 #[.string t, .string s] W (Bret (.tuple #[.int .i64 (-ordQ p q), .int .i64 0]) W) := fun W hW => by
    have := rcmpS ht hs hq hp (by decide) W (hT.on hW).here; rwa [ordQ_swap p q] at this
  have C3 : ∀ W : World, Below w.heap.size w W → Calls Tryz.prog 41 #[.string t, .string u] W (Bret (.tuple #[.int .i64 (ordQ q z), .int .i64 0]) W) := fun W hW => by
    have := rcmpS ht hu hq hz (by decide) W (hT.on hW).here; exact this
  have C4 : ∀ W : World, Below w.heap.size w W → Calls Tryz.prog 41 #[.string s, .string u] W (Bret (.tuple #[.int .i64 (ordQ p z), .int .i64 0]) W) := fun W hW => by
    have := rcmpS hs hu hp hz (by decide) W (hT.on hW).here; exact this
  have C5 : ∀ W : World, Below w.heap.size w W → Calls Tryz.prog 43 #[.string s, .string u] W (Bret (.tuple #[.string (str (ratL (p + z))), .int .i64 0]) W) := fun W hW => by
    have := raddS hs hu hp hz (by decide) W (hT.on hW).here; exact this
  have C6 : ∀ W : World, Below w.heap.size w W → Calls Tryz.prog 43 #[.string t, .string u] W (Bret (.tuple #[.string (str (ratL (q + z))), .int .i64 0]) W) := fun W hW => by
    have := raddS ht hu hq hz (by decide) W (hT.on hW).here; exact this
  have C7 : ∀ W : World, Below w.heap.size w W → Calls Tryz.prog 41 #[.string (str (ratL (p + z))), .string (str (ratL (q + z)))] W (Bret (.tuple #[.int .i64 (ordQ p q), .int .i64 0]) W) := fun W hW => by
    have := rcmpS r1 r2 (hp.add hz) (hq.add hz) (by decide) W (hT.on hW).here; rwa [ordQ_add] at this
  have C8 : ∀ W : World, Below w.heap.size w W → Calls Tryz.prog 41 #[.string u, .string ⟨#[48]⟩] W (Bret (.tuple #[.int .i64 (ordQ z 0), .int .i64 0]) W) := fun W hW => by
    have := rcmpS hu zero_rstr hz h00 (by decide) W (hT.on hW).here; exact this
  have C9 : ∀ W : World, Below w.heap.size w W → Calls Tryz.prog 47 #[.string s, .string u] W (Bret (.tuple #[.string (str (ratL (p * z))), .int .i64 0]) W) := fun W hW => by
    have := rmulS hs hu hp hz (by decide) W (hT.on hW).here; exact this
  have C10 : ∀ W : World, Below w.heap.size w W → Calls Tryz.prog 47 #[.string t, .string u] W (Bret (.tuple #[.string (str (ratL (q * z))), .int .i64 0]) W) := fun W hW => by
    have := rmulS ht hu hq hz (by decide) W (hT.on hW).here; exact this
  have C11 : ∀ W : World, Below w.heap.size w W → Calls Tryz.prog 41 #[.string (str (ratL (p * z))), .string (str (ratL (q * z)))] W (Bret (.tuple #[.int .i64 (ordQ p q * ordQ z 0), .int .i64 0]) W) := fun W hW => by
    have := rcmpS m1 m2 (hp.mul hz) (hq.mul hz) (by decide) W (hT.on hW).here; rwa [ordQ_mul] at this
  have CA : ∀ W : World, Below w.heap.size w W → Calls Tryz.prog 26 #[] W (Bret (.bool true) W) := fun W hW => awake02 W (hT.on hW).here
  obtain ⟨g0, g1⟩ := ordQ_range z 0
  have h4 : ordQ p q ≤ 0 → ordQ q z ≤ 0 → ordQ p z ≤ 0 := fun h1 h2 => ordQ_of_le (Rat.le_trans (ordQ_le h1) (ordQ_le h2))
  rcases ordQ_cases p q with ⟨e, k⟩ | ⟨e, k⟩ | ⟨e, k⟩
  · have n1 := rstr_differ hs ht (Rat.ne_of_lt k)
    rw [e] at C1 C2 C7 C11 h4
    rw [show (-1 : Int) * ordQ z 0 = -ordQ z 0 by omega] at C11
    by_cases h3 : ordQ q z ≤ 0
    · exact orders_mn s t u _ _ _ _ _ _ _ w n1 h3 (h4 (by decide) h3) g0 g1 C0 C1 C2 C3 C4 C5 C6 C7 C8 C9 C10 C11 CA
    · exact orders_mp s t u _ _ _ _ _ _ _ w n1 (by omega) g0 g1 C0 C1 C2 C3 C4 C5 C6 C7 C8 C9 C10 C11 CA
  · subst k
    obtain rfl : s = t := by rw [← hs.lit, ht.lit]
    rw [e] at C1 C2 C7 C11 h4
    rw [Int.zero_mul] at C11
    by_cases h3 : ordQ p z ≤ 0
    · exact orders_0n s u _ ⟨#[]⟩ _ ⟨#[]⟩ _ _ _ w h3 (h4 (by decide) h3) g0 g1 C0 C1 C2 C3 C4 C5 C6 C7 C8 C9 C10 C11 CA
    · exact orders_0p s u _ ⟨#[]⟩ _ ⟨#[]⟩ _ _ _ w (by omega) g0 g1 C0 C1 C2 C3 C4 C5 C6 C7 C8 C9 C10 C11 CA
  · have n1 := rstr_differ hs ht (Rat.ne_of_gt k)
    rw [e] at C1 C2 C7 C11
    rw [Int.one_mul] at C11
    exact orders_1 s t u _ _ _ _ _ _ _ w n1 g0 g1 C0 C1 C2 C3 C4 C5 C6 C7 C8 C9 C10 C11 CA

theorem rorders_walk (s t u : ByteArray) (w : World) (hs : s.size ≤ 9223372036854775807) (ht : t.size ≤ 9223372036854775807) (hu : u.size ≤ 9223372036854775807)
    (htab : Lib.TabIs Tryz.prog w "internal/strconv.uint64pow10" .u64 Lib.pow10Tab) :
    Calls Tryz.prog 9 #[.string s, .string t, .string u] w fun e w' => e = .returned (.bool true) ∧ Below w.heap.size w w' := by
  have C0 := right_three s t u w hs ht hu
  cases hr : rokB s && (rokB t && rokB u)
  · rw [hr] at C0
    exact rorders_awake s t u w C0 htab
  · rw [hr] at C0
    rw [Bool.and_eq_true, Bool.and_eq_true] at hr
    obtain ⟨a1, a2⟩ := rok_rstr hr.1
    obtain ⟨b1, b2⟩ := rok_rstr hr.2.1
    obtain ⟨c1, c2⟩ := rok_rstr hr.2.2
    exact rorders_main s t u _ _ _ w a1 b1 c1 a2 b2 c2 C0 htab
end Go.Proofs.YtbadibbdoljjhaaGreatDoor
