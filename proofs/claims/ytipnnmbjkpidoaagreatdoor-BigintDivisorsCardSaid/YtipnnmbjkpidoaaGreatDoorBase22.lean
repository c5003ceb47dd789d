import Derived.Test.YtipnnmbjkpidoaaGreatDoorBase21

set_option linter.unusedVariables false
/-
  BigintAgrees: the walk.
-/
namespace Go.Proofs.YtipnnmbjkpidoaaGreatDoor
open Go Go.Proofs Go.RowKit

theorem fits_of_lt {z : Int} (k : Nat) (h : z.natAbs < 10 ^ k) (h0 : 0 < k) (hk : k ≤ 4096) : ¬ 4096 < (Lib.decDigits z.natAbs).length := by
  have := decDigits_length_le z.natAbs k h0 h
  omega
theorem pow_fits (a : Int) (m : Nat) (ha : a.natAbs ≤ 2147483648) (hm : m ≤ 10) : ¬ 4096 < (Lib.decDigits (a ^ m).natAbs).length := by
  refine fits_of_lt 100 ?_ (by decide) (by decide)
  rw [Int.natAbs_pow]
  refine Nat.lt_of_le_of_lt (Nat.pow_le_pow_left ha m) ?_
  exact Nat.lt_of_le_of_lt (Nat.pow_le_pow_right (by decide) hm) (by decide)

set_option maxRecDepth 20000 in
set_option maxHeartbeats 8000000 in
theorem agrees_walk (a b : Int) (k : Nat) (w : World) (ha0 : -2147483648 ≤ a) (ha1 : a ≤ 2147483647) (hb0 : -2147483648 ≤ b) (hb1 : b ≤ 2147483647) (hk : k ≤ 255)
    (htab : Lib.TabIs Tryz.prog w "internal/strconv.uint64pow10" .u64 Lib.pow10Tab) :
    Calls Tryz.prog 12 #[.int .i32 a, .int .i32 b, .int .u8 k] w fun e w' => e = .returned (.bool true) ∧ Below w.heap.size w w' := by
  have hT := Lib.tabBelow_of_tabIs htab
  have hab : (a * b).natAbs ≤ 4611686018427387904 := by
    rw [Int.natAbs_mul]
    exact Nat.mul_le_mul (show a.natAbs ≤ 2147483648 by omega) (show b.natAbs ≤ 2147483648 by omega)
  have hSa : Str (str (Lib.itoa a)) a := str_small (by omega)
  have hSb : Str (str (Lib.itoa b)) b := str_small (by omega)
  have COf : ∀ (n : Int), -9223372036854775808 ≤ n → n ≤ 9223372036854775807 → ∀ W : World, Below w.heap.size w W → Calls Tryz.prog 25 #[.int .i64 n] W fun e w' => e = .returned (.string (str (Lib.itoa n))) ∧ Below W.heap.size W w' := fun n h0 h1 W hW => of_any' n h0 h1 W (hT.on hW).here
  have C1 := COf a (by omega) (by omega)
  have C2 := COf b (by omega) (by omega)
  have C3 := COf (a + b) (by omega) (by omega)
  have C4 := COf (a * b) (by omega) (by omega)
  have C5 : ∀ W : World, Below w.heap.size w W → Calls Tryz.prog 34 #[.string (str (Lib.itoa a)), .string (str (Lib.itoa b))] W fun e w' => e = .returned (.tuple #[.string (str (Lib.itoa (a + b))), .int .i64 0]) ∧ Below W.heap.size W w' := fun W hW => by
    have := addZ _ _ a b W hSa hSb (hT.on hW).here
    rwa [resV_small (by omega)] at this
  have C6 : ∀ W : World, Below w.heap.size w W → Calls Tryz.prog 38 #[.string (str (Lib.itoa a)), .string (str (Lib.itoa b))] W fun e w' => e = .returned (.tuple #[.string (str (Lib.itoa (a * b))), .int .i64 0]) ∧ Below W.heap.size W w' := fun W hW => by
    have := mulZ _ _ a b W hSa hSb (hT.on hW).here
    rwa [resV_fits (fits_of_lt 19 (by omega) (by decide) (by decide))] at this
  have C7 := fun W => compareS _ _ a b W hSa hSb
  have CP : ∀ m : Nat, m ≤ 10 → ∀ W : World, Below w.heap.size w W → Calls Tryz.prog 51 #[.string (str (Lib.itoa a)), .int .i64 m] W fun e w' => e = .returned (.tuple #[.string (str (Lib.itoa (a ^ m))), .int .i64 0]) ∧ Below W.heap.size W w' := fun m hm W hW => by
    have := powZ _ a m W hSa (by omega) (hT.on hW).here
    rwa [resV_fits (pow_fits a m (by omega) hm)] at this
  have C8 := CP (k % 8) (by omega)
  have C9 := CP 3 (by decide)
  have C10 := CP (k % 8 + 3) (by omega)
  rw [show ((k % 8 + 3 : Nat) : Int) = (k : Int) % 8 + 3 by omega] at C10
  rw [show ((k % 8 : Nat) : Int) = (k : Int) % 8 by omega] at C8
  have C11 : ∀ W : World, Below w.heap.size w W → Calls Tryz.prog 38 #[.string (str (Lib.itoa (a ^ (k % 8)))), .string (str (Lib.itoa (a ^ 3)))] W fun e w' => e = .returned (.tuple #[.string (str (Lib.itoa (a ^ (k % 8 + 3)))), .int .i64 0]) ∧ Below W.heap.size W w' := fun W hW => by
    have := mulZ _ _ _ _ W (str_itoa (Nat.le_of_not_lt (pow_fits a (k % 8) (by omega) (by omega)))) (str_itoa (Nat.le_of_not_lt (pow_fits a 3 (by omega) (by decide)))) (hT.on hW).here
    rw [← Int.pow_add] at this
    rwa [resV_fits (pow_fits a _ (by omega) (by omega))] at this
  have C12 : ∀ W : World, Below w.heap.size w W → Calls Tryz.prog 22 #[.string (str (Lib.itoa a))] W fun e w' => e = .returned (if 1048576 < a.natAbs then .tuple #[.int .i64 0, .int .i64 2] else .tuple #[.int .i64 a, .int .i64 0]) ∧ Below W.heap.size W w' := fun W hW => smallZ _ a W hSa (hT.on hW).here
  have C13 : ∀ W : World, Below w.heap.size w W → Calls Tryz.prog 17 #[] W fun e w' => e = .returned (.bool true) ∧ Below W.heap.size W w' := fun W hW => awake_any W (hT.on hW).here
  have hcv : (cmpI a b = -1 ∧ decide (a < b) = true ∧ decide (b < a) = false) ∨ (cmpI a b = 0 ∧ decide (a < b) = false ∧ decide (b < a) = false) ∨ (cmpI a b = 1 ∧ decide (a < b) = false ∧ decide (b < a) = true) := by
    unfold cmpI
    rcases Int.lt_trichotomy a b with h | h | h
    · exact .inl ⟨if_pos h, decide_eq_true h, decide_eq_false (by omega)⟩
    · exact .inr (.inl ⟨by rw [if_neg (by omega), if_pos h], decide_eq_false (by omega), decide_eq_false (by omega)⟩)
    · exact .inr (.inr ⟨by rw [if_neg (by omega), if_neg (by omega)], decide_eq_false (by omega), decide_eq_true h⟩)
  generalize cmpI a b = cv at *
  have hs1 : -9223372036854775808 ≤ a + b ∧ a + b ≤ 9223372036854775807 := by omega
  have hs2 : -9223372036854775808 ≤ a * b ∧ a * b ≤ 9223372036854775807 := by omega
  have K1 := Lib.hid C1; have K2 := Lib.hid C2; have K3 := Lib.hid C3; have K4 := Lib.hid C4; have K5 := Lib.hid C5; have K6 := Lib.hid C6; have K7 := Lib.hid C7; have K8 := Lib.hid C8; have K9 := Lib.hid C9; have K10 := Lib.hid C10; have K11 := Lib.hid C11; have K12 := Lib.hid C12; have K13 := Lib.hid C13
  clear C1 C2 C3 C4 C5 C6 C7 C8 C9 C10 C11 C12 C13 COf CP hT htab hab hSa hSb
  generalize str (Lib.itoa (a ^ (k % 8 + 3))) = r9 at *
  generalize str (Lib.itoa (a ^ (k % 8))) = r8 at *
  generalize str (Lib.itoa (a ^ 3)) = r7 at *
  generalize str (Lib.itoa (a * b)) = r4 at *
  generalize str (Lib.itoa (a + b)) = r3 at *
  generalize str (Lib.itoa a) = r1 at *
  generalize str (Lib.itoa b) = r2 at *
  rcases hcv with ⟨rfl, hx, hy⟩ | ⟨rfl, hx, hy⟩ | ⟨rfl, hx, hy⟩
  all_goals
    go_enter Tryz.func12, Tryz.ntmps12
    go_wp2_with (go_at_call 25; refine (K1.out _ (Below.refl _ _)).mono ?_; rintro e w1 ⟨rfl, hb1⟩; refine Hid.out ?_)
    refine Lib.hid ?_
    go_wp2_with (go_at_call 25; refine (K2.out _ hb1).mono ?_; rintro e w2 ⟨rfl, hb2⟩; refine Hid.out ?_)
    have hB2 := Below.chain hb1 hb2; clear hb1 hb2
    refine Lib.hid ?_
    go_wp2_with (go_at_call 34; refine (K5.out _ hB2).mono ?_; rintro e w3 ⟨rfl, hb3⟩; refine Hid.out ?_)
    have hB3 := Below.chain hB2 hb3; clear hB2 hb3
    refine Lib.hid ?_
    go_wp2_with (go_at_call 38; refine (K6.out _ hB3).mono ?_; rintro e w4 ⟨rfl, hb4⟩; refine Hid.out ?_)
    have hB4 := Below.chain hB3 hb4; clear hB3 hb4
    refine Lib.hid ?_
    go_wp2_with (go_at_call 30; refine (K7.out _).mono ?_; rintro e w5 ⟨rfl, rfl⟩; refine Hid.out ?_)
    refine Lib.hid ?_
    go_wp2_with (go_at_call 25; refine (K3.out _ hB4).mono ?_; rintro e w6 ⟨rfl, hb6⟩; refine Hid.out ?_)
    have hB6 := Below.chain hB4 hb6; clear hB4 hb6
    refine Lib.hid ?_
    go_wp2_with (go_at_call 25; refine (K4.out _ hB6).mono ?_; rintro e w7 ⟨rfl, hb7⟩; refine Hid.out ?_)
    have hB7 := Below.chain hB6 hb7; clear hB6 hb7
    refine Lib.hid ?_
    go_upto_region 7 with fail
    clear hx hy hs1 hs2
    go_wp2_with (go_at_call 51; refine (K8.out _ hB7).mono ?_; rintro e w8 ⟨rfl, hb8⟩; refine Hid.out ?_)
    have hB8 := Below.chain hB7 hb8; clear hB7 hb8
    refine Lib.hid ?_
    go_wp2_with (go_at_call 51; refine (K9.out _ hB8).mono ?_; rintro e w9 ⟨rfl, hb9⟩; refine Hid.out ?_)
    have hB9 := Below.chain hB8 hb9; clear hB8 hb9
    refine Lib.hid ?_
    go_wp2_with (go_at_call 51; refine (K10.out _ hB9).mono ?_; rintro e w10 ⟨rfl, hb10⟩; refine Hid.out ?_)
    have hB10 := Below.chain hB9 hb10; clear hB9 hb10
    refine Lib.hid ?_
    go_wp2_with (go_at_call 38; refine (K11.out _ hB10).mono ?_; rintro e w11 ⟨rfl, hb11⟩; refine Hid.out ?_)
    have hB11 := Below.chain hB10 hb11; clear hB10 hb11
    refine Lib.hid ?_
    have hbig : (decide (1048576 < a) = true ∧ decide (a < -1048576) = false ∧ 1048576 < a.natAbs) ∨ (decide (1048576 < a) = false ∧ decide (a < -1048576) = true ∧ 1048576 < a.natAbs) ∨ (decide (1048576 < a) = false ∧ decide (a < -1048576) = false ∧ ¬ 1048576 < a.natAbs) := by
      by_cases h1 : 1048576 < a
      · exact .inl ⟨decide_eq_true h1, decide_eq_false (by omega), by omega⟩
      · by_cases h2 : a < -1048576
        · exact .inr (.inl ⟨decide_eq_false h1, decide_eq_true h2, by omega⟩)
        · exact .inr (.inr ⟨decide_eq_false h1, decide_eq_false h2, by omega⟩)
    rcases hbig with ⟨hx, hy, hz⟩ | ⟨hx, hy, hz⟩ | ⟨hx, hy, hz⟩
    all_goals
      first | rw [if_pos hz] at K12 | rw [if_neg hz] at K12
      clear hz
      go_wp2_with (go_at_call 22; refine (K12.out _ hB11).mono ?_; rintro e w12 ⟨rfl, hb12⟩; refine Hid.out ?_)
      have hB12 := Below.chain hB11 hb12; clear hB11 hb12
      refine Lib.hid ?_
      go_wp2_with (go_at_call 17; refine (K13.out _ hB12).mono ?_; rintro e w13 ⟨rfl, hb13⟩; refine Hid.out ?_)
      have hB13 := Below.chain hB12 hb13; clear hB12 hb13
      refine Lib.hid ?_
      go_wp2
      refine bodyPost_ret (v := .bool true) (by simp [results, Tryz.results12, go_sem]) rfl ?_
      exact ⟨rfl, hB13⟩
end Go.Proofs.YtipnnmbjkpidoaaGreatDoor
