import Derived.Test.YtmnbjkbkjmgmkaaGreatDoorCut13
import Derived.Test.YtmnbjkbkjmgmkaaGreatDoorCut2
import Derived.Test.YtmnbjkbkjmgmkaaGreatDoorRows
import Derived.HandedShaped
import Derived.Handed
import Derived.Lay
import Derived.LaidMore
import Derived.LaidLaws
import Derived.LaidHandle
import Derived.MakeChecks
import Derived.Lib.LaidTab
import Derived.Stop.Joined
import Derived.Stop.LaidErr
import Derived.OpenShut
import Derived.ProofKit
import Derived.DataShut
import Derived.Test.YtmnbjkbkjmgmkaaGreatDoorCut3

set_option linter.unusedVariables false
/-
  sign: the laws' awake and apply.
-/
set_option linter.unusedSimpArgs false
set_option linter.unusedVariables false
namespace Go.Proofs.YtmnbjkbkjmgmkaaGreatDoor
open Go Go.Proofs Go.RowKit Go.Shelf
attribute [local go_sem] Oper.semAt_some
set_option maxHeartbeats 4000000 in
theorem awake19_any (w : World) (hT : SgTab w) : Calls Tryz.prog 6 #[] w fun e w' => e = .returned (.bool true) ∧ Below w.heap.size w w' := by
  have C0 : ∀ W, Below w.heap.size w W → Calls Tryz.prog 14 #[.int .i64 4, .int .i64 1] W fun e w' => e = .returned (.tuple #[.int .i64 7, .int .i64 0]) ∧ Below W.heap.size W w' := fun W h => sgAdd_any 4 1 W (hT.on h)
  have C1 : ∀ W, Below w.heap.size w W → Calls Tryz.prog 14 #[.int .i64 6, .int .i64 4] W fun e w' => e = .returned (.tuple #[.int .i64 4, .int .i64 0]) ∧ Below W.heap.size W w' := fun W h => sgAdd_any 6 4 W (hT.on h)
  have C2 : ∀ W, Below w.heap.size w W → Calls Tryz.prog 15 #[.int .i64 4, .int .i64 4] W fun e w' => e = .returned (.tuple #[.int .i64 6, .int .i64 0]) ∧ Below W.heap.size W w' := fun W h => sgQuo_any 4 4 W (hT.on h)
  have C3 : ∀ W, Below w.heap.size w W → Calls Tryz.prog 15 #[.int .i64 4, .int .i64 1] W fun e w' => e = .returned (.tuple #[.int .i64 1, .int .i64 0]) ∧ Below W.heap.size W w' := fun W h => sgQuo_any 4 1 W (hT.on h)
  have C4 : ∀ W, Below w.heap.size w W → Calls Tryz.prog 16 #[.int .i64 7, .int .i64 4] W fun e w' => e = .returned (.tuple #[.int .i64 6, .int .i64 0]) ∧ Below W.heap.size W w' := fun W h => sgRem_any 7 4 W (hT.on h)
  have C5 : ∀ W, Below w.heap.size w W → Calls Tryz.prog 16 #[.int .i64 7, .int .i64 2] W fun e w' => e = .returned (.tuple #[.int .i64 0, .int .i64 0]) ∧ Below W.heap.size W w' := fun W h => sgRem_any 7 2 W (hT.on h)
  have C6 : ∀ W, Below w.heap.size w W → Calls Tryz.prog 17 #[.int .i64 4, .int .i64 7, .int .i64 2] W fun e w' => e = .returned (.tuple #[.int .i64 1, .int .i64 2, .int .i64 0]) ∧ Below W.heap.size W w' := fun W h => sgRefine_all 4 7 2 W (hT.on h)
  have C7 : ∀ W, Below w.heap.size w W → Calls Tryz.prog 17 #[.int .i64 5, .int .i64 6, .int .i64 3] W fun e w' => e = .returned (.tuple #[.int .i64 2, .int .i64 2, .int .i64 0]) ∧ Below W.heap.size W w' := fun W h => sgRefine_all 5 6 3 W (hT.on h)
  have C8 : ∀ W, Below w.heap.size w W → Calls Tryz.prog 18 #[.int .i64 6] W fun e w' => e = .returned (.tuple #[.string ⟨#[110, 111, 110, 110, 101, 103, 97, 116, 105, 118, 101]⟩, .int .i64 0]) ∧ Below W.heap.size W w' := fun W h => sgFormat_any 6 W (hT.on h)
  have K0 := Lib.hid C0; have K1 := Lib.hid C1; have K2 := Lib.hid C2; have K3 := Lib.hid C3; have K4 := Lib.hid C4; have K5 := Lib.hid C5; have K6 := Lib.hid C6; have K7 := Lib.hid C7; have K8 := Lib.hid C8
  clear C0 C1 C2 C3 C4 C5 C6 C7 C8 hT
  go_enter Tryz.func6, Tryz.ntmps6
  have HB0 : Below w.heap.size w w := Below.refl _ _
  go_wp2_with (first | (go_at_call 14; refine (K0.out _ (Below.chain HB0 (by go_grown))).mono ?_; clear K0; rintro e w1 ⟨rfl, hb1⟩; have HB1 := Below.chain (Below.chain HB0 (by go_grown)) hb1; clear hb1) | (go_at_call 14; refine (K1.out _ (Below.chain HB1 (by go_grown))).mono ?_; clear K1; rintro e w2 ⟨rfl, hb2⟩; have HB2 := Below.chain (Below.chain HB1 (by go_grown)) hb2; clear hb2) | (go_at_call 15; refine (K2.out _ (Below.chain HB2 (by go_grown))).mono ?_; clear K2; rintro e w3 ⟨rfl, hb3⟩; have HB3 := Below.chain (Below.chain HB2 (by go_grown)) hb3; clear hb3) | (go_at_call 15; refine (K3.out _ (Below.chain HB3 (by go_grown))).mono ?_; clear K3; rintro e w4 ⟨rfl, hb4⟩; have HB4 := Below.chain (Below.chain HB3 (by go_grown)) hb4; clear hb4) | (go_at_call 16; refine (K4.out _ (Below.chain HB4 (by go_grown))).mono ?_; clear K4; rintro e w5 ⟨rfl, hb5⟩; have HB5 := Below.chain (Below.chain HB4 (by go_grown)) hb5; clear hb5) | (go_at_call 16; refine (K5.out _ (Below.chain HB5 (by go_grown))).mono ?_; clear K5; rintro e w6 ⟨rfl, hb6⟩; have HB6 := Below.chain (Below.chain HB5 (by go_grown)) hb6; clear hb6) | (go_at_call 17; refine (K6.out _ (Below.chain HB6 (by go_grown))).mono ?_; clear K6; rintro e w7 ⟨rfl, hb7⟩; have HB7 := Below.chain (Below.chain HB6 (by go_grown)) hb7; clear hb7) | (go_at_call 17; refine (K7.out _ (Below.chain HB7 (by go_grown))).mono ?_; clear K7; rintro e w8 ⟨rfl, hb8⟩; have HB8 := Below.chain (Below.chain HB7 (by go_grown)) hb8; clear hb8) | (go_at_call 18; refine (K8.out _ (Below.chain HB8 (by go_grown))).mono ?_; clear K8; rintro e w9 ⟨rfl, hb9⟩; have HB9 := Below.chain (Below.chain HB8 (by go_grown)) hb9; clear hb9))
  refine bodyPost_ret (by first | (simp [results, Tryz.results6, go_sem]; done) | (simp [results, Tryz.results6, go_sem]; rfl)) rfl ?_
  exact ⟨rfl, HB9⟩
set_option maxHeartbeats 4000000 in
theorem apply19_any (m : Nat) (s t : Int) (w : World) (hm : m < 256) (hT : SgTab w) : Calls Tryz.prog 8 #[.int .u8 (m : Int), .int .i64 s, .int .i64 t] w fun e w' => e = .returned (.tuple #[.int .i64 (opR (m % 5) s t), .int .i64 (errB s t)]) ∧ Below w.heap.size w w' := by
  have C0 := sgAdd_any s t w hT
  have C1 := sgSub_any s t w hT
  have C2 := sgMul_any s t w hT
  have C3 := sgQuo_any s t w hT
  have C4 := sgRem_any s t w hT
  have h5 : (m : Int) % 5 = ((m % 5 : Nat) : Int) := by omega
  have hp : (0 : Int) ≤ (m : Int) := by omega
  have ht : Int.tmod (m : Int) 5 = ((m % 5 : Nat) : Int) := by rw [Int.tmod_eq_emod_of_nonneg hp]; exact h5
  have hr : m % 5 < 5 := Nat.mod_lt _ (by decide)
  generalize m % 5 = r at *
  have K0 := Lib.hid C0; have K1 := Lib.hid C1; have K2 := Lib.hid C2; have K3 := Lib.hid C3; have K4 := Lib.hid C4
  clear C0 C1 C2 C3 C4 hT h5
  rcases (show r = 0 ∨ r = 1 ∨ r = 2 ∨ r = 3 ∨ r = 4 by omega) with rfl | rfl | rfl | rfl | rfl
  · generalize opR 0 s t = R at *
    have t0 : Int.tmod (m : Int) 5 = 0 := ht
    clear ht
    go_enter Tryz.func8, Tryz.ntmps8
    go_wp2_with (go_at_call 14; refine (K0.out).mono ?_; rintro e w1 ⟨rfl, hb⟩)
    refine bodyPost_ret (by first | (simp [results, Tryz.results8, go_sem]; done) | (simp [results, Tryz.results8, go_sem]; rfl)) rfl ?_
    exact ⟨rfl, hb⟩
  · generalize opR 1 s t = R at *
    have t0 : Int.tmod (m : Int) 5 = 1 := ht
    clear ht
    go_enter Tryz.func8, Tryz.ntmps8
    go_wp2_with (go_at_call 20; refine (K1.out).mono ?_; rintro e w1 ⟨rfl, hb⟩)
    refine bodyPost_ret (by first | (simp [results, Tryz.results8, go_sem]; done) | (simp [results, Tryz.results8, go_sem]; rfl)) rfl ?_
    exact ⟨rfl, hb⟩
  · generalize opR 2 s t = R at *
    have t0 : Int.tmod (m : Int) 5 = 2 := ht
    clear ht
    go_enter Tryz.func8, Tryz.ntmps8
    go_wp2_with (go_at_call 21; refine (K2.out).mono ?_; rintro e w1 ⟨rfl, hb⟩)
    refine bodyPost_ret (by first | (simp [results, Tryz.results8, go_sem]; done) | (simp [results, Tryz.results8, go_sem]; rfl)) rfl ?_
    exact ⟨rfl, hb⟩
  · generalize opR 3 s t = R at *
    have t0 : Int.tmod (m : Int) 5 = 3 := ht
    clear ht
    go_enter Tryz.func8, Tryz.ntmps8
    go_wp2_with (go_at_call 15; refine (K3.out).mono ?_; rintro e w1 ⟨rfl, hb⟩)
    refine bodyPost_ret (by first | (simp [results, Tryz.results8, go_sem]; done) | (simp [results, Tryz.results8, go_sem]; rfl)) rfl ?_
    exact ⟨rfl, hb⟩
  · generalize opR 4 s t = R at *
    have t0 : Int.tmod (m : Int) 5 = 4 := ht
    clear ht
    go_enter Tryz.func8, Tryz.ntmps8
    go_wp2_with (go_at_call 16; refine (K4.out).mono ?_; rintro e w1 ⟨rfl, hb⟩)
    refine bodyPost_ret (by first | (simp [results, Tryz.results8, go_sem]; done) | (simp [results, Tryz.results8, go_sem]; rfl)) rfl ?_
    exact ⟨rfl, hb⟩
end Go.Proofs.YtmnbjkbkjmgmkaaGreatDoor

set_option linter.unusedSimpArgs false
set_option linter.unusedVariables false
namespace Go.Proofs.YtmnbjkbkjmgmkaaGreatDoor
open Go Go.Proofs Go.RowKit
def valC (k : Nat) (x y : Int) : Int := match k with | 0 => x + y | 1 => x - y | 2 => x * y | 3 => x.fdiv y | _ => x.fmod y
theorem fdiv_neg_pos {x y : Int} (hx : x < 0) (hy : 0 < y) : x.fdiv y < 0 := by
  rw [Int.fdiv_eq_ediv_of_nonneg _ (by omega)]
  exact Int.ediv_neg_of_neg_of_pos hx hy
theorem sgn_pos {x : Int} (h : 0 < x) : sgnS x = 4 := by unfold sgnS; rw [if_neg (by omega), if_neg (by omega)]
theorem sgn_neg {x : Int} (h : x < 0) : sgnS x = 1 := by unfold sgnS; rw [if_pos h]
theorem sgn_nonneg {x : Int} (h : 0 ≤ x) : sgnS x = 2 ∨ sgnS x = 4 := by
  rcases Int.lt_or_eq_of_le h with h | h
  · exact .inr (sgn_pos h)
  · subst h; exact .inl rfl
theorem sgn_nonpos {x : Int} (h : x ≤ 0) : sgnS x = 1 ∨ sgnS x = 2 := by
  rcases Int.lt_or_eq_of_le h with h | h
  · exact .inl (sgn_neg h)
  · subst h; exact .inr rfl
theorem sgn_all (x : Int) : sgnS x = 1 ∨ sgnS x = 2 ∨ sgnS x = 4 := by unfold sgnS; (repeat' split) <;> simp
theorem table_ok (k : Nat) (hk : k < 5) (x y : Int) (hz : 3 ≤ k → y ≠ 0) : sgnS (valC k x y) &&& rowS k (sgnS x / 2) (sgnS y / 2) ≠ 0 := by
  rcases Int.lt_trichotomy x 0 with hx | hx | hx
  · rcases Int.lt_trichotomy y 0 with hy | hy | hy
    · rw [sgn_neg hx, sgn_neg hy]
      rcases (show k = 0 ∨ k = 1 ∨ k = 2 ∨ k = 3 ∨ k = 4 by omega) with rfl | rfl | rfl | rfl | rfl
      · rw [sgn_neg (show valC 0 x y < 0 by show x + y < 0; omega)]; decide
      · rcases sgn_all (valC 1 x y) with e | e | e <;> rw [e] <;> decide
      · rw [sgn_pos (show 0 < valC 2 x y from Int.mul_pos_of_neg_of_neg hx hy)]; decide
      · rcases sgn_nonneg (show 0 ≤ valC 3 x y from Int.fdiv_nonneg_of_nonpos_of_nonpos (by omega) (by omega)) with e | e <;> rw [e] <;> decide
      · have h : valC 4 x y ≤ 0 := by
          show x.fmod y ≤ 0
          have h1 := Int.neg_fmod_neg x y
          have h2 := Int.fmod_nonneg_of_pos (-x) (b := -y) (by omega)
          omega
        rcases sgn_nonpos h with e | e <;> rw [e] <;> decide
    · subst hy
      have hk3 : k < 3 := by
        rcases Nat.lt_or_ge k 3 with h | h
        · exact h
        · exact absurd rfl (hz h)
      rw [sgn_neg hx, show sgnS 0 = 2 from rfl]
      rcases (show k = 0 ∨ k = 1 ∨ k = 2 by omega) with rfl | rfl | rfl
      · rw [sgn_neg (show valC 0 x 0 < 0 by show x + 0 < 0; omega)]; decide
      · rw [sgn_neg (show valC 1 x 0 < 0 by show x - 0 < 0; omega)]; decide
      · rw [show valC 2 x 0 = 0 from Int.mul_zero x]; decide
    · rw [sgn_neg hx, sgn_pos hy]
      rcases (show k = 0 ∨ k = 1 ∨ k = 2 ∨ k = 3 ∨ k = 4 by omega) with rfl | rfl | rfl | rfl | rfl
      · rcases sgn_all (valC 0 x y) with e | e | e <;> rw [e] <;> decide
      · rw [sgn_neg (show valC 1 x y < 0 by show x - y < 0; omega)]; decide
      · rw [sgn_neg (show valC 2 x y < 0 from Int.mul_neg_of_neg_of_pos hx hy)]; decide
      · rw [sgn_neg (show valC 3 x y < 0 from fdiv_neg_pos hx hy)]; decide
      · rcases sgn_nonneg (show 0 ≤ valC 4 x y from Int.fmod_nonneg_of_pos x hy) with e | e <;> rw [e] <;> decide
  · subst hx
    rw [show sgnS 0 = 2 from rfl]
    rcases Int.lt_trichotomy y 0 with hy | hy | hy
    · rw [sgn_neg hy]
      rcases (show k = 0 ∨ k = 1 ∨ k = 2 ∨ k = 3 ∨ k = 4 by omega) with rfl | rfl | rfl | rfl | rfl
      · rw [sgn_neg (show valC 0 0 y < 0 by show 0 + y < 0; omega)]; decide
      · rw [sgn_pos (show 0 < valC 1 0 y by show 0 < 0 - y; omega)]; decide
      · rw [show valC 2 0 y = 0 from Int.zero_mul y]; decide
      · rw [show valC 3 0 y = 0 from Int.zero_fdiv y]; decide
      · rw [show valC 4 0 y = 0 from Int.zero_fmod y]; decide
    · subst hy
      have hk3 : k < 3 := by
        rcases Nat.lt_or_ge k 3 with h | h
        · exact h
        · exact absurd rfl (hz h)
      rcases (show k = 0 ∨ k = 1 ∨ k = 2 by omega) with rfl | rfl | rfl <;> decide
    · rw [sgn_pos hy]
      rcases (show k = 0 ∨ k = 1 ∨ k = 2 ∨ k = 3 ∨ k = 4 by omega) with rfl | rfl | rfl | rfl | rfl
      · rw [sgn_pos (show 0 < valC 0 0 y by show 0 < 0 + y; omega)]; decide
      · rw [sgn_neg (show valC 1 0 y < 0 by show 0 - y < 0; omega)]; decide
      · rw [show valC 2 0 y = 0 from Int.zero_mul y]; decide
      · rw [show valC 3 0 y = 0 from Int.zero_fdiv y]; decide
      · rw [show valC 4 0 y = 0 from Int.zero_fmod y]; decide
  · rcases Int.lt_trichotomy y 0 with hy | hy | hy
    · rw [sgn_pos hx, sgn_neg hy]
      rcases (show k = 0 ∨ k = 1 ∨ k = 2 ∨ k = 3 ∨ k = 4 by omega) with rfl | rfl | rfl | rfl | rfl
      · rcases sgn_all (valC 0 x y) with e | e | e <;> rw [e] <;> decide
      · rw [sgn_pos (show 0 < valC 1 x y by show 0 < x - y; omega)]; decide
      · rw [sgn_neg (show valC 2 x y < 0 from Int.mul_neg_of_pos_of_neg hx hy)]; decide
      · have h : valC 3 x y < 0 := by
          show x.fdiv y < 0
          rw [← Int.neg_fdiv_neg x y]
          exact fdiv_neg_pos (by omega) (by omega)
        rw [sgn_neg h]; decide
      · have h : valC 4 x y ≤ 0 := by
          show x.fmod y ≤ 0
          have h1 := Int.neg_fmod_neg x y
          have h2 := Int.fmod_nonneg_of_pos (-x) (b := -y) (by omega)
          omega
        rcases sgn_nonpos h with e | e <;> rw [e] <;> decide
    · subst hy
      have hk3 : k < 3 := by
        rcases Nat.lt_or_ge k 3 with h | h
        · exact h
        · exact absurd rfl (hz h)
      rw [sgn_pos hx, show sgnS 0 = 2 from rfl]
      rcases (show k = 0 ∨ k = 1 ∨ k = 2 by omega) with rfl | rfl | rfl
      · rw [sgn_pos (show 0 < valC 0 x 0 by show 0 < x + 0; omega)]; decide
      · rw [sgn_pos (show 0 < valC 1 x 0 by show 0 < x - 0; omega)]; decide
      · rw [show valC 2 x 0 = 0 from Int.mul_zero x]; decide
    · rw [sgn_pos hx, sgn_pos hy]
      rcases (show k = 0 ∨ k = 1 ∨ k = 2 ∨ k = 3 ∨ k = 4 by omega) with rfl | rfl | rfl | rfl | rfl
      · rw [sgn_pos (show 0 < valC 0 x y by show 0 < x + y; omega)]; decide
      · rcases sgn_all (valC 1 x y) with e | e | e <;> rw [e] <;> decide
      · rw [sgn_pos (show 0 < valC 2 x y from Int.mul_pos hx hy)]; decide
      · rcases sgn_nonneg (show 0 ≤ valC 3 x y from Int.fdiv_nonneg (by omega) (by omega)) with e | e <;> rw [e] <;> decide
      · rcases sgn_nonneg (show 0 ≤ valC 4 x y from Int.fmod_nonneg_of_pos x hy) with e | e <;> rw [e] <;> decide
theorem sound8 : ∀ k : Fin 5, ∀ s t : Fin 8, ∀ gx ∈ [1, 2, 4], ∀ gy ∈ [1, 2, 4], ∀ gz ∈ [1, 2, 4], s.val &&& gx ≠ 0 → t.val &&& gy ≠ 0 → gz &&& rowS k.val (gx / 2) (gy / 2) ≠ 0 → cmb k.val s.val t.val &&& gz ≠ 0 := by decide +kernel
theorem hasS_ne {s : Nat} {x : Int} (h : hasS s x = true) : s &&& sgnS x ≠ 0 := by
  unfold hasS at h; simpa using h
theorem ne_hasS {s : Nat} {x : Int} (h : s &&& sgnS x ≠ 0) : hasS s x = true := by
  unfold hasS; simpa using h
theorem sgn_mem (x : Int) : sgnS x ∈ [1, 2, 4] := by rcases sgn_all x with e | e | e <;> rw [e] <;> decide
theorem sound_cmb (k s t : Nat) (hk : k < 5) (hs : s < 8) (ht : t < 8) (x y : Int) (hz : 3 ≤ k → y ≠ 0) (hx : hasS s x = true) (hy : hasS t y = true) : hasS (cmb k s t) (valC k x y) = true :=
  ne_hasS (sound8 ⟨k, hk⟩ ⟨s, hs⟩ ⟨t, ht⟩ (sgnS x) (sgn_mem x) (sgnS y) (sgn_mem y) (sgnS (valC k x y)) (sgn_mem _) (hasS_ne hx) (hasS_ne hy) (table_ok k hk x y hz))
/-! The law SignBest: pairs of integers from -4 to 4. -/
def nineI : List Int := [-4, -3, -2, -1, 0, 1, 2, 3, 4]
def btStep (k s t : Nat) (a : Int) (r : Nat) (b : Int) : Nat := if hasS s a && hasS t b && !(decide (3 ≤ k) && decide (b = 0)) then r ||| sgnS (valC k a b) else r
def btRow (k s t : Nat) (a : Int) (acc : Nat) (bs : List Int) : Nat := bs.foldl (btStep k s t a) acc
def btL (k s t : Nat) (xs : List Int) : Nat := xs.foldl (fun r a => btRow k s t a r nineI) 0
theorem bt_eq8 : ∀ k : Fin 5, ∀ s t : Fin 8, btL k.val s.val t.val nineI = cmb k.val s.val t.val := by decide +kernel
theorem btRow_snoc (k s t : Nat) (a : Int) (acc : Nat) (l : List Int) (b : Int) : btRow k s t a acc (l ++ [b]) = btStep k s t a (btRow k s t a acc l) b := by simp [btRow]
theorem btL_snoc (k s t : Nat) (l : List Int) (a : Int) : btL k s t (l ++ [a]) = btRow k s t a (btL k s t l) nineI := by simp [btL]
theorem btStep_lt (k s t : Nat) (a : Int) (r : Nat) (b : Int) (h : r < 8) : btStep k s t a r b < 8 := by
  unfold btStep
  split
  · exact or_lt8 h (sgnS_lt _)
  · exact h
theorem btRow_lt (k s t : Nat) (a : Int) (acc : Nat) (l : List Int) (h : acc < 8) : btRow k s t a acc l < 8 := by
  unfold btRow
  induction l generalizing acc with
  | nil => exact h
  | cons b l ih => exact ih _ (btStep_lt _ _ _ _ _ _ h)
theorem btL_lt (k s t : Nat) (l : List Int) : btL k s t l < 8 := by
  have : ∀ (l : List Int) (acc : Nat), acc < 8 → l.foldl (fun r a => btRow k s t a r nineI) acc < 8 := by
    intro l
    induction l with
    | nil => exact fun _ h => h
    | cons a l ih => exact fun acc h => ih _ (btRow_lt _ _ _ _ _ _ h)
  exact this l 0 (by decide)
theorem nine_take : ∀ k : Fin 9, nineI.take (k.val + 1) = nineI.take k.val ++ [(-4 + (k.val : Int))] := by decide
end Go.Proofs.YtmnbjkbkjmgmkaaGreatDoor

set_option linter.unusedSimpArgs false
set_option linter.unusedVariables false
namespace Go.Proofs.YtmnbjkbkjmgmkaaGreatDoor
open Go Go.Proofs Go.RowKit Go.Shelf
attribute [local go_sem] Oper.semAt_some
theorem grows8 : ∀ k : Fin 5, ∀ s t u : Fin 8, (cmb k.val s.val t.val &&& cmb k.val (s.val ||| u.val) t.val == cmb k.val s.val t.val) = true ∧ cmb k.val s.val t.val ||| cmb k.val u.val t.val = cmb k.val (s.val ||| u.val) t.val := by decide +kernel
theorem okB_lt {m n : Nat} (hm : m < 8) (hn : n < 8) : okB (m : Int) (n : Int) = true := by unfold okB; rw [okS_of hm, okS_of hn]; rfl
theorem opR_nat (k : Nat) {m n : Nat} (hm : m < 8) (hn : n < 8) : opR k (m : Int) (n : Int) = (cmb k m n : Nat) := by unfold opR; rw [if_pos (okB_lt hm hn)]; rfl
theorem joinR_nat {m n : Nat} (hm : m < 8) (hn : n < 8) : joinR (m : Int) (n : Int) = (m ||| n : Nat) := by unfold joinR; rw [if_pos (okB_lt hm hn)]; rfl
theorem leqR_nat {m n : Nat} (hm : m < 8) (hn : n < 8) : leqR (m : Int) (n : Int) = (m &&& n == m) := by unfold leqR; rw [okB_lt hm hn]; rfl
theorem errB_nat {m n : Nat} (hm : m < 8) (hn : n < 8) : errB (m : Int) (n : Int) = 0 := errB_of (okB_lt hm hn)
theorem tmod8 (a : Nat) : Int.tmod (a : Int) 8 = ((a % 8 : Nat) : Int) := by rw [Int.tmod_eq_emod_of_nonneg (by omega)]; omega
attribute [local go_sem] Oper.semAt_some
theorem fmod_natAbs_lt (x y : Int) (hy : y ≠ 0) : (x.fmod y).natAbs < y.natAbs := by
  have hp : 0 < y.natAbs := by omega
  have h1 := Nat.mod_lt x.natAbs hp
  have h2 : missN x.natAbs y.natAbs < y.natAbs := by unfold missN; split <;> omega
  by_cases hx : x < 0 <;> by_cases h : y < 0
  · rw [fmod_nn x y hx h]; omega
  · rw [fmod_np x y hy hx h]; omega
  · rw [fmod_pn x y hy hx h]; omega
  · rw [fmod_pp x y hx h]; omega
def PowTab (w : World) : Prop := Lib.TabIs Tryz.prog w "internal/strconv.uint64pow10" .u64 Lib.pow10Tab
theorem PowTab.on {w W : World} (h : PowTab w) (hb : Below w.heap.size w W) : PowTab W := ((Lib.tabBelow_of_tabIs h).on hb).here
theorem lt_of_digits {n k : Nat} (h : (Lib.decDigits n).length ≤ k) : n < 10 ^ k := by
  have h1 := dec_lt (allDig_decDigits n)
  rw [dec_decDigits] at h1
  exact Nat.lt_of_lt_of_le h1 (Nat.pow_le_pow_right (by decide) h)
theorem pow_dbl {n m : Nat} (h : n = m + m) : (10 : Nat) ^ n = 10 ^ m * 10 ^ m := by
  subst h
  exact Nat.pow_add 10 m m
theorem valC_fits (k : Nat) (hk : k < 5) (x y : Int) (hx : (Lib.decDigits x.natAbs).length ≤ 250) (hy : (Lib.decDigits y.natAbs).length ≤ 250) (hz : 3 ≤ k → y ≠ 0) : (Lib.decDigits (valC k x y).natAbs).length ≤ 4096 := by
  have hX := lt_of_digits hx; have hY := lt_of_digits hy
  obtain ⟨n, hn⟩ : ∃ n : Nat, n = 250 + 250 := ⟨_, rfl⟩
  have key : (valC k x y).natAbs < 10 ^ n := by
    have e5 : (10 : Nat) ^ n = 10 ^ 250 * 10 ^ 250 := pow_dbl hn
    have hP : 2 ≤ (10 : Nat) ^ 250 := Nat.le_trans (show 2 ≤ 10 ^ 1 by decide) (Nat.pow_le_pow_right (by decide) (by decide))
    rw [e5]
    generalize (10 : Nat) ^ 250 = P at *
    have hPP : 2 * P ≤ P * P := Nat.mul_le_mul_right P hP
    rcases (show k = 0 ∨ k = 1 ∨ k = 2 ∨ k = 3 ∨ k = 4 by omega) with rfl | rfl | rfl | rfl | rfl
    · show (x + y).natAbs < P * P; omega
    · show (x - y).natAbs < P * P; omega
    · show (x * y).natAbs < P * P
      rw [Int.natAbs_mul]
      exact Nat.mul_lt_mul'' hX hY
    · show (x.fdiv y).natAbs < P * P
      have := fdiv_le x y (hz (by decide))
      omega
    · show (x.fmod y).natAbs < P * P
      have := fmod_natAbs_lt x y (hz (by decide))
      omega
  have := decDigits_length_le (valC k x y).natAbs n (by omega) key
  omega
theorem str_digits {a : ByteArray} {x : Int} (h : Str a x) (hs : a.size ≤ 250) : (Lib.decDigits x.natAbs).length ≤ 250 := by
  have h1 : (bytes a).length = a.size := rfl
  rw [h.text] at h1
  by_cases hx : x < 0
  · rw [itoa_neg hx] at h1; simp at h1; omega
  · rw [itoa_nonneg hx] at h1; omega
def cmpC (k : Nat) (x y : Int) : Value := if 3 ≤ k ∧ y = 0 then .tuple #[.string ⟨#[]⟩, .int .i64 19] else .tuple #[.string (str (Lib.itoa (valC k x y))), .int .i64 0]
theorem cmpC_parts (k : Nat) (x y : Int) : ∃ (s : ByteArray) (e : Int), cmpC k x y = .tuple #[.string s, .int .i64 e] := by unfold cmpC; split <;> exact ⟨_, _, rfl⟩
set_option maxHeartbeats 4000000 in
theorem compute19_any (m : Nat) (a b : ByteArray) (x y : Int) (w : World) (hm : m < 256) (ha : Str a x) (hb : Str b y) (hsa : a.size ≤ 250) (hsb : b.size ≤ 250) (hP : PowTab w) :
    Calls Tryz.prog 9 #[.int .u8 (m : Int), .string a, .string b] w fun e w' => e = .returned (cmpC (m % 5) x y) ∧ Below w.heap.size w w' := by
  have hp : (0 : Int) ≤ (m : Int) := by omega
  have ht : Int.tmod (m : Int) 5 = ((m % 5 : Nat) : Int) := by rw [Int.tmod_eq_emod_of_nonneg hp]; omega
  have hr : m % 5 < 5 := Nat.mod_lt _ (by decide)
  generalize m % 5 = r at *
  have dx := str_digits ha hsa; have dy := str_digits hb hsb
  have htab : Lib.TabIs Tryz.prog w "internal/strconv.uint64pow10" .u64 Lib.pow10Tab := hP
  have hzero : y = 0 → b = ⟨#[48]⟩ := fun h => by
    subst h
    have h1 := lit_str hb; have h2 := lit_str str_zero
    exact h1.symm.trans h2
  obtain ⟨s0, e0, hv⟩ := cmpC_parts r x y
  rcases (show r = 0 ∨ r = 1 ∨ r = 2 ∨ r = 3 ∨ r = 4 by omega) with rfl | rfl | rfl | rfl | rfl
  · have C := addZ a b x y w ha hb htab
    rw [resV_fits (r := x + y) (Nat.not_lt.2 (valC_fits 0 (by decide) x y dx dy (fun h => absurd h (by decide))))] at C
    have e1 : cmpC 0 x y = .tuple #[.string (str (Lib.itoa (valC 0 x y))), .int .i64 0] := by unfold cmpC; rw [if_neg (by omega)]
    rw [e1]
    have e2 : valC 0 x y = x + y := rfl
    rw [e2]
    generalize str (Lib.itoa (x + y)) = r at *
    have t0 : Int.tmod (m : Int) 5 = 0 := ht
    have K0 := Lib.hid C
    clear C ht ha hb htab hP hzero hv e1 e2
    go_enter Tryz.func9, Tryz.ntmps9
    go_wp2_with (go_at_call 22; refine (K0.out).mono ?_; rintro e w1 ⟨rfl, hb⟩)
    refine bodyPost_ret (by first | (simp [results, Tryz.results9, go_sem]; done) | (simp [results, Tryz.results9, go_sem]; rfl)) rfl ?_
    exact ⟨rfl, hb⟩
  · have C := subZ a b x y w ha hb htab
    rw [resV_fits (r := x - y) (Nat.not_lt.2 (valC_fits 1 (by decide) x y dx dy (fun h => absurd h (by decide))))] at C
    have e1 : cmpC 1 x y = .tuple #[.string (str (Lib.itoa (valC 1 x y))), .int .i64 0] := by unfold cmpC; rw [if_neg (by omega)]
    rw [e1]
    have e2 : valC 1 x y = x - y := rfl
    rw [e2]
    generalize str (Lib.itoa (x - y)) = r at *
    have t0 : Int.tmod (m : Int) 5 = 1 := ht
    have K0 := Lib.hid C
    clear C ht ha hb htab hP hzero hv e1 e2
    go_enter Tryz.func9, Tryz.ntmps9
    go_wp2_with (go_at_call 23; refine (K0.out).mono ?_; rintro e w1 ⟨rfl, hb⟩)
    refine bodyPost_ret (by first | (simp [results, Tryz.results9, go_sem]; done) | (simp [results, Tryz.results9, go_sem]; rfl)) rfl ?_
    exact ⟨rfl, hb⟩
  · have C := mulZ a b x y w ha hb htab
    rw [resV_fits (r := x * y) (Nat.not_lt.2 (valC_fits 2 (by decide) x y dx dy (fun h => absurd h (by decide))))] at C
    have e1 : cmpC 2 x y = .tuple #[.string (str (Lib.itoa (valC 2 x y))), .int .i64 0] := by unfold cmpC; rw [if_neg (by omega)]
    rw [e1]
    have e2 : valC 2 x y = x * y := rfl
    rw [e2]
    generalize str (Lib.itoa (x * y)) = r at *
    have t0 : Int.tmod (m : Int) 5 = 2 := ht
    have K0 := Lib.hid C
    clear C ht ha hb htab hP hzero hv e1 e2
    go_enter Tryz.func9, Tryz.ntmps9
    go_wp2_with (go_at_call 24; refine (K0.out).mono ?_; rintro e w1 ⟨rfl, hb⟩)
    refine bodyPost_ret (by first | (simp [results, Tryz.results9, go_sem]; done) | (simp [results, Tryz.results9, go_sem]; rfl)) rfl ?_
    exact ⟨rfl, hb⟩
  · have C : Calls Tryz.prog 25 #[.string a, .string b] w fun e w' => e = .returned (cmpC 3 x y) ∧ Below w.heap.size w w' := by
      by_cases hz : y = 0
      · have e1 : cmpC 3 x y = .tuple #[.string ⟨#[]⟩, .int .i64 19] := by unfold cmpC; rw [if_pos ⟨by decide, hz⟩]
        rw [e1, hzero hz]
        exact quo_zero a w (by omega) ha.err
      · have e1 : cmpC 3 x y = .tuple #[.string (str (Lib.itoa (valC 3 x y))), .int .i64 0] := by unfold cmpC; rw [if_neg (fun h => hz h.2)]
        rw [e1, ← resV_fits (by have := valC_fits 3 (by decide) x y dx dy (fun _ => hz); omega)]
        exact quoZ a b x y w ha hb hz htab
    rw [hv] at C ⊢
    have t0 : Int.tmod (m : Int) 5 = 3 := ht
    have K0 := Lib.hid C
    clear C ht ha hb htab hP hzero hv
    go_enter Tryz.func9, Tryz.ntmps9
    go_wp2_with (go_at_call 25; refine (K0.out).mono ?_; rintro e w1 ⟨rfl, hb⟩)
    refine bodyPost_ret (by first | (simp [results, Tryz.results9, go_sem]; done) | (simp [results, Tryz.results9, go_sem]; rfl)) rfl ?_
    exact ⟨rfl, hb⟩
  · have C : Calls Tryz.prog 26 #[.string a, .string b] w fun e w' => e = .returned (cmpC 4 x y) ∧ Below w.heap.size w w' := by
      by_cases hz : y = 0
      · have e1 : cmpC 4 x y = .tuple #[.string ⟨#[]⟩, .int .i64 19] := by unfold cmpC; rw [if_pos ⟨by decide, hz⟩]
        rw [e1, hzero hz]
        exact rem_zero a w (by omega) ha.err
      · have e1 : cmpC 4 x y = .tuple #[.string (str (Lib.itoa (valC 4 x y))), .int .i64 0] := by unfold cmpC; rw [if_neg (fun h => hz h.2)]
        rw [e1, ← resV_fits (by have := valC_fits 4 (by decide) x y dx dy (fun _ => hz); omega)]
        exact remZ a b x y w ha hb hz htab
    rw [hv] at C ⊢
    have t0 : Int.tmod (m : Int) 5 = 4 := ht
    have K0 := Lib.hid C
    clear C ht ha hb htab hP hzero hv
    go_enter Tryz.func9, Tryz.ntmps9
    go_wp2_with (go_at_call 26; refine (K0.out).mono ?_; rintro e w1 ⟨rfl, hb⟩)
    refine bodyPost_ret (by first | (simp [results, Tryz.results9, go_sem]; done) | (simp [results, Tryz.results9, go_sem]; rfl)) rfl ?_
    exact ⟨rfl, hb⟩
theorem rgtB_size {a : ByteArray} (h : rgtB a = true) : a.size ≤ 250 := by
  unfold rgtB at h
  rw [Bool.and_eq_true, decide_eq_true_eq] at h
  exact h.1
theorem rgtB_str2 {a : ByteArray} (h : rgtB a = true) : Str a (valZ (bytes a)) := by
  unfold rgtB at h
  rw [Bool.and_eq_true, decide_eq_true_eq, decide_eq_true_eq] at h
  exact str_of_err h.2
theorem sgHolds_str (s : Nat) (hs : s < 8) (a : ByteArray) (x : Int) (w : World) (h : Str a x) : Calls Tryz.prog 7 #[.int .i64 (s : Int), .string a] w fun e w' => e = .returned (.tuple #[.bool (hasS s x), .int .i64 0]) ∧ w' = w := by
  have h1 := h.size
  have := sgHolds_any (s : Int) a w (by omega)
  rw [show hdR (s : Int) a = hasS s x by unfold hdR; rw [okS_of hs, h.err, h.text, valZ_itoa]; rfl, show hdE (s : Int) a = 0 by unfold hdE; rw [if_pos (okS_of hs), h.err]; rfl] at this
  exact this
set_option maxRecDepth 100000 in
set_option maxHeartbeats 16000000 in
theorem lsound_walk (m : Nat) (a b : ByteArray) (xs ys : Nat) (w : World) (hm : m < 256) (ha : a.size ≤ 9223372036854775807) (hb : b.size ≤ 9223372036854775807) (hxs : xs < 256) (hys : ys < 256) (hT : SgTab w) (hP : PowTab w) :
    Calls Tryz.prog 3 #[.int .u8 (m : Int), .agg #[.string a, .string b], .agg #[.int .u8 (xs : Int), .int .u8 (ys : Int)]] w fun e w' => e = .returned (.bool true) ∧ Below w.heap.size w w' := by
  have CW : ∀ W, Below w.heap.size w W → Calls Tryz.prog 6 #[] W fun e w' => e = .returned (.bool true) ∧ Below W.heap.size W w' := fun W h => awake19_any W (hT.on h)
  have CR := fun (B c : Nat) (W : World) h0 h1 => right19_two a b B c W ha hb h0 h1
  have KW := Lib.hid CW; clear CW
  cases hr : (rgtB a && rgtB b) with
  | false =>
    rw [hr] at CR
    have KR := Lib.hid CR; clear CR hT hr hP
    go_enter Tryz.func3, Tryz.ntmps3
    go_wp2_with (first | (go_at_call 5; refine (KR.out _ _ _ (by go_cell) (by go_cell)).mono ?_; rintro e w1 ⟨rfl, rfl⟩) | (go_at_call 6; refine (KW.out _ (by go_grown)).mono ?_; rintro e w2 ⟨rfl, hb⟩))
    refine bodyPost_ret (by first | (simp [results, Tryz.results3, go_sem]; done) | (simp [results, Tryz.results3, go_sem]; rfl)) rfl ?_
    exact ⟨rfl, Below.chain (by go_grown) hb⟩
  | true =>
    rw [hr] at CR
    rw [Bool.and_eq_true] at hr
    have sa := rgtB_str2 hr.1; have sb := rgtB_str2 hr.2
    have za := rgtB_size hr.1; have zb := rgtB_size hr.2
    have KR := Lib.hid CR; clear CR hr
    generalize valZ (bytes a) = va at *
    generalize valZ (bytes b) = vb at *
    have q0 := tmod8 xs; have q1 := tmod8 ys
    have l0 : xs % 8 < 8 := Nat.mod_lt _ (by decide)
    have l1 : ys % 8 < 8 := Nat.mod_lt _ (by decide)
    generalize xs % 8 = s at *
    generalize ys % 8 = t at *
    have l2 : m % 5 < 5 := Nat.mod_lt _ (by decide)
    have lR := cmb_lt (m % 5) s t
    have C2 := fun W => sgHolds_str s l0 a va W sa
    have C3 := fun W => sgHolds_str t l1 b vb W sb
    have C4 : ∀ W, Below w.heap.size w W → Calls Tryz.prog 8 #[.int .u8 (m : Int), .int .i64 (s : Int), .int .i64 (t : Int)] W fun e w' => e = .returned (.tuple #[.int .i64 (cmb (m % 5) s t : Nat), .int .i64 0]) ∧ Below W.heap.size W w' := fun W h => by
      have := apply19_any m (s : Nat) t W hm (hT.on h)
      rw [opR_nat _ l0 l1, errB_nat l0 l1] at this
      exact this
    have C5 : ∀ W, Below w.heap.size w W → Calls Tryz.prog 9 #[.int .u8 (m : Int), .string a, .string b] W fun e w' => e = .returned (cmpC (m % 5) va vb) ∧ Below W.heap.size W w' := fun W h => compute19_any m a b va vb W hm sa sb za zb (hP.on h)
    have C6 : (3 ≤ m % 5 → vb ≠ 0) → hasS s va = true → hasS t vb = true → ∀ W, Calls Tryz.prog 7 #[.int .i64 (cmb (m % 5) s t : Nat), .string (str (Lib.itoa (valC (m % 5) va vb)))] W fun e w' => e = .returned (.tuple #[.bool true, .int .i64 0]) ∧ w' = W := fun hz h1 h2 W => by
      have := sgHolds_str (cmb (m % 5) s t) lR _ _ W ⟨bytes_str _, valC_fits (m % 5) l2 va vb (str_digits sa za) (str_digits sb zb) hz⟩
      rwa [sound_cmb (m % 5) s t l2 l0 l1 va vb hz h1 h2] at this
    unfold cmpC at C5
    generalize str (Lib.itoa (valC (m % 5) va vb)) = c at *
    generalize cmb (m % 5) s t = R at *
    have hcase : (3 ≤ m % 5 ∧ vb = 0) ∨ (3 ≤ m % 5 → vb ≠ 0) := by
      by_cases h : 3 ≤ m % 5 ∧ vb = 0
      · exact .inl h
      · exact .inr (fun h1 h2 => h ⟨h1, h2⟩)
    generalize hasS s va = f1 at *
    generalize hasS t vb = f2 at *
    have K2 := Lib.hid C2; have K3 := Lib.hid C3; have K4 := Lib.hid C4
    clear C2 C3 C4 hT hP sa sb za zb lR
    go_enter Tryz.func3, Tryz.ntmps3
    go_wp2_with (go_at_call 5; refine (KR.out _ _ _ (by go_cell) (by go_cell)).mono ?_; rintro e w1 ⟨rfl, rfl⟩)
    go_region
    have HB0 : Below w.heap.size w (((w.alloc (Obj.cells #[.string a, .string b] 23)).alloc (Obj.cells #[.int .u8 (xs : Int), .int .u8 (ys : Int)] 24)).alloc (Obj.cells #[.string a, .string b] 22)).drew := ((((Below.refl _ w).alloc (Nat.le_refl _) _).alloc (by simp) _).alloc (by simp; omega) _).drew
    have y0 : (((w.alloc (Obj.cells #[.string a, .string b] 23)).alloc (Obj.cells #[.int .u8 (xs : Int), .int .u8 (ys : Int)] 24)).alloc (Obj.cells #[.string a, .string b] 22)).drew.cell? ⟨w.heap.size, 0, none⟩ = some (.string a) := by rw [cell_drew_own]; go_cell
    have x0 : (((w.alloc (Obj.cells #[.string a, .string b] 23)).alloc (Obj.cells #[.int .u8 (xs : Int), .int .u8 (ys : Int)] 24)).alloc (Obj.cells #[.string a, .string b] 22)).drew.cell? ⟨w.heap.size, 1, none⟩ = some (.string b) := by rw [cell_drew_own]; go_cell
    have hl0 : w.heap.size < (((w.alloc (Obj.cells #[.string a, .string b] 23)).alloc (Obj.cells #[.int .u8 (xs : Int), .int .u8 (ys : Int)] 24)).alloc (Obj.cells #[.string a, .string b] 22)).drew.heap.size := by simp; omega
    generalize (((w.alloc (Obj.cells #[.string a, .string b] 23)).alloc (Obj.cells #[.int .u8 (xs : Int), .int .u8 (ys : Int)] 24)).alloc (Obj.cells #[.string a, .string b] 22)).drew = W0 at *
    rcases hcase with hz | hz
    · rw [if_pos hz] at C5
      have K5 := Lib.hid C5
      clear q0 q1 l0 l1 l2 C5 C6 hz
      cases f1
      · go_wp2_with (first | (go_at_call 7; refine (K2.out _).mono ?_; clear K2; rintro e v9 ⟨rfl, h⟩; subst h) | (go_at_call 7; refine (K3.out _).mono ?_; clear K3; rintro e v9 ⟨rfl, h⟩; subst h) | (go_at_call 8; refine (K4.out _ HB0).mono ?_; clear K4; rintro e v1 ⟨rfl, hb1⟩; have HB1 := Below.chain HB0 hb1; have y1 := (hb1.cell (p := ⟨w.heap.size, 0, none⟩) hl0).trans y0; have x1 := (hb1.cell (p := ⟨w.heap.size, 1, none⟩) hl0).trans x0; have hl1 := Nat.lt_of_lt_of_le hl0 hb1.size; clear hb1 y0 x0) | (go_at_call 9; refine (K5.out _ HB1).mono ?_; clear K5; rintro e v2 ⟨rfl, hb2⟩; have HB2 := Below.chain HB1 hb2; have y2 := (hb2.cell (p := ⟨w.heap.size, 0, none⟩) hl1).trans y1; have x2 := (hb2.cell (p := ⟨w.heap.size, 1, none⟩) hl1).trans x1; have hl2 := Nat.lt_of_lt_of_le hl1 hb2.size; clear hb2 y1 x1) | (go_at_call 7; refine (K6.out _).mono ?_; clear K6; rintro e v9 ⟨rfl, h⟩; subst h) | (go_at_call 6; refine (KW.out _ HB2).mono ?_; rintro e v8 ⟨rfl, hb8⟩))
        refine bodyPost_ret (by first | (simp [results, Tryz.results3, go_sem]; done) | (simp [results, Tryz.results3, go_sem]; rfl)) rfl ?_
        exact ⟨rfl, Below.chain HB2 hb8⟩
      · cases f2
        · go_wp2_with (first | (go_at_call 7; refine (K2.out _).mono ?_; clear K2; rintro e v9 ⟨rfl, h⟩; subst h) | (go_at_call 7; refine (K3.out _).mono ?_; clear K3; rintro e v9 ⟨rfl, h⟩; subst h) | (go_at_call 8; refine (K4.out _ HB0).mono ?_; clear K4; rintro e v1 ⟨rfl, hb1⟩; have HB1 := Below.chain HB0 hb1; have y1 := (hb1.cell (p := ⟨w.heap.size, 0, none⟩) hl0).trans y0; have x1 := (hb1.cell (p := ⟨w.heap.size, 1, none⟩) hl0).trans x0; have hl1 := Nat.lt_of_lt_of_le hl0 hb1.size; clear hb1 y0 x0) | (go_at_call 9; refine (K5.out _ HB1).mono ?_; clear K5; rintro e v2 ⟨rfl, hb2⟩; have HB2 := Below.chain HB1 hb2; have y2 := (hb2.cell (p := ⟨w.heap.size, 0, none⟩) hl1).trans y1; have x2 := (hb2.cell (p := ⟨w.heap.size, 1, none⟩) hl1).trans x1; have hl2 := Nat.lt_of_lt_of_le hl1 hb2.size; clear hb2 y1 x1) | (go_at_call 7; refine (K6.out _).mono ?_; clear K6; rintro e v9 ⟨rfl, h⟩; subst h) | (go_at_call 6; refine (KW.out _ HB2).mono ?_; rintro e v8 ⟨rfl, hb8⟩))
          refine bodyPost_ret (by first | (simp [results, Tryz.results3, go_sem]; done) | (simp [results, Tryz.results3, go_sem]; rfl)) rfl ?_
          exact ⟨rfl, Below.chain HB2 hb8⟩
        · go_wp2_with (first | (go_at_call 7; refine (K2.out _).mono ?_; clear K2; rintro e v9 ⟨rfl, h⟩; subst h) | (go_at_call 7; refine (K3.out _).mono ?_; clear K3; rintro e v9 ⟨rfl, h⟩; subst h) | (go_at_call 8; refine (K4.out _ HB0).mono ?_; clear K4; rintro e v1 ⟨rfl, hb1⟩; have HB1 := Below.chain HB0 hb1; have y1 := (hb1.cell (p := ⟨w.heap.size, 0, none⟩) hl0).trans y0; have x1 := (hb1.cell (p := ⟨w.heap.size, 1, none⟩) hl0).trans x0; have hl1 := Nat.lt_of_lt_of_le hl0 hb1.size; clear hb1 y0 x0) | (go_at_call 9; refine (K5.out _ HB1).mono ?_; clear K5; rintro e v2 ⟨rfl, hb2⟩; have HB2 := Below.chain HB1 hb2; have y2 := (hb2.cell (p := ⟨w.heap.size, 0, none⟩) hl1).trans y1; have x2 := (hb2.cell (p := ⟨w.heap.size, 1, none⟩) hl1).trans x1; have hl2 := Nat.lt_of_lt_of_le hl1 hb2.size; clear hb2 y1 x1) | (go_at_call 7; refine (K6.out _).mono ?_; clear K6; rintro e v9 ⟨rfl, h⟩; subst h) | (go_at_call 6; refine (KW.out _ HB2).mono ?_; rintro e v8 ⟨rfl, hb8⟩))
          refine bodyPost_ret (by first | (simp [results, Tryz.results3, go_sem]; done) | (simp [results, Tryz.results3, go_sem]; rfl)) rfl ?_
          exact ⟨rfl, Below.chain HB2 hb8⟩
    · rw [if_neg (fun h => hz h.1 h.2)] at C5
      have K5 := Lib.hid C5
      cases f1 with
      | false =>
        clear q0 q1 l0 l1 l2 C5 C6 hz
        go_wp2_with (first | (go_at_call 7; refine (K2.out _).mono ?_; clear K2; rintro e v9 ⟨rfl, h⟩; subst h) | (go_at_call 7; refine (K3.out _).mono ?_; clear K3; rintro e v9 ⟨rfl, h⟩; subst h) | (go_at_call 8; refine (K4.out _ HB0).mono ?_; clear K4; rintro e v1 ⟨rfl, hb1⟩; have HB1 := Below.chain HB0 hb1; have y1 := (hb1.cell (p := ⟨w.heap.size, 0, none⟩) hl0).trans y0; have x1 := (hb1.cell (p := ⟨w.heap.size, 1, none⟩) hl0).trans x0; have hl1 := Nat.lt_of_lt_of_le hl0 hb1.size; clear hb1 y0 x0) | (go_at_call 9; refine (K5.out _ HB1).mono ?_; clear K5; rintro e v2 ⟨rfl, hb2⟩; have HB2 := Below.chain HB1 hb2; have y2 := (hb2.cell (p := ⟨w.heap.size, 0, none⟩) hl1).trans y1; have x2 := (hb2.cell (p := ⟨w.heap.size, 1, none⟩) hl1).trans x1; have hl2 := Nat.lt_of_lt_of_le hl1 hb2.size; clear hb2 y1 x1) | (go_at_call 7; refine (K6.out _).mono ?_; clear K6; rintro e v9 ⟨rfl, h⟩; subst h) | (go_at_call 6; refine (KW.out _ HB2).mono ?_; rintro e v8 ⟨rfl, hb8⟩))
        refine bodyPost_ret (by first | (simp [results, Tryz.results3, go_sem]; done) | (simp [results, Tryz.results3, go_sem]; rfl)) rfl ?_
        exact ⟨rfl, Below.chain HB2 hb8⟩
      | true =>
        cases f2 with
        | false =>
          clear q0 q1 l0 l1 l2 C5 C6 hz
          go_wp2_with (first | (go_at_call 7; refine (K2.out _).mono ?_; clear K2; rintro e v9 ⟨rfl, h⟩; subst h) | (go_at_call 7; refine (K3.out _).mono ?_; clear K3; rintro e v9 ⟨rfl, h⟩; subst h) | (go_at_call 8; refine (K4.out _ HB0).mono ?_; clear K4; rintro e v1 ⟨rfl, hb1⟩; have HB1 := Below.chain HB0 hb1; have y1 := (hb1.cell (p := ⟨w.heap.size, 0, none⟩) hl0).trans y0; have x1 := (hb1.cell (p := ⟨w.heap.size, 1, none⟩) hl0).trans x0; have hl1 := Nat.lt_of_lt_of_le hl0 hb1.size; clear hb1 y0 x0) | (go_at_call 9; refine (K5.out _ HB1).mono ?_; clear K5; rintro e v2 ⟨rfl, hb2⟩; have HB2 := Below.chain HB1 hb2; have y2 := (hb2.cell (p := ⟨w.heap.size, 0, none⟩) hl1).trans y1; have x2 := (hb2.cell (p := ⟨w.heap.size, 1, none⟩) hl1).trans x1; have hl2 := Nat.lt_of_lt_of_le hl1 hb2.size; clear hb2 y1 x1) | (go_at_call 7; refine (K6.out _).mono ?_; clear K6; rintro e v9 ⟨rfl, h⟩; subst h) | (go_at_call 6; refine (KW.out _ HB2).mono ?_; rintro e v8 ⟨rfl, hb8⟩))
          refine bodyPost_ret (by first | (simp [results, Tryz.results3, go_sem]; done) | (simp [results, Tryz.results3, go_sem]; rfl)) rfl ?_
          exact ⟨rfl, Below.chain HB2 hb8⟩
        | true =>
          have C6' := C6 hz rfl rfl
          have K6 := Lib.hid C6'
          clear q0 q1 l0 l1 l2 C5 C6 C6' hz
          go_wp2_with (first | (go_at_call 7; refine (K2.out _).mono ?_; clear K2; rintro e v9 ⟨rfl, h⟩; subst h) | (go_at_call 7; refine (K3.out _).mono ?_; clear K3; rintro e v9 ⟨rfl, h⟩; subst h) | (go_at_call 8; refine (K4.out _ HB0).mono ?_; clear K4; rintro e v1 ⟨rfl, hb1⟩; have HB1 := Below.chain HB0 hb1; have y1 := (hb1.cell (p := ⟨w.heap.size, 0, none⟩) hl0).trans y0; have x1 := (hb1.cell (p := ⟨w.heap.size, 1, none⟩) hl0).trans x0; have hl1 := Nat.lt_of_lt_of_le hl0 hb1.size; clear hb1 y0 x0) | (go_at_call 9; refine (K5.out _ HB1).mono ?_; clear K5; rintro e v2 ⟨rfl, hb2⟩; have HB2 := Below.chain HB1 hb2; have y2 := (hb2.cell (p := ⟨w.heap.size, 0, none⟩) hl1).trans y1; have x2 := (hb2.cell (p := ⟨w.heap.size, 1, none⟩) hl1).trans x1; have hl2 := Nat.lt_of_lt_of_le hl1 hb2.size; clear hb2 y1 x1) | (go_at_call 7; refine (K6.out _).mono ?_; clear K6; rintro e v9 ⟨rfl, h⟩; subst h) | (go_at_call 6; refine (KW.out _ HB2).mono ?_; rintro e v8 ⟨rfl, hb8⟩))
          refine bodyPost_ret (by first | (simp [results, Tryz.results3, go_sem]; done) | (simp [results, Tryz.results3, go_sem]; rfl)) rfl ?_
          exact ⟨rfl, Below.chain HB2 hb8⟩
end Go.Proofs.YtmnbjkbkjmgmkaaGreatDoor

set_option linter.unusedSimpArgs false
set_option linter.unusedVariables false
namespace Go.Proofs.YtmnbjkbkjmgmkaaGreatDoor
open Go Go.Proofs Go.RowKit
theorem lexOwn : ownKnob Tryz.prog.godebug = none := by kernel_rfl
theorem flat_of_chunks {m : Nat} : ∀ (L : List (List Value)) (cs : List Value), cs.length = L.length * m → (∀ i r, L[i]? = some r → (cs.drop (i * m)).take m = r) → cs = L.flatten
  | [], cs, hl, _ => by
    have : cs.length = 0 := by simpa using hl
    rw [List.length_eq_zero_iff.1 this]; rfl
  | r :: L, cs, hl, h => by
    have h0 := h 0 r rfl
    simp only [Nat.zero_mul, List.drop_zero] at h0
    have h1 := flat_of_chunks L (cs.drop m) (by rw [List.length_drop, hl, List.length_cons, Nat.add_one_mul, Nat.add_sub_cancel]) (fun i r' hr => by
      have := h (i + 1) r' (by simpa using hr)
      rw [List.drop_drop]
      rwa [show m + i * m = (i + 1) * m by rw [Nat.succ_mul]; omega])
    rw [List.flatten_cons, ← h1, ← h0, List.take_append_drop]
theorem cells_of_arr {H α : Type} {enc : TypeId × Value → H} {P : Program} {w : World} {base : Nat} {sp : Nat → Bool} {held : Bool} {fuel : Nat} {t e : TypeId} {n m : Nat} {cs : List Value} {p : List MemPlace} {L : List α} {D : α → DataW H} {F : α → List Value}
    (ht : P.underlying t = some (.array n e)) (hce : P.cellsOf e = m) (hct : P.cellsOf t = n * m)
    (hel : ∀ (a : α) (cs' : List Value) (f : Nat) (q : List MemPlace), a ∈ L → DataW.trod enc P w base sp held f e cs' = some (D a, q) → cs' = F a)
    (h : DataW.trod enc P w base sp held fuel t cs = some (.agg (L.map D), p)) : cs = L.flatMap F := by
  obtain ⟨xs, f, -, hx, hl, hn, hall⟩ := DataW.trod_array ht h
  have hd : xs.map (·.1) = L.map D := by
    have := congrArg Prod.fst hx
    simpa using this.symm
  have hLn : L.length = n := by
    have := congrArg List.length hd
    simp at this; omega
  rw [List.flatMap_def]
  refine flat_of_chunks _ cs (by rw [hl, hct, List.length_map, hLn]) (fun i r hr => ?_)
  rw [List.getElem?_map, Option.map_eq_some_iff] at hr
  obtain ⟨a, ha, rfl⟩ := hr
  have hi : i < n := by
    have := (List.getElem?_eq_some_iff.1 ha).1
    omega
  have h1 := hall i hi
  rw [hce] at h1
  have h2 : (xs.map (·.1))[i]? = (L.map D)[i]? := by rw [hd]
  rw [List.getElem?_map, List.getElem?_map, ha] at h2
  obtain ⟨y, hy, hy2⟩ := Option.map_eq_some_iff.1 h2
  rw [hy] at h1
  obtain ⟨y1, y2⟩ := y
  dsimp only at hy2
  subst hy2
  exact hel a _ f y2 (List.mem_of_getElem? ha) h1
def res3 : List (List (List Int)) := [[[1, 1, 7], [1, 2, 4], [7, 4, 4]], [[7, 1, 1], [4, 2, 1], [4, 4, 7]], [[4, 2, 1], [2, 2, 2], [1, 2, 4]], [[6, 0, 1], [2, 0, 2], [1, 0, 6]], [[3, 0, 6], [2, 0, 2], [3, 0, 6]]]
def par3 : List (List Int) := [[0, 0, 0], [0, 0, 0], [1, 2, 4], [7, 5, 7], [7, 4, 4], [7, 6, 4]]
def nam3 : List (List UInt8) := [[110, 111, 110, 101], [110, 101, 103, 97, 116, 105, 118, 101], [122, 101, 114, 111], [110, 111, 110, 112, 111, 115, 105, 116, 105, 118, 101], [112, 111, 115, 105, 116, 105, 118, 101], [110, 111, 110, 122, 101, 114, 111], [110, 111, 110, 110, 101, 103, 97, 116, 105, 118, 101], [97, 110, 121]]
theorem g_names : Tryz.prog.globalNamed "surveyor/sign.names" = some 1 := by kernel_rfl
theorem gt_names : (Tryz.prog.globals[1]?).map (·.type) = some 57 := by kernel_rfl
theorem g_results : Tryz.prog.globalNamed "surveyor/sign.results" = some 2 := by kernel_rfl
theorem gt_results : (Tryz.prog.globals[2]?).map (·.type) = some 65 := by kernel_rfl
theorem g_partners : Tryz.prog.globalNamed "surveyor/sign.partners" = some 0 := by kernel_rfl
theorem gt_partners : (Tryz.prog.globals[0]?).map (·.type) = some 56 := by kernel_rfl
theorem row3_of {H : Type} {enc : TypeId × Value → H} {w : World} {base : Nat} {sp : Nat → Bool} {held : Bool} {fuel : Nat} {cs : List Value} {zs : List Int} {p : List MemPlace}
    (h : DataW.trod enc Tryz.prog w base sp held fuel 55 cs = some (Lib.tabData .i64 zs, p)) : cs = zs.map fun z => Value.int .i64 z :=
  Lib.cells_of_tab Tryz.underlying55 Tryz.underlying3 (by kernel_rfl) (by kernel_rfl) h
theorem res_cells {H : Type} {enc : TypeId × Value → H} {w : World} {base : Nat} {sp : Nat → Bool} {held : Bool} {fuel : Nat} {cs : List Value} {p : List MemPlace}
    (h : DataW.trod enc Tryz.prog w base sp held fuel 65 cs = some (.agg (res3.map fun r => .agg (r.map (Lib.tabData .i64))), p)) : cs = res3.flatMap fun r => r.flatMap fun z => z.map fun z => Value.int .i64 z :=
  cells_of_arr (m := 9) Tryz.underlying65 (by kernel_rfl) (by kernel_rfl) (fun r cs' f q _ h => cells_of_arr (m := 3) Tryz.underlying64 (by kernel_rfl) (by kernel_rfl) (fun z cs' f q _ h => row3_of h) h) h
theorem par_cells {H : Type} {enc : TypeId × Value → H} {w : World} {base : Nat} {sp : Nat → Bool} {held : Bool} {fuel : Nat} {cs : List Value} {p : List MemPlace}
    (h : DataW.trod enc Tryz.prog w base sp held fuel 56 cs = some (.agg (par3.map (Lib.tabData .i64)), p)) : cs = par3.flatMap fun z => z.map fun z => Value.int .i64 z :=
  cells_of_arr (m := 3) Tryz.underlying56 (by kernel_rfl) (by kernel_rfl) (fun z cs' f q _ h => row3_of h) h
theorem nam_cells {H : Type} {enc : TypeId × Value → H} {w : World} {base : Nat} {sp : Nat → Bool} {held : Bool} {fuel : Nat} {cs : List Value} {p : List MemPlace}
    (h : DataW.trod enc Tryz.prog w base sp held fuel 57 cs = some (.agg (nam3.map fun s => .lit (.string s)), p)) : cs = nam3.flatMap fun s => [Value.string ⟨s.toArray⟩] :=
  cells_of_arr (m := 1) Tryz.underlying57 (by kernel_rfl) (by kernel_rfl) (fun s cs' f q _ h => by
    obtain ⟨b, rfl, hb, -⟩ := DataW.trod_string Tryz.underlying9 h
    simp only [Prod.mk.injEq, DataW.lit.injEq, Lit.string.injEq] at hb
    rw [hb.1]) h
theorem var_head {P : Program} {W : World} {name : String} {d : DataW Unit} {rest : List (String × DataW Unit)} {g : Nat} {t : TypeId} (hg : P.globalNamed name = some g) (hty : (P.globals[g]?).map (·.type) = some t)
    (h : laidMet P ((name, d) :: rest) W) : ∃ (cs : Array Value) (fuel : Nat) (p : List MemPlace), W.var? P name = some cs ∧ DataW.trod (fun _ => ()) P W 0 (fun _ => true) false fuel t cs.toList = some (d, p) := by
  obtain ⟨ps, ⟨g', t', cs, fuel, p, q, hg', ht', hvar, hd, _, _⟩, _⟩ := h
  obtain rfl := Option.some.inj (hg.symm.trans hg')
  obtain rfl := Option.some.inj (hty.symm.trans ht')
  exact ⟨cs, fuel, p, hvar, hd⟩
def laidSg : List (String × DataW Unit) := [("math/bits.deBruijn32tab", Rows.laid_math_bits_deBruijn32tab), ("math/bits.deBruijn64tab", Rows.laid_math_bits_deBruijn64tab), ("internal/strconv.uint64pow10", Rows.laid_internal_strconv_uint64pow10), ("strconv.ErrRange", Rows.laid_strconv_ErrRange), ("strconv.ErrSyntax", Rows.laid_strconv_ErrSyntax), ("surveyor/sign.names", Rows.laid_surveyor_sign_names), ("surveyor/sign.results", Rows.laid_surveyor_sign_results), ("surveyor/sign.partners", Rows.laid_surveyor_sign_partners)]
theorem lt_of_cell {W : World} {g k : Nat} {v : Value} (e : W.cell? ⟨g, k, none⟩ = some v) : g < W.heap.size := by
  rcases Nat.lt_or_ge g W.heap.size with q | q
  · exact q
  · simp [World.cell?, Array.getElem?_eq_none q] at e
theorem res_all : ∀ k : Fin 45, (res3.flatMap fun r => r.flatMap fun z => z.map fun z => Value.int .i64 z)[k.val]? = some (.int .i64 (resTab.getD k.val 0 : Nat)) := by
  intro k
  rcases k with ⟨k, hk⟩
  have : ∀ k : Fin 45, (res3.flatMap fun r => r.flatMap fun z => z)[k.val]? = some ((resTab.getD k.val 0 : Nat) : Int) := by decide
  have h1 := this ⟨k, hk⟩
  have h2 : (res3.flatMap fun r => r.flatMap fun z => z.map fun z => Value.int .i64 z) = (res3.flatMap fun r => r.flatMap fun z => z).map fun z => Value.int .i64 z := rfl
  rw [h2, List.getElem?_map, h1]; rfl
theorem par_all : ∀ k : Fin 18, (par3.flatMap fun z => z.map fun z => Value.int .i64 z)[k.val]? = some (.int .i64 (par18.getD k.val 0 : Nat)) := by
  intro k
  rcases k with ⟨k, hk⟩
  have : ∀ k : Fin 18, (par3.flatMap fun z => z)[k.val]? = some ((par18.getD k.val 0 : Nat) : Int) := by decide
  have h1 := this ⟨k, hk⟩
  have h2 : (par3.flatMap fun z => z.map fun z => Value.int .i64 z) = (par3.flatMap fun z => z).map fun z => Value.int .i64 z := rfl
  rw [h2, List.getElem?_map, h1]; rfl
theorem nam_all : ∀ k, k < 8 → (nam3.flatMap fun s => [Value.string ⟨s.toArray⟩])[k]? = some (.string (nameS k)) := by
  intro k hk
  rcases (show k = 0 ∨ k = 1 ∨ k = 2 ∨ k = 3 ∨ k = 4 ∨ k = 5 ∨ k = 6 ∨ k = 7 by omega) with rfl | rfl | rfl | rfl | rfl | rfl | rfl | rfl <;> rfl
set_option maxRecDepth 100000 in
theorem sg_of_laid {W : World} (h : laidMetH Tryz.prog laidSg W) : SgTab W := by
  rw [MakeChecks.laidMetH_plain _ _ _ (by kernel_rfl)] at h
  have h0 : laidMet Tryz.prog [("math/bits.deBruijn32tab", Rows.laid_math_bits_deBruijn32tab), ("math/bits.deBruijn64tab", Rows.laid_math_bits_deBruijn64tab), ("internal/strconv.uint64pow10", Rows.laid_internal_strconv_uint64pow10), ("strconv.ErrRange", Rows.laid_strconv_ErrRange), ("strconv.ErrSyntax", Rows.laid_strconv_ErrSyntax), ("surveyor/sign.names", Rows.laid_surveyor_sign_names), ("surveyor/sign.results", Rows.laid_surveyor_sign_results), ("surveyor/sign.partners", Rows.laid_surveyor_sign_partners)] W := h
  have h1 : laidMet Tryz.prog [("math/bits.deBruijn64tab", Rows.laid_math_bits_deBruijn64tab), ("internal/strconv.uint64pow10", Rows.laid_internal_strconv_uint64pow10), ("strconv.ErrRange", Rows.laid_strconv_ErrRange), ("strconv.ErrSyntax", Rows.laid_strconv_ErrSyntax), ("surveyor/sign.names", Rows.laid_surveyor_sign_names), ("surveyor/sign.results", Rows.laid_surveyor_sign_results), ("surveyor/sign.partners", Rows.laid_surveyor_sign_partners)] W := h0.tail
  have h2 : laidMet Tryz.prog [("internal/strconv.uint64pow10", Rows.laid_internal_strconv_uint64pow10), ("strconv.ErrRange", Rows.laid_strconv_ErrRange), ("strconv.ErrSyntax", Rows.laid_strconv_ErrSyntax), ("surveyor/sign.names", Rows.laid_surveyor_sign_names), ("surveyor/sign.results", Rows.laid_surveyor_sign_results), ("surveyor/sign.partners", Rows.laid_surveyor_sign_partners)] W := h1.tail
  have h3 : laidMet Tryz.prog [("strconv.ErrRange", Rows.laid_strconv_ErrRange), ("strconv.ErrSyntax", Rows.laid_strconv_ErrSyntax), ("surveyor/sign.names", Rows.laid_surveyor_sign_names), ("surveyor/sign.results", Rows.laid_surveyor_sign_results), ("surveyor/sign.partners", Rows.laid_surveyor_sign_partners)] W := h2.tail
  have h4 : laidMet Tryz.prog [("strconv.ErrSyntax", Rows.laid_strconv_ErrSyntax), ("surveyor/sign.names", Rows.laid_surveyor_sign_names), ("surveyor/sign.results", Rows.laid_surveyor_sign_results), ("surveyor/sign.partners", Rows.laid_surveyor_sign_partners)] W := h3.tail
  have h5 : laidMet Tryz.prog [("surveyor/sign.names", Rows.laid_surveyor_sign_names), ("surveyor/sign.results", Rows.laid_surveyor_sign_results), ("surveyor/sign.partners", Rows.laid_surveyor_sign_partners)] W := h4.tail
  obtain ⟨c_names, f_names, p_names, v_names, d_names⟩ := var_head g_names gt_names h5
  have e_names := nam_cells d_names
  have a_names := World.var?_cell g_names v_names
  have h6 : laidMet Tryz.prog [("surveyor/sign.results", Rows.laid_surveyor_sign_results), ("surveyor/sign.partners", Rows.laid_surveyor_sign_partners)] W := h5.tail
  obtain ⟨c_results, f_results, p_results, v_results, d_results⟩ := var_head g_results gt_results h6
  have e_results := res_cells d_results
  have a_results := World.var?_cell g_results v_results
  have h7 : laidMet Tryz.prog [("surveyor/sign.partners", Rows.laid_surveyor_sign_partners)] W := h6.tail
  obtain ⟨c_partners, f_partners, p_partners, v_partners, d_partners⟩ := var_head g_partners gt_partners h7
  have e_partners := par_cells d_partners
  have a_partners := World.var?_cell g_partners v_partners
  have r0 : ∀ k, k < 45 → W.cell? ⟨2, k, none⟩ = some (.int .i64 (resTab.getD k 0 : Nat)) := fun k hk => by
    rw [a_results k, ← Array.getElem?_toList, e_results]; exact res_all ⟨k, hk⟩
  have r1 : ∀ k, k < 18 → W.cell? ⟨0, k, none⟩ = some (.int .i64 (par18.getD k 0 : Nat)) := fun k hk => by
    rw [a_partners k, ← Array.getElem?_toList, e_partners]; exact par_all ⟨k, hk⟩
  have r2 : ∀ k, k < 8 → W.cell? ⟨1, k, none⟩ = some (.string (nameS k)) := fun k hk => by
    rw [a_names k, ← Array.getElem?_toList, e_names]; exact nam_all k hk
  exact ⟨lt_of_cell (r0 0 (by decide)), lt_of_cell (r1 0 (by decide)), lt_of_cell (r2 0 (by decide)), r0, r1, r2⟩
theorem gPow : Tryz.prog.globalNamed "internal/strconv.uint64pow10" = some 3 := by kernel_rfl
theorem gPowType : (Tryz.prog.globals[3]?).map (·.type) = some 125 := by kernel_rfl
set_option maxRecDepth 100000 in
theorem pow_of_laid {W : World} (h : laidMetH Tryz.prog laidSg W) : PowTab W := by
  rw [MakeChecks.laidMetH_plain _ _ _ (by kernel_rfl)] at h
  have h2 : laidMet Tryz.prog [("internal/strconv.uint64pow10", Rows.laid_internal_strconv_uint64pow10), ("strconv.ErrRange", Rows.laid_strconv_ErrRange), ("strconv.ErrSyntax", Rows.laid_strconv_ErrSyntax), ("surveyor/sign.names", Rows.laid_surveyor_sign_names), ("surveyor/sign.results", Rows.laid_surveyor_sign_results), ("surveyor/sign.partners", Rows.laid_surveyor_sign_partners)] W := h.tail.tail
  exact Lib.tabIs_of_head gPow gPowType Tryz.underlying125 Tryz.underlying87 (by kernel_rfl) (by kernel_rfl) h2
set_option maxRecDepth 100000 in
theorem sgDoor (os : Os) (args : Array Value) : laidMetH Tryz.prog laidSg ((World.laidAll Tryz.prog os laidSg).forCall (fun _ _ => 0) ⟨#[], args, []⟩).memory := by
  rw [MakeChecks.laidMetH_plain _ _ _ (by kernel_rfl)]
  exact laidMet_laidAll _ (by kernel_rfl) (by kernel_rfl)
theorem len_le {s : ByteArray} (h : s.size ≤ maxLen) : s.size ≤ 9223372036854775807 := h
theorem shaped_lift {H : Type} {enc : TypeId × Value → H} {a : Assume} {C : Checked} {os : Os} {f : FuncId} {fn : Func} {s : ChangeSpec} {conds : List PathCond} {apart fresh handsOn again : Bool} {X : World → Array Value → Prop}
    (hX : ∀ (v v' : World) (args : Array Value), v.heap = v'.heap → X v args → X v' args)
    (hown : ownKnob C.prog.godebug = none) (started : os.Started) (noInit : C.prog.inits.idxOf? f = none) (hfn : C.prog.funcs[f]? = some fn)
    (witness : ∃ (v : World) (tape : Tape) (i : Input), v.os = os ∧ (v.forCall tape i).Shaped C.prog ∧ i.vars = [] ∧ Input.okWide C.prog (v.forCall tape i) .any v.heap.size f i ∧
      ((s.pre enc C.prog fn conds apart (v.forCall tape i).memory i.args ∧ X (v.forCall tape i).memory i.args) ∧ sizedMet enc C.prog fn (OpenSpec.ofChange s) apart (v.forCall tape i).memory i.args) ∧ a.holds C.prog (lone (Frame.enter C.prog f i.args .normal) [] (v.forCall tape i)))
    (contract : ∀ (W : World) (base : Nat) (args : Array Value) (ds gs : List (DataW H)) (before : List MemPlace),
      (∀ (j : Nat) t v, fn.params[j]? = some t → args[j]? = some v → Value.okWide C.prog W .any base t v) →
      DataW.Whole enc C.prog fn.params.toList s.vars apart W args.toList ds gs before → X W args → W.ShapedOpen C.prog →
      Calls C.prog f args W fun e W' => ∃ v, e = .returned v ∧ s.post enc C.prog fn apart fresh handsOn again W args v W') :
    ReturnsInHanded a C os f .any (fun v args => (s.pre enc C.prog fn conds apart v args ∧ X v args) ∧ sizedMet enc C.prog fn (OpenSpec.ofChange s) apart v args) (s.post enc C.prog fn apart fresh handsOn again) := by
  refine returnsInHanded_of_calls hown started noInit witness ?_
  intro v tape i _ hsh _ hin hpre _
  obtain ⟨_, _, _, g, hg, _, _, _, _, hval⟩ := hin
  obtain rfl : g = fn := Option.some.inj (hg.symm.trans hfn)
  obtain ⟨⟨⟨ds, gs, before, hw, -⟩, hx⟩, -⟩ := hpre
  refine (contract (v.forCall tape i) v.heap.size i.args ds gs before hval (DataW.Whole.of_heap (by rfl) hw) (hX _ _ _ (by rfl) hx) hsh).mono fun e W' ⟨r, he, hq⟩ => ?_
  subst he
  exact ChangeSpec.post_blind hq
end Go.Proofs.YtmnbjkbkjmgmkaaGreatDoor
