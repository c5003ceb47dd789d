/-
  sign: the laws' awake and apply.
-/
import Derived.Test.YtmnbjkbkjmgmkaaDoorSgH
set_option linter.unusedSimpArgs false
set_option linter.unusedVariables false
namespace Go.Proofs.YtmnbjkbkjmgmkaaDoor
open Go Go.Proofs Go.RowKit Go.Shelf

attribute [local go_sem] Oper.semAt_some

set_option maxHeartbeats 4000000 in
theorem awake19_any (w : World) (hT : SgTab w) : Calls Tryd.prog 10 #[] w fun e w' => e = .returned (.bool true) ∧ Below w.heap.size w w' := by
  have C0 : ∀ W, Below w.heap.size w W → Calls Tryd.prog 38 #[.int .i64 4, .int .i64 1] W fun e w' => e = .returned (.tuple #[.int .i64 7, .int .i64 0]) ∧ Below W.heap.size W w' := fun W h => sgAdd_any 4 1 W (hT.on h)
  have C1 : ∀ W, Below w.heap.size w W → Calls Tryd.prog 38 #[.int .i64 6, .int .i64 4] W fun e w' => e = .returned (.tuple #[.int .i64 4, .int .i64 0]) ∧ Below W.heap.size W w' := fun W h => sgAdd_any 6 4 W (hT.on h)
  have C2 : ∀ W, Below w.heap.size w W → Calls Tryd.prog 39 #[.int .i64 4, .int .i64 4] W fun e w' => e = .returned (.tuple #[.int .i64 6, .int .i64 0]) ∧ Below W.heap.size W w' := fun W h => sgQuo_any 4 4 W (hT.on h)
  have C3 : ∀ W, Below w.heap.size w W → Calls Tryd.prog 39 #[.int .i64 4, .int .i64 1] W fun e w' => e = .returned (.tuple #[.int .i64 1, .int .i64 0]) ∧ Below W.heap.size W w' := fun W h => sgQuo_any 4 1 W (hT.on h)
  have C4 : ∀ W, Below w.heap.size w W → Calls Tryd.prog 40 #[.int .i64 7, .int .i64 4] W fun e w' => e = .returned (.tuple #[.int .i64 6, .int .i64 0]) ∧ Below W.heap.size W w' := fun W h => sgRem_any 7 4 W (hT.on h)
  have C5 : ∀ W, Below w.heap.size w W → Calls Tryd.prog 40 #[.int .i64 7, .int .i64 2] W fun e w' => e = .returned (.tuple #[.int .i64 0, .int .i64 0]) ∧ Below W.heap.size W w' := fun W h => sgRem_any 7 2 W (hT.on h)
  have C6 : ∀ W, Below w.heap.size w W → Calls Tryd.prog 33 #[.int .i64 4, .int .i64 7, .int .i64 2] W fun e w' => e = .returned (.tuple #[.int .i64 1, .int .i64 2, .int .i64 0]) ∧ Below W.heap.size W w' := fun W h => sgRefine_all 4 7 2 W (hT.on h)
  have C7 : ∀ W, Below w.heap.size w W → Calls Tryd.prog 33 #[.int .i64 5, .int .i64 6, .int .i64 3] W fun e w' => e = .returned (.tuple #[.int .i64 2, .int .i64 2, .int .i64 0]) ∧ Below W.heap.size W w' := fun W h => sgRefine_all 5 6 3 W (hT.on h)
  have C8 : ∀ W, Below w.heap.size w W → Calls Tryd.prog 17 #[.int .i64 6] W fun e w' => e = .returned (.tuple #[.string ⟨#[110, 111, 110, 110, 101, 103, 97, 116, 105, 118, 101]⟩, .int .i64 0]) ∧ Below W.heap.size W w' := fun W h => sgFormat_any 6 W (hT.on h)
  have K0 := Lib.hid C0; have K1 := Lib.hid C1; have K2 := Lib.hid C2; have K3 := Lib.hid C3; have K4 := Lib.hid C4; have K5 := Lib.hid C5; have K6 := Lib.hid C6; have K7 := Lib.hid C7; have K8 := Lib.hid C8
  clear C0 C1 C2 C3 C4 C5 C6 C7 C8 hT
  go_enter Tryd.func10, Tryd.ntmps10
  have HB0 : Below w.heap.size w w := Below.refl _ _
  go_wp2_with (first | (go_at_call 38; refine (K0.out _ (Below.chain HB0 (by go_grown))).mono ?_; clear K0; rintro e w1 ⟨rfl, hb1⟩; have HB1 := Below.chain (Below.chain HB0 (by go_grown)) hb1; clear hb1) | (go_at_call 38; refine (K1.out _ (Below.chain HB1 (by go_grown))).mono ?_; clear K1; rintro e w2 ⟨rfl, hb2⟩; have HB2 := Below.chain (Below.chain HB1 (by go_grown)) hb2; clear hb2) | (go_at_call 39; refine (K2.out _ (Below.chain HB2 (by go_grown))).mono ?_; clear K2; rintro e w3 ⟨rfl, hb3⟩; have HB3 := Below.chain (Below.chain HB2 (by go_grown)) hb3; clear hb3) | (go_at_call 39; refine (K3.out _ (Below.chain HB3 (by go_grown))).mono ?_; clear K3; rintro e w4 ⟨rfl, hb4⟩; have HB4 := Below.chain (Below.chain HB3 (by go_grown)) hb4; clear hb4) | (go_at_call 40; refine (K4.out _ (Below.chain HB4 (by go_grown))).mono ?_; clear K4; rintro e w5 ⟨rfl, hb5⟩; have HB5 := Below.chain (Below.chain HB4 (by go_grown)) hb5; clear hb5) | (go_at_call 40; refine (K5.out _ (Below.chain HB5 (by go_grown))).mono ?_; clear K5; rintro e w6 ⟨rfl, hb6⟩; have HB6 := Below.chain (Below.chain HB5 (by go_grown)) hb6; clear hb6) | (go_at_call 33; refine (K6.out _ (Below.chain HB6 (by go_grown))).mono ?_; clear K6; rintro e w7 ⟨rfl, hb7⟩; have HB7 := Below.chain (Below.chain HB6 (by go_grown)) hb7; clear hb7) | (go_at_call 33; refine (K7.out _ (Below.chain HB7 (by go_grown))).mono ?_; clear K7; rintro e w8 ⟨rfl, hb8⟩; have HB8 := Below.chain (Below.chain HB7 (by go_grown)) hb8; clear hb8) | (go_at_call 17; refine (K8.out _ (Below.chain HB8 (by go_grown))).mono ?_; clear K8; rintro e w9 ⟨rfl, hb9⟩; have HB9 := Below.chain (Below.chain HB8 (by go_grown)) hb9; clear hb9))
  refine bodyPost_ret (by first | (simp [results, Tryd.results10, go_sem]; done) | (simp [results, Tryd.results10, go_sem]; rfl)) rfl ?_
  exact ⟨rfl, HB9⟩
set_option maxHeartbeats 4000000 in
theorem apply19_any (m : Nat) (s t : Int) (w : World) (hm : m < 256) (hT : SgTab w) : Calls Tryd.prog 27 #[.int .u8 (m : Int), .int .i64 s, .int .i64 t] w fun e w' => e = .returned (.tuple #[.int .i64 (opR (m % 5) s t), .int .i64 (errB s t)]) ∧ Below w.heap.size w w' := by
  have C0 := sgAdd_any s t w hT
  have C1 := sgSub_any s t w hT
  have C2 := sgMul_any s t w hT
  have C3 := sgQuo_any s t w hT
  have C4 := sgRem_any s t w hT
  have h5 : (m : Int) % 5 = ((m % 5 : Nat) : Int) := by omega
  have hp : (0 : Int) ≤ (m : Int) := by omega
  have ht : Int.tmod (m : Int) 5 = ((m % 5 : Nat) : Int) := by rw [Int.tmod_eq_emod_of_nonneg hp]; exact h5
  have hr : m % 5 < 5 := Nat.mod_lt _ (by decide)
  generalize m % 5 = r at *
  have K0 := Lib.hid C0; have K1 := Lib.hid C1; have K2 := Lib.hid C2; have K3 := Lib.hid C3; have K4 := Lib.hid C4
  clear C0 C1 C2 C3 C4 hT h5
  rcases (show r = 0 ∨ r = 1 ∨ r = 2 ∨ r = 3 ∨ r = 4 by omega) with rfl | rfl | rfl | rfl | rfl
  · generalize opR 0 s t = R at *
    have t0 : Int.tmod (m : Int) 5 = 0 := ht
    clear ht
    go_enter Tryd.func27, Tryd.ntmps27
    go_wp2_with (go_at_call 38; refine (K0.out).mono ?_; rintro e w1 ⟨rfl, hb⟩)
    refine bodyPost_ret (by first | (simp [results, Tryd.results27, go_sem]; done) | (simp [results, Tryd.results27, go_sem]; rfl)) rfl ?_
    exact ⟨rfl, hb⟩
  · generalize opR 1 s t = R at *
    have t0 : Int.tmod (m : Int) 5 = 1 := ht
    clear ht
    go_enter Tryd.func27, Tryd.ntmps27
    go_wp2_with (go_at_call 46; refine (K1.out).mono ?_; rintro e w1 ⟨rfl, hb⟩)
    refine bodyPost_ret (by first | (simp [results, Tryd.results27, go_sem]; done) | (simp [results, Tryd.results27, go_sem]; rfl)) rfl ?_
    exact ⟨rfl, hb⟩
  · generalize opR 2 s t = R at *
    have t0 : Int.tmod (m : Int) 5 = 2 := ht
    clear ht
    go_enter Tryd.func27, Tryd.ntmps27
    go_wp2_with (go_at_call 49; refine (K2.out).mono ?_; rintro e w1 ⟨rfl, hb⟩)
    refine bodyPost_ret (by first | (simp [results, Tryd.results27, go_sem]; done) | (simp [results, Tryd.results27, go_sem]; rfl)) rfl ?_
    exact ⟨rfl, hb⟩
  · generalize opR 3 s t = R at *
    have t0 : Int.tmod (m : Int) 5 = 3 := ht
    clear ht
    go_enter Tryd.func27, Tryd.ntmps27
    go_wp2_with (go_at_call 39; refine (K3.out).mono ?_; rintro e w1 ⟨rfl, hb⟩)
    refine bodyPost_ret (by first | (simp [results, Tryd.results27, go_sem]; done) | (simp [results, Tryd.results27, go_sem]; rfl)) rfl ?_
    exact ⟨rfl, hb⟩
  · generalize opR 4 s t = R at *
    have t0 : Int.tmod (m : Int) 5 = 4 := ht
    clear ht
    go_enter Tryd.func27, Tryd.ntmps27
    go_wp2_with (go_at_call 40; refine (K4.out).mono ?_; rintro e w1 ⟨rfl, hb⟩)
    refine bodyPost_ret (by first | (simp [results, Tryd.results27, go_sem]; done) | (simp [results, Tryd.results27, go_sem]; rfl)) rfl ?_
    exact ⟨rfl, hb⟩
end Go.Proofs.YtmnbjkbkjmgmkaaDoor
