/-
  sign: the laws SignOrders and SignRefines.
-/
import Derived.Test.YtmnbjkbkjmgmkaaDoorSgK
set_option linter.unusedSimpArgs false
set_option linter.unusedVariables false
namespace Go.Proofs.YtmnbjkbkjmgmkaaDoor
open Go Go.Proofs Go.RowKit Go.Shelf

attribute [local go_sem] Oper.semAt_some

set_option maxHeartbeats 4000000 in
theorem lorders_walk (s t : Int) (w : World) (hT : SgTab w) : Calls Tryd.prog 4 #[.int .i64 s, .int .i64 t] w fun e w' => e = .returned (.bool true) ∧ Below w.heap.size w w' := by
  have C0 : ∀ W, Below w.heap.size w W → Calls Tryd.prog 21 #[.int .i64 s, .int .i64 t] W fun e w' => e = .returned (.tuple #[.bool (leqR s t), .int .i64 (errB s t)]) ∧ Below W.heap.size W w' := fun W h => (sgLeq_any s t W).mono fun _ _ h => ⟨h.1, by rw [h.2]; exact Below.refl _ _⟩
  have C1 : ∀ W, Below w.heap.size w W → Calls Tryd.prog 22 #[.int .i64 s, .int .i64 t] W fun e w' => e = .returned (.tuple #[.bool (leqR s t), .int .i64 (errB s t)]) ∧ Below W.heap.size W w' := fun W h => (refLeq19_any s t W).mono fun _ _ h => ⟨h.1, by rw [h.2]; exact Below.refl _ _⟩
  have C2 : ∀ W, Below w.heap.size w W → Calls Tryd.prog 23 #[.int .i64 s, .int .i64 t] W fun e w' => e = .returned (.tuple #[.int .i64 (joinR s t), .int .i64 (errB s t)]) ∧ Below W.heap.size W w' := fun W h => (sgJoin_any s t W).mono fun _ _ h => ⟨h.1, by rw [h.2]; exact Below.refl _ _⟩
  have C3 : ∀ W, Below w.heap.size w W → Calls Tryd.prog 24 #[.int .i64 s, .int .i64 t] W fun e w' => e = .returned (.tuple #[.int .i64 (joinR s t), .int .i64 (errB s t)]) ∧ Below W.heap.size W w' := fun W h => (refJoin19_any s t W).mono fun _ _ h => ⟨h.1, by rw [h.2]; exact Below.refl _ _⟩
  have C4 : ∀ W, Below w.heap.size w W → Calls Tryd.prog 25 #[.int .i64 s, .int .i64 t] W fun e w' => e = .returned (.tuple #[.int .i64 (meetR s t), .int .i64 (errB s t)]) ∧ Below W.heap.size W w' := fun W h => (sgMeet_any s t W).mono fun _ _ h => ⟨h.1, by rw [h.2]; exact Below.refl _ _⟩
  have C5 : ∀ W, Below w.heap.size w W → Calls Tryd.prog 26 #[.int .i64 s, .int .i64 t] W fun e w' => e = .returned (.tuple #[.int .i64 (meetR s t), .int .i64 (errB s t)]) ∧ Below W.heap.size W w' := fun W h => (refMeet19_any s t W).mono fun _ _ h => ⟨h.1, by rw [h.2]; exact Below.refl _ _⟩
  have C6 : ∀ W, Below w.heap.size w W → Calls Tryd.prog 10 #[] W fun e w' => e = .returned (.bool true) ∧ Below W.heap.size W w' := fun W h => awake19_any W (hT.on h)
  have K0 := Lib.hid C0; have K1 := Lib.hid C1; have K2 := Lib.hid C2; have K3 := Lib.hid C3; have K4 := Lib.hid C4; have K5 := Lib.hid C5; have K6 := Lib.hid C6
  clear C0 C1 C2 C3 C4 C5 C6
  clear hT
  generalize leqR s t = r1 at *; generalize joinR s t = r2 at *; generalize meetR s t = r3 at *; generalize errB s t = e at *
  go_enter Tryd.func4, Tryd.ntmps4
  have HB0 : Below w.heap.size w w := Below.refl _ _
  go_wp2_with (first | (go_at_call 21; refine (K0.out _ (Below.chain HB0 (by go_grown))).mono ?_; clear K0; rintro e w1 ⟨rfl, hb1⟩; have HB1 := Below.chain (Below.chain HB0 (by go_grown)) hb1; clear hb1) | (go_at_call 22; refine (K1.out _ (Below.chain HB1 (by go_grown))).mono ?_; clear K1; rintro e w2 ⟨rfl, hb2⟩; have HB2 := Below.chain (Below.chain HB1 (by go_grown)) hb2; clear hb2) | (go_at_call 23; refine (K2.out _ (Below.chain HB2 (by go_grown))).mono ?_; clear K2; rintro e w3 ⟨rfl, hb3⟩; have HB3 := Below.chain (Below.chain HB2 (by go_grown)) hb3; clear hb3) | (go_at_call 24; refine (K3.out _ (Below.chain HB3 (by go_grown))).mono ?_; clear K3; rintro e w4 ⟨rfl, hb4⟩; have HB4 := Below.chain (Below.chain HB3 (by go_grown)) hb4; clear hb4) | (go_at_call 25; refine (K4.out _ (Below.chain HB4 (by go_grown))).mono ?_; clear K4; rintro e w5 ⟨rfl, hb5⟩; have HB5 := Below.chain (Below.chain HB4 (by go_grown)) hb5; clear hb5) | (go_at_call 26; refine (K5.out _ (Below.chain HB5 (by go_grown))).mono ?_; clear K5; rintro e w6 ⟨rfl, hb6⟩; have HB6 := Below.chain (Below.chain HB5 (by go_grown)) hb6; clear hb6) | (go_at_call 10; refine (K6.out _ (Below.chain HB6 (by go_grown))).mono ?_; clear K6; rintro e w7 ⟨rfl, hb7⟩; have HB7 := Below.chain (Below.chain HB6 (by go_grown)) hb7; clear hb7))
  refine bodyPost_ret (by first | (simp [results, Tryd.results4, go_sem]; done) | (simp [results, Tryd.results4, go_sem]; rfl)) rfl ?_
  exact ⟨rfl, HB7⟩
set_option maxHeartbeats 4000000 in
theorem lrefines_walk (o s t : Int) (w : World) (hT : SgTab w) : Calls Tryd.prog 6 #[.int .i64 o, .int .i64 s, .int .i64 t] w fun e w' => e = .returned (.bool true) ∧ Below w.heap.size w w' := by
  have C0 : ∀ W, Below w.heap.size w W → Calls Tryd.prog 33 #[.int .i64 o, .int .i64 s, .int .i64 t] W fun e w' => e = .returned (.tuple #[.int .i64 (rfA o s t), .int .i64 (rfB o s t), .int .i64 (rfE o s t)]) ∧ Below W.heap.size W w' := fun W h => sgRefine_all o s t W (hT.on h)
  have C1 : ∀ W, Below w.heap.size w W → Calls Tryd.prog 34 #[.int .i64 o, .int .i64 s, .int .i64 t] W fun e w' => e = .returned (.tuple #[.int .i64 (rfA o s t), .int .i64 (rfB o s t), .int .i64 (rfE o s t)]) ∧ Below W.heap.size W w' := fun W h => (refRefine_all o s t W).mono fun _ _ h => ⟨h.1, by rw [h.2]; exact Below.refl _ _⟩
  have C2 : ∀ W, Below w.heap.size w W → Calls Tryd.prog 10 #[] W fun e w' => e = .returned (.bool true) ∧ Below W.heap.size W w' := fun W h => awake19_any W (hT.on h)
  have K0 := Lib.hid C0; have K1 := Lib.hid C1; have K2 := Lib.hid C2
  clear C0 C1 C2
  clear hT
  generalize rfA o s t = r1 at *; generalize rfB o s t = r2 at *; generalize rfE o s t = e at *
  go_enter Tryd.func6, Tryd.ntmps6
  have HB0 : Below w.heap.size w w := Below.refl _ _
  go_wp2_with (first | (go_at_call 33; refine (K0.out _ (Below.chain HB0 (by go_grown))).mono ?_; clear K0; rintro e w1 ⟨rfl, hb1⟩; have HB1 := Below.chain (Below.chain HB0 (by go_grown)) hb1; clear hb1) | (go_at_call 34; refine (K1.out _ (Below.chain HB1 (by go_grown))).mono ?_; clear K1; rintro e w2 ⟨rfl, hb2⟩; have HB2 := Below.chain (Below.chain HB1 (by go_grown)) hb2; clear hb2) | (go_at_call 10; refine (K2.out _ (Below.chain HB2 (by go_grown))).mono ?_; clear K2; rintro e w3 ⟨rfl, hb3⟩; have HB3 := Below.chain (Below.chain HB2 (by go_grown)) hb3; clear hb3))
  refine bodyPost_ret (by first | (simp [results, Tryd.results6, go_sem]; done) | (simp [results, Tryd.results6, go_sem]; rfl)) rfl ?_
  exact ⟨rfl, HB3⟩
set_option maxRecDepth 100000 in
set_option maxHeartbeats 8000000 in
theorem lcomputes_walk (s t : Int) (w : World) (hT : SgTab w) : Calls Tryd.prog 5 #[.int .i64 s, .int .i64 t] w fun e w' => e = .returned (.bool true) ∧ Below w.heap.size w w' := by
  have A0 : ∀ W, Below w.heap.size w W → Calls Tryd.prog 27 #[.int .u8 0, .int .i64 s, .int .i64 t] W fun e w' => e = .returned (.tuple #[.int .i64 (opR 0 s t), .int .i64 (errB s t)]) ∧ Below W.heap.size W w' := fun W h => apply19_any 0 s t W (by decide) (hT.on h)
  have A1 : ∀ W, Below w.heap.size w W → Calls Tryd.prog 27 #[.int .u8 1, .int .i64 s, .int .i64 t] W fun e w' => e = .returned (.tuple #[.int .i64 (opR 1 s t), .int .i64 (errB s t)]) ∧ Below W.heap.size W w' := fun W h => apply19_any 1 s t W (by decide) (hT.on h)
  have A2 : ∀ W, Below w.heap.size w W → Calls Tryd.prog 27 #[.int .u8 2, .int .i64 s, .int .i64 t] W fun e w' => e = .returned (.tuple #[.int .i64 (opR 2 s t), .int .i64 (errB s t)]) ∧ Below W.heap.size W w' := fun W h => apply19_any 2 s t W (by decide) (hT.on h)
  have A3 : ∀ W, Below w.heap.size w W → Calls Tryd.prog 27 #[.int .u8 3, .int .i64 s, .int .i64 t] W fun e w' => e = .returned (.tuple #[.int .i64 (opR 3 s t), .int .i64 (errB s t)]) ∧ Below W.heap.size W w' := fun W h => apply19_any 3 s t W (by decide) (hT.on h)
  have A4 : ∀ W, Below w.heap.size w W → Calls Tryd.prog 27 #[.int .u8 4, .int .i64 s, .int .i64 t] W fun e w' => e = .returned (.tuple #[.int .i64 (opR 4 s t), .int .i64 (errB s t)]) ∧ Below W.heap.size W w' := fun W h => apply19_any 4 s t W (by decide) (hT.on h)
  have R0 : ∀ W, Calls Tryd.prog 28 #[.int .i64 s, .int .i64 t] W fun e w' => e = .returned (.tuple #[.int .i64 (opR 0 s t), .int .i64 (errB s t)]) ∧ w' = W := fun W => refAdd19_any s t W
  have R1 : ∀ W, Calls Tryd.prog 29 #[.int .i64 s, .int .i64 t] W fun e w' => e = .returned (.tuple #[.int .i64 (opR 1 s t), .int .i64 (errB s t)]) ∧ w' = W := fun W => refSub19_any s t W
  have R2 : ∀ W, Calls Tryd.prog 30 #[.int .i64 s, .int .i64 t] W fun e w' => e = .returned (.tuple #[.int .i64 (opR 2 s t), .int .i64 (errB s t)]) ∧ w' = W := fun W => refMul19_any s t W
  have R3 : ∀ W, Calls Tryd.prog 31 #[.int .i64 s, .int .i64 t] W fun e w' => e = .returned (.tuple #[.int .i64 (opR 3 s t), .int .i64 (errB s t)]) ∧ w' = W := fun W => refQuo19_any s t W
  have R4 : ∀ W, Calls Tryd.prog 32 #[.int .i64 s, .int .i64 t] W fun e w' => e = .returned (.tuple #[.int .i64 (opR 4 s t), .int .i64 (errB s t)]) ∧ w' = W := fun W => refRem19_any s t W
  have AW : ∀ W, Below w.heap.size w W → Calls Tryd.prog 10 #[] W fun e w' => e = .returned (.bool true) ∧ Below W.heap.size W w' := fun W h => awake19_any W (hT.on h)
  generalize opR 0 s t = r0 at *
  generalize opR 1 s t = r1 at *
  generalize opR 2 s t = r2 at *
  generalize opR 3 s t = r3 at *
  generalize opR 4 s t = r4 at *
  generalize errB s t = e0 at *
  have KA0 := Lib.hid A0; have KR0 := Lib.hid R0; have KA1 := Lib.hid A1; have KR1 := Lib.hid R1; have KA2 := Lib.hid A2; have KR2 := Lib.hid R2; have KA3 := Lib.hid A3; have KR3 := Lib.hid R3; have KA4 := Lib.hid A4; have KR4 := Lib.hid R4; have KW := Lib.hid AW
  clear hT AW A0 R0 A1 R1 A2 R2 A3 R3 A4 R4
  go_enter Tryd.func5, Tryd.ntmps5
  go_wp2
  go_loopw [10] (fun p wr => Below w.heap.size w wr ∧ ∃ k : Nat, k ≤ 5 ∧ p = .int .u8 (k : Int)) (fun p _ => (5 - intOf p).toNat)
  case atStart => exact ⟨Below.refl _ _, 0, by omega, rfl⟩
  case round =>
    obtain ⟨hB, k, hk, rfl⟩ := hrel
    by_cases hlt : k < 5
    · have HB := Lib.hid hB; clear hB
      rcases (show k = 0 ∨ k = 1 ∨ k = 2 ∨ k = 3 ∨ k = 4 by omega) with rfl | rfl | rfl | rfl | rfl
      · go_wp2_with (first | (go_at_call 27; refine (KA0.out _ HB.out).mono ?_; rintro e w1 ⟨rfl, hb⟩) | (go_at_call 28; refine (KR0.out _).mono ?_; rintro e w2 ⟨rfl, rfl⟩))
        go_roundw
        case rel => exact ⟨Below.chain HB.out hb, 1, by omega, rfl⟩
        case measure => simp [intOf]
      · go_wp2_with (first | (go_at_call 27; refine (KA1.out _ HB.out).mono ?_; rintro e w1 ⟨rfl, hb⟩) | (go_at_call 29; refine (KR1.out _).mono ?_; rintro e w2 ⟨rfl, rfl⟩))
        go_roundw
        case rel => exact ⟨Below.chain HB.out hb, 2, by omega, rfl⟩
        case measure => simp [intOf]
      · go_wp2_with (first | (go_at_call 27; refine (KA2.out _ HB.out).mono ?_; rintro e w1 ⟨rfl, hb⟩) | (go_at_call 30; refine (KR2.out _).mono ?_; rintro e w2 ⟨rfl, rfl⟩))
        go_roundw
        case rel => exact ⟨Below.chain HB.out hb, 3, by omega, rfl⟩
        case measure => simp [intOf]
      · go_wp2_with (first | (go_at_call 27; refine (KA3.out _ HB.out).mono ?_; rintro e w1 ⟨rfl, hb⟩) | (go_at_call 31; refine (KR3.out _).mono ?_; rintro e w2 ⟨rfl, rfl⟩))
        go_roundw
        case rel => exact ⟨Below.chain HB.out hb, 4, by omega, rfl⟩
        case measure => simp [intOf]
      · go_wp2_with (first | (go_at_call 27; refine (KA4.out _ HB.out).mono ?_; rintro e w1 ⟨rfl, hb⟩) | (go_at_call 32; refine (KR4.out _).mono ?_; rintro e w2 ⟨rfl, rfl⟩))
        go_roundw
        case rel => exact ⟨Below.chain HB.out hb, 5, by omega, rfl⟩
        case measure => simp [intOf]
    · have hk5 : k = 5 := by omega
      subst hk5
      go_wp2_with (go_at_call 10; refine (KW.out _ hB).mono ?_; rintro e w1 ⟨rfl, hb⟩)
      refine bodyPost_ret (by first | (simp [results, Tryd.results5, go_sem]; done) | (simp [results, Tryd.results5, go_sem]; rfl)) rfl ?_
      exact ⟨rfl, Below.chain hB hb⟩
end Go.Proofs.YtmnbjkbkjmgmkaaDoor
