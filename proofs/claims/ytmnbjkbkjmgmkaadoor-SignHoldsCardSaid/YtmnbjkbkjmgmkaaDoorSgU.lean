/-
  sign: the law SignHolds.
-/
import Derived.Test.YtmnbjkbkjmgmkaaDoorSgT
import Derived.Test.YtmnbjkbkjmgmkaaDoorSgK
set_option linter.unusedSimpArgs false
set_option linter.unusedVariables false
namespace Go.Proofs.YtmnbjkbkjmgmkaaDoor
open Go Go.Proofs Go.RowKit Go.Shelf

attribute [local go_sem] Oper.semAt_some

set_option maxHeartbeats 8000000 in
theorem lholds_walk19 (s : Int) (a : ByteArray) (w : World) (ha : a.size ≤ 9223372036854775807) (hT : SgTab w) : Calls Tryd.prog 3 #[.int .i64 s, .string a] w fun e w' => e = .returned (.bool true) ∧ Below w.heap.size w w' := by
  have F := fun W => refFew_any a W ha
  cases hf : decide (a.size ≤ 250) with
  | false =>
    rw [hf] at F
    have C1 : ∀ W, Below w.heap.size w W → Calls Tryd.prog 10 #[] W fun e w' => e = .returned (.bool true) ∧ Below W.heap.size W w' := fun W h => awake19_any W (hT.on h)
    have K0 := Lib.hid F; have K1 := Lib.hid C1; clear F C1 hT
    go_enter Tryd.func3, Tryd.ntmps3
    go_wp2_with (first | (go_at_call 9; refine (K0.out _).mono ?_; rintro e w1 ⟨rfl, rfl⟩) | (go_at_call 10; refine (K1.out _ (Below.refl _ _)).mono ?_; rintro e w2 ⟨rfl, hb⟩))
    refine bodyPost_ret (by first | (simp [results, Tryd.results3, go_sem]; done) | (simp [results, Tryd.results3, go_sem]; rfl)) rfl ?_
    exact ⟨rfl, hb⟩
  | true =>
    rw [hf] at F
    have C0 : ∀ W, Below w.heap.size w W → Calls Tryd.prog 9 #[.string a] W fun e w' => e = .returned (.bool true) ∧ Below W.heap.size W w' := fun W h => (F W).mono fun _ _ h => ⟨h.1, by rw [h.2]; exact Below.refl _ _⟩
    have C1 : ∀ W, Below w.heap.size w W → Calls Tryd.prog 11 #[.string a] W fun e w' => e = .returned (.tuple #[.int .i64 (ofR a), .int .i64 (errOf (bytes a) : Nat)]) ∧ Below W.heap.size W w' := fun W h => (sgOf_any a W ha).mono fun _ _ h => ⟨h.1, by rw [h.2]; exact Below.refl _ _⟩
    have C2 : ∀ W, Below w.heap.size w W → Calls Tryd.prog 12 #[.string a] W fun e w' => e = .returned (.tuple #[.int .i64 (ofR a), .int .i64 (errOf (bytes a) : Nat)]) ∧ Below W.heap.size W w' := fun W h => (refOf19_any a W ha).mono fun _ _ h => ⟨h.1, by rw [h.2]; exact Below.refl _ _⟩
    have C3 : ∀ W, Below w.heap.size w W → Calls Tryd.prog 13 #[.int .i64 s, .string a] W fun e w' => e = .returned (.tuple #[.bool (hdR s a), .int .i64 (hdE s a)]) ∧ Below W.heap.size W w' := fun W h => (sgHolds_any s a W ha).mono fun _ _ h => ⟨h.1, by rw [h.2]; exact Below.refl _ _⟩
    have C4 : ∀ W, Below w.heap.size w W → Calls Tryd.prog 14 #[.int .i64 s, .string a] W fun e w' => e = .returned (.tuple #[.bool (hdR s a), .int .i64 (hdE s a)]) ∧ Below W.heap.size W w' := fun W h => (refHolds19_any s a W ha).mono fun _ _ h => ⟨h.1, by rw [h.2]; exact Below.refl _ _⟩
    have C5 : ∀ W, Below w.heap.size w W → Calls Tryd.prog 15 #[.int .i64 s] W fun e w' => e = .returned (.tuple #[.int .i64 (negR s), .int .i64 (errS s)]) ∧ Below W.heap.size W w' := fun W h => sgNeg_any s W (hT.on h)
    have C6 : ∀ W, Below w.heap.size w W → Calls Tryd.prog 16 #[.int .i64 s] W fun e w' => e = .returned (.tuple #[.int .i64 (negR s), .int .i64 (errS s)]) ∧ Below W.heap.size W w' := fun W h => (refNeg19_any s W).mono fun _ _ h => ⟨h.1, by rw [h.2]; exact Below.refl _ _⟩
    have C7 : ∀ W, Below w.heap.size w W → Calls Tryd.prog 17 #[.int .i64 s] W fun e w' => e = .returned (.tuple #[.string (nameR s), .int .i64 (errS s)]) ∧ Below W.heap.size W w' := fun W h => sgFormat_any s W (hT.on h)
    have C8 : ∀ W, Below w.heap.size w W → Calls Tryd.prog 18 #[.int .i64 s] W fun e w' => e = .returned (.tuple #[.string (nameR s), .int .i64 (errS s)]) ∧ Below W.heap.size W w' := fun W h => refFormat19_any s W
    have C9 : ∀ W, Below w.heap.size w W → Calls Tryd.prog 10 #[] W fun e w' => e = .returned (.bool true) ∧ Below W.heap.size W w' := fun W h => awake19_any W (hT.on h)
    have C10 : ∀ W, Below w.heap.size w W → Calls Tryd.prog 19 #[.int .i64 s] W fun e w' => e = .returned (.int .i64 (errS s)) ∧ Below W.heap.size W w' := fun W h => (sgCheck_any s W).mono fun _ _ h => ⟨h.1, by rw [h.2]; exact Below.refl _ _⟩
    have C11 : ∀ W, Below w.heap.size w W → Calls Tryd.prog 20 #[.int .i64 s] W fun e w' => e = .returned (.int .i64 (errS s)) ∧ Below W.heap.size W w' := fun W h => (refCheck19_any s W).mono fun _ _ h => ⟨h.1, by rw [h.2]; exact Below.refl _ _⟩
    have K0 := Lib.hid C0; have K1 := Lib.hid C1; have K2 := Lib.hid C2; have K3 := Lib.hid C3; have K4 := Lib.hid C4; have K5 := Lib.hid C5; have K6 := Lib.hid C6; have K7 := Lib.hid C7; have K8 := Lib.hid C8; have K9 := Lib.hid C9; have K10 := Lib.hid C10; have K11 := Lib.hid C11
    clear C0 C1 C2 C3 C4 C5 C6 C7 C8 C9 C10 C11
    clear hT F
    generalize ofR a = r1 at *; generalize hdR s a = r2 at *; generalize hdE s a = r3 at *; generalize negR s = r4 at *; generalize nameR s = r5 at *; generalize errS s = r6 at *; generalize errOf (bytes a) = r7 at *
    go_enter Tryd.func3, Tryd.ntmps3
    have HB0 : Below w.heap.size w w := Below.refl _ _
    go_wp2_with (first | (go_at_call 9; refine (K0.out _ (Below.chain HB0 (by go_grown))).mono ?_; clear K0; rintro e w1 ⟨rfl, hb1⟩; have HB1 := Below.chain (Below.chain HB0 (by go_grown)) hb1; clear hb1) | (go_at_call 11; refine (K1.out _ (Below.chain HB1 (by go_grown))).mono ?_; clear K1; rintro e w2 ⟨rfl, hb2⟩; have HB2 := Below.chain (Below.chain HB1 (by go_grown)) hb2; clear hb2) | (go_at_call 12; refine (K2.out _ (Below.chain HB2 (by go_grown))).mono ?_; clear K2; rintro e w3 ⟨rfl, hb3⟩; have HB3 := Below.chain (Below.chain HB2 (by go_grown)) hb3; clear hb3) | (go_at_call 13; refine (K3.out _ (Below.chain HB3 (by go_grown))).mono ?_; clear K3; rintro e w4 ⟨rfl, hb4⟩; have HB4 := Below.chain (Below.chain HB3 (by go_grown)) hb4; clear hb4) | (go_at_call 14; refine (K4.out _ (Below.chain HB4 (by go_grown))).mono ?_; clear K4; rintro e w5 ⟨rfl, hb5⟩; have HB5 := Below.chain (Below.chain HB4 (by go_grown)) hb5; clear hb5) | (go_at_call 15; refine (K5.out _ (Below.chain HB5 (by go_grown))).mono ?_; clear K5; rintro e w6 ⟨rfl, hb6⟩; have HB6 := Below.chain (Below.chain HB5 (by go_grown)) hb6; clear hb6) | (go_at_call 16; refine (K6.out _ (Below.chain HB6 (by go_grown))).mono ?_; clear K6; rintro e w7 ⟨rfl, hb7⟩; have HB7 := Below.chain (Below.chain HB6 (by go_grown)) hb7; clear hb7) | (go_at_call 17; refine (K7.out _ (Below.chain HB7 (by go_grown))).mono ?_; clear K7; rintro e w8 ⟨rfl, hb8⟩; have HB8 := Below.chain (Below.chain HB7 (by go_grown)) hb8; clear hb8) | (go_at_call 18; refine (K8.out _ (Below.chain HB8 (by go_grown))).mono ?_; clear K8; rintro e w9 ⟨rfl, hb9⟩; have HB9 := Below.chain (Below.chain HB8 (by go_grown)) hb9; clear hb9) | (go_at_call 10; refine (K9.out _ (Below.chain HB9 (by go_grown))).mono ?_; clear K9; rintro e w10 ⟨rfl, hb10⟩; have HB10 := Below.chain (Below.chain HB9 (by go_grown)) hb10; clear hb10) | (go_at_call 19; refine (K10.out _ (Below.chain HB10 (by go_grown))).mono ?_; clear K10; rintro e w11 ⟨rfl, hb11⟩; have HB11 := Below.chain (Below.chain HB10 (by go_grown)) hb11; clear hb11) | (go_at_call 20; refine (K11.out _ (Below.chain HB11 (by go_grown))).mono ?_; clear K11; rintro e w12 ⟨rfl, hb12⟩; have HB12 := Below.chain (Below.chain HB11 (by go_grown)) hb12; clear hb12))
    refine bodyPost_ret (by first | (simp [results, Tryd.results3, go_sem]; done) | (simp [results, Tryd.results3, go_sem]; rfl)) rfl ?_
    exact ⟨rfl, HB12⟩
end Go.Proofs.YtmnbjkbkjmgmkaaDoor
