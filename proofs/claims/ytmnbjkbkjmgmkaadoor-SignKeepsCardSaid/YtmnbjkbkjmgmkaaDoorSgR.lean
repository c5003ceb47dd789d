/-
  sign: the law SignGrows.
-/
import Derived.Test.YtmnbjkbkjmgmkaaDoorSgK
set_option linter.unusedSimpArgs false
set_option linter.unusedVariables false
namespace Go.Proofs.YtmnbjkbkjmgmkaaDoor
open Go Go.Proofs Go.RowKit Go.Shelf

attribute [local go_sem] Oper.semAt_some

theorem grows8 : ∀ k : Fin 5, ∀ s t u : Fin 8, (cmb k.val s.val t.val &&& cmb k.val (s.val ||| u.val) t.val == cmb k.val s.val t.val) = true ∧ cmb k.val s.val t.val ||| cmb k.val u.val t.val = cmb k.val (s.val ||| u.val) t.val := by decide +kernel
theorem okB_lt {m n : Nat} (hm : m < 8) (hn : n < 8) : okB (m : Int) (n : Int) = true := by unfold okB; rw [okS_of hm, okS_of hn]; rfl
theorem opR_nat (k : Nat) {m n : Nat} (hm : m < 8) (hn : n < 8) : opR k (m : Int) (n : Int) = (cmb k m n : Nat) := by unfold opR; rw [if_pos (okB_lt hm hn)]; rfl
theorem joinR_nat {m n : Nat} (hm : m < 8) (hn : n < 8) : joinR (m : Int) (n : Int) = (m ||| n : Nat) := by unfold joinR; rw [if_pos (okB_lt hm hn)]; rfl
theorem leqR_nat {m n : Nat} (hm : m < 8) (hn : n < 8) : leqR (m : Int) (n : Int) = (m &&& n == m) := by unfold leqR; rw [okB_lt hm hn]; rfl
theorem errB_nat {m n : Nat} (hm : m < 8) (hn : n < 8) : errB (m : Int) (n : Int) = 0 := errB_of (okB_lt hm hn)
theorem tmod8 (a : Nat) : Int.tmod (a : Int) 8 = ((a % 8 : Nat) : Int) := by rw [Int.tmod_eq_emod_of_nonneg (by omega)]; omega
set_option maxRecDepth 100000 in
set_option maxHeartbeats 8000000 in
theorem lgrows_walk (m a b c : Nat) (w : World) (hm : m < 256) (ha : a < 256) (hb : b < 256) (hc : c < 256) (hT : SgTab w) :
    Calls Tryd.prog 7 #[.int .u8 (m : Int), .agg #[.int .u8 (a : Int), .int .u8 (b : Int), .int .u8 (c : Int)]] w fun e w' => e = .returned (.bool true) ∧ Below w.heap.size w w' := by
  have q0 := tmod8 a; have q1 := tmod8 b; have q2 := tmod8 c
  have l0 : a % 8 < 8 := Nat.mod_lt _ (by decide)
  have l1 : b % 8 < 8 := Nat.mod_lt _ (by decide)
  have l2 : c % 8 < 8 := Nat.mod_lt _ (by decide)
  generalize a % 8 = s at *
  generalize b % 8 = t at *
  generalize c % 8 = u at *
  have l3 := or_lt8 l0 l2
  have hk : m % 5 < 5 := Nat.mod_lt _ (by decide)
  obtain ⟨g1, g2⟩ := grows8 ⟨m % 5, hk⟩ ⟨s, l0⟩ ⟨t, l1⟩ ⟨u, l2⟩
  dsimp only at g1 g2
  have lA := cmb_lt (m % 5) s t; have lB := cmb_lt (m % 5) u t; have lC := cmb_lt (m % 5) (s ||| u) t
  have C0 : ∀ W, Below w.heap.size w W → Calls Tryd.prog 23 #[.int .i64 (s : Int), .int .i64 (u : Int)] W fun e w' => e = .returned (.tuple #[.int .i64 (s ||| u : Nat), .int .i64 0]) ∧ Below W.heap.size W w' := fun W _ => by
    have := sgJoin_any s u W
    rw [joinR_nat l0 l2, errB_nat l0 l2] at this
    exact this.mono fun _ _ h => ⟨h.1, by rw [h.2]; exact Below.refl _ _⟩
  have C1 : ∀ W, Below w.heap.size w W → Calls Tryd.prog 27 #[.int .u8 (m : Int), .int .i64 (s : Nat), .int .i64 (t : Int)] W fun e w' => e = .returned (.tuple #[.int .i64 (cmb (m % 5) s t : Nat), .int .i64 0]) ∧ Below W.heap.size W w' := fun W h => by
    have := apply19_any m (s : Nat) t W hm (hT.on h)
    rw [opR_nat _ l0 l1, errB_nat l0 l1] at this
    exact this
  have C2 : ∀ W, Below w.heap.size w W → Calls Tryd.prog 27 #[.int .u8 (m : Int), .int .i64 (u : Nat), .int .i64 (t : Int)] W fun e w' => e = .returned (.tuple #[.int .i64 (cmb (m % 5) u t : Nat), .int .i64 0]) ∧ Below W.heap.size W w' := fun W h => by
    have := apply19_any m (u : Nat) t W hm (hT.on h)
    rw [opR_nat _ l2 l1, errB_nat l2 l1] at this
    exact this
  have C3 : ∀ W, Below w.heap.size w W → Calls Tryd.prog 27 #[.int .u8 (m : Int), .int .i64 (s ||| u : Nat), .int .i64 (t : Int)] W fun e w' => e = .returned (.tuple #[.int .i64 (cmb (m % 5) (s ||| u) t : Nat), .int .i64 0]) ∧ Below W.heap.size W w' := fun W h => by
    have := apply19_any m (s ||| u : Nat) t W hm (hT.on h)
    rw [opR_nat _ l3 l1, errB_nat l3 l1] at this
    exact this
  have C4 : ∀ W, Below w.heap.size w W → Calls Tryd.prog 23 #[.int .i64 (cmb (m % 5) s t : Nat), .int .i64 (cmb (m % 5) u t : Nat)] W fun e w' => e = .returned (.tuple #[.int .i64 (cmb (m % 5) (s ||| u) t : Nat), .int .i64 0]) ∧ Below W.heap.size W w' := fun W _ => by
    have := sgJoin_any (cmb (m % 5) s t : Nat) (cmb (m % 5) u t : Nat) W
    rw [joinR_nat lA lB, errB_nat lA lB, g2] at this
    exact this.mono fun _ _ h => ⟨h.1, by rw [h.2]; exact Below.refl _ _⟩
  have C5 : ∀ W, Below w.heap.size w W → Calls Tryd.prog 21 #[.int .i64 (cmb (m % 5) s t : Nat), .int .i64 (cmb (m % 5) (s ||| u) t : Nat)] W fun e w' => e = .returned (.tuple #[.bool true, .int .i64 0]) ∧ Below W.heap.size W w' := fun W _ => by
    have := sgLeq_any (cmb (m % 5) s t : Nat) (cmb (m % 5) (s ||| u) t : Nat) W
    rw [leqR_nat lA lC, errB_nat lA lC, g1] at this
    exact this.mono fun _ _ h => ⟨h.1, by rw [h.2]; exact Below.refl _ _⟩
  have C6 : ∀ W, Below w.heap.size w W → Calls Tryd.prog 10 #[] W fun e w' => e = .returned (.bool true) ∧ Below W.heap.size W w' := fun W h => awake19_any W (hT.on h)
  have K0 := Lib.hid C0; have K1 := Lib.hid C1; have K2 := Lib.hid C2; have K3 := Lib.hid C3; have K4 := Lib.hid C4; have K5 := Lib.hid C5; have K6 := Lib.hid C6
  clear C0 C1 C2 C3 C4 C5 C6 hT g1 g2 lA lB lC l3
  generalize cmb (m % 5) s t = A at *; generalize cmb (m % 5) u t = B at *; generalize cmb (m % 5) (s ||| u) t = C at *; generalize s ||| u = su at *
  go_enter Tryd.func7, Tryd.ntmps7
  have z0 : (w.alloc (Obj.cells #[.int .u8 (a : Int), .int .u8 (b : Int), .int .u8 (c : Int)] 54)).cell? ⟨w.heap.size, 0, none⟩ = some (.int .u8 (a : Int)) := by go_cell
  have z1 : (w.alloc (Obj.cells #[.int .u8 (a : Int), .int .u8 (b : Int), .int .u8 (c : Int)] 54)).cell? ⟨w.heap.size, 1, none⟩ = some (.int .u8 (b : Int)) := by go_cell
  have z2 : (w.alloc (Obj.cells #[.int .u8 (a : Int), .int .u8 (b : Int), .int .u8 (c : Int)] 54)).cell? ⟨w.heap.size, 2, none⟩ = some (.int .u8 (c : Int)) := by go_cell
  go_wp2_with fail
  go_region
  have HB0 : Below w.heap.size w (w.alloc (Obj.cells #[.int .u8 (a : Int), .int .u8 (b : Int), .int .u8 (c : Int)] 54)).drew := ((Below.refl _ w).alloc (Nat.le_refl _) _).drew
  clear z0 z1 z2
  generalize (w.alloc (Obj.cells #[.int .u8 (a : Int), .int .u8 (b : Int), .int .u8 (c : Int)] 54)).drew = w0 at *
  go_wp2_with (first | (go_at_call 23; refine (K0.out _ (Below.chain HB0 (by go_grown))).mono ?_; clear K0; rintro e w1 ⟨rfl, hb1⟩; have HB1 := Below.chain (Below.chain HB0 (by go_grown)) hb1; clear hb1) | (go_at_call 27; refine (K1.out _ (Below.chain HB1 (by go_grown))).mono ?_; clear K1; rintro e w2 ⟨rfl, hb2⟩; have HB2 := Below.chain (Below.chain HB1 (by go_grown)) hb2; clear hb2) | (go_at_call 27; refine (K2.out _ (Below.chain HB2 (by go_grown))).mono ?_; clear K2; rintro e w3 ⟨rfl, hb3⟩; have HB3 := Below.chain (Below.chain HB2 (by go_grown)) hb3; clear hb3) | (go_at_call 27; refine (K3.out _ (Below.chain HB3 (by go_grown))).mono ?_; clear K3; rintro e w4 ⟨rfl, hb4⟩; have HB4 := Below.chain (Below.chain HB3 (by go_grown)) hb4; clear hb4) | (go_at_call 23; refine (K4.out _ (Below.chain HB4 (by go_grown))).mono ?_; clear K4; rintro e w5 ⟨rfl, hb5⟩; have HB5 := Below.chain (Below.chain HB4 (by go_grown)) hb5; clear hb5) | (go_at_call 21; refine (K5.out _ (Below.chain HB5 (by go_grown))).mono ?_; clear K5; rintro e w6 ⟨rfl, hb6⟩; have HB6 := Below.chain (Below.chain HB5 (by go_grown)) hb6; clear hb6) | (go_at_call 10; refine (K6.out _ (Below.chain HB6 (by go_grown))).mono ?_; clear K6; rintro e w7 ⟨rfl, hb7⟩; have HB7 := Below.chain (Below.chain HB6 (by go_grown)) hb7; clear hb7))
  refine bodyPost_ret (by first | (simp [results, Tryd.results7, go_sem]; done) | (simp [results, Tryd.results7, go_sem]; rfl)) rfl ?_
  exact ⟨rfl, HB7⟩
end Go.Proofs.YtmnbjkbkjmgmkaaDoor
