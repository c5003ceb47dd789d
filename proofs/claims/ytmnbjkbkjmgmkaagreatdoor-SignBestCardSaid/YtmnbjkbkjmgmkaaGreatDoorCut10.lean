import Derived.Test.YtmnbjkbkjmgmkaaGreatDoorCut7
import Derived.Test.YtmnbjkbkjmgmkaaGreatDoorOwnDiv

set_option linter.unusedVariables false
/-
  bigint: quotient's closures.
-/
set_option linter.unusedSimpArgs false
set_option linter.unusedVariables false
namespace Go.Proofs.YtmnbjkbkjmgmkaaGreatDoor
open Go Go.Proofs Go.RowKit
set_option maxHeartbeats 1000000 in
theorem quoSame_any (x y : Nat) (vx vy : Value) (w : World) (hx : NumAt w vx x) (hy : NumAt w vy y) (hlx : (limbs x).length ≤ 100000000000) :
    Calls Tryz.prog 71 #[vx, vy] w fun e w' => ∃ v', e = .returned v' ∧ IntAt w' v' ((x / y : Nat) : Int) ∧ Below w.heap.size w w' := by
  have C : ∀ W : World, Below w.heap.size w W → Calls Tryz.prog 72 #[vx, vy] W (Divided x y W) := fun W hW => div_any x y vx vy W (hx.mono hW) (hy.mono hW) hlx
  have P : ∀ (W : World) (v : Value), NumAt W v (x / y) → Calls Tryz.prog 59 #[v] W fun e w' => ∃ v', e = .returned v' ∧ IntAt w' v' ((x / y : Nat) : Int) ∧ Below W.heap.size W w' := fun W v h => plus_any _ v W h
  generalize ((x / y : Nat) : Int) = z at *
  have HC := Lib.hid C; have HP := Lib.hid P
  obtain ⟨ao, c, rfl, -⟩ := hx
  obtain ⟨ap, d, rfl, -⟩ := hy
  clear C P hlx
  generalize (limbs x).length = n at *
  generalize (limbs y).length = m at *
  have R0 := rbox_new w (Value.slice ao n c) (Value.slice ap m d) 71 71
  go_enter Tryz.func71, Tryz.ntmps71
  go_wp2_with (go_at_call 72; refine (HC.out _ R0.below).mono ?_; rintro e w1 ⟨v1, v2, rfl, hv1, hv2, hb1⟩; refine Hid.out ?_)
  have R1 := R0.mono hb1
  have P1 : ∀ W : World, Below w1.heap.size w1 W → Calls Tryz.prog 59 #[v1] W fun e w' => ∃ v', e = .returned v' ∧ IntAt w' v' z ∧ Below W.heap.size W w' := fun W hW => HP.out W v1 (hv1.mono hW)
  obtain ⟨a1, c1, rfl, -⟩ := hv1
  obtain ⟨a2, c2, rfl, -⟩ := hv2
  generalize (limbs (x / y)).length = l1 at *
  generalize (limbs (x % y)).length = l2 at *
  have KP := Lib.hid P1
  clear P1 HP HC hb1 R0
  refine Lib.hid ?_
  go_wp2_with (go_at_call 59; refine (KP.out _ (by go_grown)).mono ?_; rintro e w2 ⟨v2, rfl, hv2, hb2⟩; refine Hid.out ?_)
  have hbW : Below w1.heap.size w1 w2 := by refine Below.chain ?_ hb2; go_grown
  have R2 := R1.mono hbW
  obtain ⟨a2, c2, rfl, hr2⟩ := hv2.open
  clear R1 hb2 hbW hv2
  have k1 := R2.r0; have k2 := R2.r1; have k3 := R2.f0; have k4 := R2.f1
  obtain ⟨hI, hS⟩ := IntAt.stored (w := w) (by omega : w.heap.size ≤ w.heap.size + 1 + 1) R2 hr2
  have q0 := hS.q0; have q1 := hS.q1; have hbF := hS.below
  have HI := Lib.hid hI
  clear hI hS hr2
  refine Lib.hid ?_
  go_wp2
  refine bodyPost_ret (v := .agg #[.bool (sgn z), .slice a2 (lenZ z) c2]) (by simp [results, Tryz.results71, go_sem, q0, q1]) rfl ?_
  exact ⟨_, rfl, HI.out, hbF⟩
end Go.Proofs.YtmnbjkbkjmgmkaaGreatDoor
