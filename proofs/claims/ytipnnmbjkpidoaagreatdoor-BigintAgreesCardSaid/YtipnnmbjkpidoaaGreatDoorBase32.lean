import Derived.Test.YtipnnmbjkpidoaaGreatDoorBase26
import Derived.Test.YtipnnmbjkpidoaaGreatDoorQuoB
import Derived.Test.YtipnnmbjkpidoaaGreatDoorBase27
import Derived.Test.YtipnnmbjkpidoaaGreatDoorBase29
import Derived.Test.YtipnnmbjkpidoaaGreatDoorBase30
import Derived.Test.YtipnnmbjkpidoaaGreatDoorBase31

set_option linter.unusedVariables false
/-
  bigint: remainder's closures; quotient, remainder; Quo, Rem.
-/
namespace Go.Proofs.YtipnnmbjkpidoaaGreatDoor
open Go Go.Proofs Go.RowKit

set_option maxHeartbeats 1000000 in
theorem rem1_any (x y : Nat) (vx vy : Value) (w : World) (hx : NumAt w vx x) (hy : NumAt w vy y) (hlx : (limbs x).length ≤ 100000000000) (hly : (limbs y).length ≤ 100000000000) (hy0 : 0 < y) :
    Calls Tryz.prog 142 #[vx, vy] w fun e w' => ∃ v', e = .returned v' ∧ IntAt w' v' (((x % y : Nat) : Int)) ∧ Below w.heap.size w w' := by
  have C : ∀ W : World, Below w.heap.size w W → Calls Tryz.prog 143 #[vx, vy] W (RetN (x % y) W) := fun W hW => over_any x y vx vy W (hx.mono hW) (hy.mono hW) hlx
  have P : ∀ (W : World) (v : Value), NumAt W v (x % y) → Calls Tryz.prog 120 #[v] W fun e w' => ∃ v', e = .returned v' ∧ IntAt w' v' (((x % y : Nat) : Int)) ∧ Below W.heap.size W w' := fun W v h => plus_any _ v W h
  generalize (((x % y : Nat) : Int)) = z at *
  generalize x % y = s at *
  have HC := Lib.hid C; have HP := Lib.hid P
  obtain ⟨ao, c, rfl, -⟩ := hx
  obtain ⟨ap, d, rfl, -⟩ := hy
  clear C P hlx hly hy0
  generalize (limbs x).length = n at *
  generalize (limbs y).length = m at *
  have R0 := rbox_new w (Value.slice ao n c) (Value.slice ap m d) 79 79
  go_enter Tryz.func142, Tryz.ntmps142
  go_wp2_with (go_at_call 143; refine (HC.out _ R0.below).mono ?_; rintro e w1 ⟨v1, rfl, hv1, hb1⟩; refine Hid.out ?_)
  have R1 := R0.mono hb1
  refine Lib.hid ?_
  go_wp2_with (go_at_call 120; refine (HP.out _ _ hv1).mono ?_; rintro e w2 ⟨v2, rfl, hv2, hb2⟩; refine Hid.out ?_)
  have R2 := R1.mono hb2
  obtain ⟨a2, c2, rfl, hr2⟩ := hv2.open
  clear R0 R1 hb1 hb2 hv1 hv2
  have k1 := R2.r0; have k2 := R2.r1; have k3 := R2.f0; have k4 := R2.f1
  obtain ⟨hI, hS⟩ := IntAt.stored (w := w) (by omega : w.heap.size ≤ w.heap.size + 1 + 1) R2 hr2
  have q0 := hS.q0; have q1 := hS.q1; have hbF := hS.below
  have HI := Lib.hid hI
  clear hI hS hr2
  refine Lib.hid ?_
  go_wp2
  refine bodyPost_ret (v := .agg #[.bool (sgn z), .slice a2 (lenZ z) c2]) (by simp [results, Tryz.results142, go_sem, q0, q1]) rfl ?_
  exact ⟨_, rfl, HI.out, hbF⟩

set_option maxHeartbeats 1000000 in
theorem rem2_any (x y : Nat) (vx vy : Value) (w : World) (hx : NumAt w vx x) (hy : NumAt w vy y) (hlx : (limbs x).length ≤ 100000000000) (hly : (limbs y).length ≤ 100000000000) (hy0 : 0 < y) :
    Calls Tryz.prog 144 #[vx, vy] w fun e w' => ∃ v', e = .returned v' ∧ IntAt w' v' (-((missN x y : Nat) : Int)) ∧ Below w.heap.size w w' := by
  have C : ∀ W : World, Below w.heap.size w W → Calls Tryz.prog 145 #[vx, vy] W (RetN (missN x y) W) := fun W hW => missing_any x y vx vy W (hx.mono hW) (hy.mono hW) hlx hly hy0
  have P : ∀ (W : World) (v : Value), NumAt W v (missN x y) → Calls Tryz.prog 123 #[v] W fun e w' => ∃ v', e = .returned v' ∧ IntAt w' v' (-((missN x y : Nat) : Int)) ∧ Below W.heap.size W w' := fun W v h => minus_any _ v W h
  generalize (-((missN x y : Nat) : Int)) = z at *
  generalize missN x y = s at *
  have HC := Lib.hid C; have HP := Lib.hid P
  obtain ⟨ao, c, rfl, -⟩ := hx
  obtain ⟨ap, d, rfl, -⟩ := hy
  clear C P hlx hly hy0
  generalize (limbs x).length = n at *
  generalize (limbs y).length = m at *
  have R0 := rbox_new w (Value.slice ao n c) (Value.slice ap m d) 79 79
  go_enter Tryz.func144, Tryz.ntmps144
  go_wp2_with (go_at_call 145; refine (HC.out _ R0.below).mono ?_; rintro e w1 ⟨v1, rfl, hv1, hb1⟩; refine Hid.out ?_)
  have R1 := R0.mono hb1
  refine Lib.hid ?_
  go_wp2_with (go_at_call 123; refine (HP.out _ _ hv1).mono ?_; rintro e w2 ⟨v2, rfl, hv2, hb2⟩; refine Hid.out ?_)
  have R2 := R1.mono hb2
  obtain ⟨a2, c2, rfl, hr2⟩ := hv2.open
  clear R0 R1 hb1 hb2 hv1 hv2
  have k1 := R2.r0; have k2 := R2.r1; have k3 := R2.f0; have k4 := R2.f1
  obtain ⟨hI, hS⟩ := IntAt.stored (w := w) (by omega : w.heap.size ≤ w.heap.size + 1 + 1) R2 hr2
  have q0 := hS.q0; have q1 := hS.q1; have hbF := hS.below
  have HI := Lib.hid hI
  clear hI hS hr2
  refine Lib.hid ?_
  go_wp2
  refine bodyPost_ret (v := .agg #[.bool (sgn z), .slice a2 (lenZ z) c2]) (by simp [results, Tryz.results144, go_sem, q0, q1]) rfl ?_
  exact ⟨_, rfl, HI.out, hbF⟩

set_option maxHeartbeats 1000000 in
theorem rem3_any (x y : Nat) (vx vy : Value) (w : World) (hx : NumAt w vx x) (hy : NumAt w vy y) (hlx : (limbs x).length ≤ 100000000000) (hly : (limbs y).length ≤ 100000000000) (hy0 : 0 < y) :
    Calls Tryz.prog 146 #[vx, vy] w fun e w' => ∃ v', e = .returned v' ∧ IntAt w' v' (((missN x y : Nat) : Int)) ∧ Below w.heap.size w w' := by
  have C : ∀ W : World, Below w.heap.size w W → Calls Tryz.prog 145 #[vx, vy] W (RetN (missN x y) W) := fun W hW => missing_any x y vx vy W (hx.mono hW) (hy.mono hW) hlx hly hy0
  have P : ∀ (W : World) (v : Value), NumAt W v (missN x y) → Calls Tryz.prog 120 #[v] W fun e w' => ∃ v', e = .returned v' ∧ IntAt w' v' (((missN x y : Nat) : Int)) ∧ Below W.heap.size W w' := fun W v h => plus_any _ v W h
  generalize (((missN x y : Nat) : Int)) = z at *
  generalize missN x y = s at *
  have HC := Lib.hid C; have HP := Lib.hid P
  obtain ⟨ao, c, rfl, -⟩ := hx
  obtain ⟨ap, d, rfl, -⟩ := hy
  clear C P hlx hly hy0
  generalize (limbs x).length = n at *
  generalize (limbs y).length = m at *
  have R0 := rbox_new w (Value.slice ao n c) (Value.slice ap m d) 79 79
  go_enter Tryz.func146, Tryz.ntmps146
  go_wp2_with (go_at_call 145; refine (HC.out _ R0.below).mono ?_; rintro e w1 ⟨v1, rfl, hv1, hb1⟩; refine Hid.out ?_)
  have R1 := R0.mono hb1
  refine Lib.hid ?_
  go_wp2_with (go_at_call 120; refine (HP.out _ _ hv1).mono ?_; rintro e w2 ⟨v2, rfl, hv2, hb2⟩; refine Hid.out ?_)
  have R2 := R1.mono hb2
  obtain ⟨a2, c2, rfl, hr2⟩ := hv2.open
  clear R0 R1 hb1 hb2 hv1 hv2
  have k1 := R2.r0; have k2 := R2.r1; have k3 := R2.f0; have k4 := R2.f1
  obtain ⟨hI, hS⟩ := IntAt.stored (w := w) (by omega : w.heap.size ≤ w.heap.size + 1 + 1) R2 hr2
  have q0 := hS.q0; have q1 := hS.q1; have hbF := hS.below
  have HI := Lib.hid hI
  clear hI hS hr2
  refine Lib.hid ?_
  go_wp2
  refine bodyPost_ret (v := .agg #[.bool (sgn z), .slice a2 (lenZ z) c2]) (by simp [results, Tryz.results146, go_sem, q0, q1]) rfl ?_
  exact ⟨_, rfl, HI.out, hbF⟩

set_option maxHeartbeats 1000000 in
theorem rem4_any (x y : Nat) (vx vy : Value) (w : World) (hx : NumAt w vx x) (hy : NumAt w vy y) (hlx : (limbs x).length ≤ 100000000000) (hly : (limbs y).length ≤ 100000000000) (hy0 : 0 < y) :
    Calls Tryz.prog 147 #[vx, vy] w fun e w' => ∃ v', e = .returned v' ∧ IntAt w' v' (-((x % y : Nat) : Int)) ∧ Below w.heap.size w w' := by
  have C : ∀ W : World, Below w.heap.size w W → Calls Tryz.prog 143 #[vx, vy] W (RetN (x % y) W) := fun W hW => over_any x y vx vy W (hx.mono hW) (hy.mono hW) hlx
  have P : ∀ (W : World) (v : Value), NumAt W v (x % y) → Calls Tryz.prog 123 #[v] W fun e w' => ∃ v', e = .returned v' ∧ IntAt w' v' (-((x % y : Nat) : Int)) ∧ Below W.heap.size W w' := fun W v h => minus_any _ v W h
  generalize (-((x % y : Nat) : Int)) = z at *
  generalize x % y = s at *
  have HC := Lib.hid C; have HP := Lib.hid P
  obtain ⟨ao, c, rfl, -⟩ := hx
  obtain ⟨ap, d, rfl, -⟩ := hy
  clear C P hlx hly hy0
  generalize (limbs x).length = n at *
  generalize (limbs y).length = m at *
  have R0 := rbox_new w (Value.slice ao n c) (Value.slice ap m d) 79 79
  go_enter Tryz.func147, Tryz.ntmps147
  go_wp2_with (go_at_call 143; refine (HC.out _ R0.below).mono ?_; rintro e w1 ⟨v1, rfl, hv1, hb1⟩; refine Hid.out ?_)
  have R1 := R0.mono hb1
  refine Lib.hid ?_
  go_wp2_with (go_at_call 123; refine (HP.out _ _ hv1).mono ?_; rintro e w2 ⟨v2, rfl, hv2, hb2⟩; refine Hid.out ?_)
  have R2 := R1.mono hb2
  obtain ⟨a2, c2, rfl, hr2⟩ := hv2.open
  clear R0 R1 hb1 hb2 hv1 hv2
  have k1 := R2.r0; have k2 := R2.r1; have k3 := R2.f0; have k4 := R2.f1
  obtain ⟨hI, hS⟩ := IntAt.stored (w := w) (by omega : w.heap.size ≤ w.heap.size + 1 + 1) R2 hr2
  have q0 := hS.q0; have q1 := hS.q1; have hbF := hS.below
  have HI := Lib.hid hI
  clear hI hS hr2
  refine Lib.hid ?_
  go_wp2
  refine bodyPost_ret (v := .agg #[.bool (sgn z), .slice a2 (lenZ z) c2]) (by simp [results, Tryz.results147, go_sem, q0, q1]) rfl ?_
  exact ⟨_, rfl, HI.out, hbF⟩


theorem up_limbs (x y : Nat) (hx : (limbs x).length ≤ 1000000) (hy : (limbs y).length ≤ 1000000) (hy0 : 0 < y) : (limbs (x + (if y < 1 then 1 - y else y - 1))).length ≤ 100000000000 ∧ (limbs (if y < 1 then 1 - y else y - 1)).length ≤ 100000000000 := by
  rw [if_neg (by omega)]
  obtain ⟨k, hk⟩ : ∃ k : Nat, k = 1000000 := ⟨_, rfl⟩
  have h1 := Nat.lt_of_lt_of_le (lt_pow_limbs x) (Nat.pow_le_pow_right (by decide) (by omega : (limbs x).length ≤ k))
  have h2 := Nat.lt_of_lt_of_le (lt_pow_limbs y) (Nat.pow_le_pow_right (by decide) (by omega : (limbs y).length ≤ k))
  have e1 : x + (y - 1) < 1000000000 ^ (k + 1) := by
    rw [Nat.pow_succ]
    generalize (1000000000 : Nat) ^ k = r at *
    omega
  have e2 : y - 1 < 1000000000 ^ (k + 1) := by omega
  exact ⟨Nat.le_trans (limbs_length_le e1) (by omega), Nat.le_trans (limbs_length_le e2) (by omega)⟩

theorem quotientTab (x y : Int) (va vb : Value) (w : World) (ha : IntAt w va x) (hb : IntAt w vb y) (hlx : (limbs x.natAbs).length ≤ 1000000) (hly : (limbs y.natAbs).length ≤ 1000000) (hy0 : y ≠ 0) :
    Calls Tryz.prog 126 #[tabV 135 137 137 135, va, vb] w fun e w' => ∃ v', e = .returned v' ∧ IntAt w' v' (x.fdiv y) ∧ Below w.heap.size w w' := by
  have e1 : ∀ args w, (callFunc 135 args).run Tryz.prog w = .ok (.enter 135 args) w := enters_of Tryz.func135 (by kernel_rfl) rfl
  have e2 : ∀ args w, (callFunc 137 args).run Tryz.prog w = .ok (.enter 137 args) w := enters_of Tryz.func137 (by kernel_rfl) rfl
  obtain ⟨u1, u2⟩ := up_limbs x.natAbs y.natAbs hlx hly (by omega)
  by_cases hx : x < 0 <;> by_cases hy : y < 0
  · refine apply11 _ _ _ _ x y (x.fdiv y) va vb w ha hb hx hy e1 fun W v1 v2 h1 h2 => ?_
    rw [fdiv_same x y hy0 (propext ⟨fun _ => hy, fun _ => hx⟩)]
    exact quoSame_any x.natAbs y.natAbs v1 v2 W h1 h2 (by omega)
  · refine apply10 _ _ _ _ x y (x.fdiv y) va vb w ha hb hx hy e2 fun W v1 v2 h1 h2 => ?_
    rw [fdiv_opp x y hy0 (fun e => hy (e ▸ hx))]
    exact quoOpp_any x.natAbs y.natAbs v1 v2 W h1 h2 (by omega) (by omega) u1 u2
  · refine apply01 _ _ _ _ x y (x.fdiv y) va vb w ha hb hx hy e2 fun W v1 v2 h1 h2 => ?_
    rw [fdiv_opp x y hy0 (fun e => hx (e ▸ hy))]
    exact quoOpp_any x.natAbs y.natAbs v1 v2 W h1 h2 (by omega) (by omega) u1 u2
  · refine apply00 _ _ _ _ x y (x.fdiv y) va vb w ha hb hx hy e1 fun W v1 v2 h1 h2 => ?_
    rw [fdiv_same x y hy0 (propext ⟨fun h => absurd h hx, fun h => absurd h hy⟩)]
    exact quoSame_any x.natAbs y.natAbs v1 v2 W h1 h2 (by omega)

theorem remainderTab (x y : Int) (va vb : Value) (w : World) (ha : IntAt w va x) (hb : IntAt w vb y) (hlx : (limbs x.natAbs).length ≤ 1000000) (hly : (limbs y.natAbs).length ≤ 1000000) (hy0 : y ≠ 0) :
    Calls Tryz.prog 126 #[tabV 142 144 146 147, va, vb] w fun e w' => ∃ v', e = .returned v' ∧ IntAt w' v' (x.fmod y) ∧ Below w.heap.size w w' := by
  have e1 : ∀ args w, (callFunc 142 args).run Tryz.prog w = .ok (.enter 142 args) w := enters_of Tryz.func142 (by kernel_rfl) rfl
  have e2 : ∀ args w, (callFunc 144 args).run Tryz.prog w = .ok (.enter 144 args) w := enters_of Tryz.func144 (by kernel_rfl) rfl
  have e3 : ∀ args w, (callFunc 146 args).run Tryz.prog w = .ok (.enter 146 args) w := enters_of Tryz.func146 (by kernel_rfl) rfl
  have e4 : ∀ args w, (callFunc 147 args).run Tryz.prog w = .ok (.enter 147 args) w := enters_of Tryz.func147 (by kernel_rfl) rfl
  by_cases hx : x < 0 <;> by_cases hy : y < 0
  · refine apply11 _ _ _ _ x y (x.fmod y) va vb w ha hb hx hy e4 fun W v1 v2 h1 h2 => ?_
    rw [fmod_nn x y hx hy]
    exact rem4_any x.natAbs y.natAbs v1 v2 W h1 h2 (by omega) (by omega) (by omega)
  · refine apply10 _ _ _ _ x y (x.fmod y) va vb w ha hb hx hy e3 fun W v1 v2 h1 h2 => ?_
    rw [fmod_np x y hy0 hx hy]
    exact rem3_any x.natAbs y.natAbs v1 v2 W h1 h2 (by omega) (by omega) (by omega)
  · refine apply01 _ _ _ _ x y (x.fmod y) va vb w ha hb hx hy e2 fun W v1 v2 h1 h2 => ?_
    rw [fmod_pn x y hy0 hx hy]
    exact rem2_any x.natAbs y.natAbs v1 v2 W h1 h2 (by omega) (by omega) (by omega)
  · refine apply00 _ _ _ _ x y (x.fmod y) va vb w ha hb hx hy e1 fun W v1 v2 h1 h2 => ?_
    rw [fmod_pp x y hx hy]
    exact rem1_any x.natAbs y.natAbs v1 v2 W h1 h2 (by omega) (by omega) (by omega)

set_option maxHeartbeats 2000000 in
theorem quotientZ (x y : Int) (va vb : Value) (w : World) (ha : IntAt w va x) (hb : IntAt w vb y) (hlx : (limbs x.natAbs).length ≤ 1000000) (hly : (limbs y.natAbs).length ≤ 1000000) (hy0 : y ≠ 0) :
    Calls Tryz.prog 90 #[va, vb] w fun e w' => ∃ v', e = .returned v' ∧ IntAt w' v' (x.fdiv y) ∧ Below w.heap.size w w' := by
  have C : ∀ W : World, Below w.heap.size w W → Calls Tryz.prog 126 #[tabV 135 137 137 135, va, vb] W fun e w' => ∃ v', e = .returned v' ∧ IntAt w' v' (x.fdiv y) ∧ Below W.heap.size W w' := fun W hW => quotientTab x y va vb W (ha.mono hW) (hb.mono hW) hlx hly hy0
  have HC := Lib.hid C
  obtain ⟨ao, c, rfl, -⟩ := ha
  obtain ⟨ap, d, rfl, -⟩ := hb
  clear C hlx hly hy0
  generalize (limbs x.natAbs).length = n at *
  generalize (limbs y.natAbs).length = m at *
  generalize decide (x < 0) = ba at *
  generalize decide (y < 0) = bb at *
  generalize x.fdiv y = z at *
  have R0 := rbox3_new w ba bb ao ap n c m d
  go_enter Tryz.func90, Tryz.ntmps90
  go_wp2_with (go_at_call 126; refine (HC.out _ R0.below).mono ?_; rintro e w2 ⟨v2, rfl, hv2, hb2⟩; refine Hid.out ?_)
  have R2 := R0.mono hb2
  obtain ⟨a2, c2, rfl, hr2⟩ := hv2.open
  clear R0 hb2 hv2
  have k1 := R2.r0; have k2 := R2.r1; have k3 := R2.f0; have k4 := R2.f1
  obtain ⟨hI, hS⟩ := IntAt.stored (w := w) (by omega : w.heap.size ≤ w.heap.size + 1 + 1) R2 hr2
  have q0 := hS.q0; have q1 := hS.q1; have hbF := hS.below
  have HI := Lib.hid hI
  clear hI hS hr2
  refine Lib.hid ?_
  go_wp2
  refine bodyPost_ret (v := .agg #[.bool (sgn z), .slice a2 (lenZ z) c2]) (by simp [results, Tryz.results90, go_sem, q0, q1]) rfl ?_
  exact ⟨_, rfl, HI.out, hbF⟩

set_option maxHeartbeats 2000000 in
theorem remainderZ (x y : Int) (va vb : Value) (w : World) (ha : IntAt w va x) (hb : IntAt w vb y) (hlx : (limbs x.natAbs).length ≤ 1000000) (hly : (limbs y.natAbs).length ≤ 1000000) (hy0 : y ≠ 0) :
    Calls Tryz.prog 93 #[va, vb] w fun e w' => ∃ v', e = .returned v' ∧ IntAt w' v' (x.fmod y) ∧ Below w.heap.size w w' := by
  have C : ∀ W : World, Below w.heap.size w W → Calls Tryz.prog 126 #[tabV 142 144 146 147, va, vb] W fun e w' => ∃ v', e = .returned v' ∧ IntAt w' v' (x.fmod y) ∧ Below W.heap.size W w' := fun W hW => remainderTab x y va vb W (ha.mono hW) (hb.mono hW) hlx hly hy0
  have HC := Lib.hid C
  obtain ⟨ao, c, rfl, -⟩ := ha
  obtain ⟨ap, d, rfl, -⟩ := hb
  clear C hlx hly hy0
  generalize (limbs x.natAbs).length = n at *
  generalize (limbs y.natAbs).length = m at *
  generalize decide (x < 0) = ba at *
  generalize decide (y < 0) = bb at *
  generalize x.fmod y = z at *
  have R0 := rbox3_new w ba bb ao ap n c m d
  go_enter Tryz.func93, Tryz.ntmps93
  go_wp2_with (go_at_call 126; refine (HC.out _ R0.below).mono ?_; rintro e w2 ⟨v2, rfl, hv2, hb2⟩; refine Hid.out ?_)
  have R2 := R0.mono hb2
  obtain ⟨a2, c2, rfl, hr2⟩ := hv2.open
  clear R0 hb2 hv2
  have k1 := R2.r0; have k2 := R2.r1; have k3 := R2.f0; have k4 := R2.f1
  obtain ⟨hI, hS⟩ := IntAt.stored (w := w) (by omega : w.heap.size ≤ w.heap.size + 1 + 1) R2 hr2
  have q0 := hS.q0; have q1 := hS.q1; have hbF := hS.below
  have HI := Lib.hid hI
  clear hI hS hr2
  refine Lib.hid ?_
  go_wp2
  refine bodyPost_ret (v := .agg #[.bool (sgn z), .slice a2 (lenZ z) c2]) (by simp [results, Tryz.results93, go_sem, q0, q1]) rfl ?_
  exact ⟨_, rfl, HI.out, hbF⟩

end Go.Proofs.YtipnnmbjkpidoaaGreatDoor
