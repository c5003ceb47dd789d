import Derived.Test.YtjobmkdaaionlaaGreatDoorCut6

set_option linter.unusedVariables false
/-
  bigint: excess, and its mirror.
-/
namespace Go.Proofs.YtjobmkdaaionlaaGreatDoor
open Go Go.Proofs Go.RowKit
set_option maxHeartbeats 2000000 in
theorem excess_any (x y : Nat) (vx vy : Value) (w : World) (hx : NumAt w vx x) (hy : NumAt w vy y) (hlx : (limbs x).length ≤ 1000000000000) (hly : (limbs y).length ≤ 1000000000000) :
    Calls Tryz.prog 192 #[vx, vy] w fun e w' => ∃ v', e = .returned v' ∧ IntAt w' v' ((x : Int) - (y : Int)) ∧ Below w.heap.size w w' := by
  have C : ∀ W : World, Below w.heap.size w W → Calls Tryz.prog 178 #[vx, vy] W (RetN (if x < y then y - x else x - y) W) := fun W hW => dist_any x y vx vy W (hx.mono hW) (hy.mono hW) hlx hly
  have D : ∀ W : World, Below w.heap.size w W → Calls Tryz.prog 194 #[vx, vy] W fun e w' => e = .returned (.int .i64 (cmpN x y)) ∧ Below W.heap.size W w' := fun W hW => compare_any x y vx vy W (hx.mono hW) (hy.mono hW)
  obtain ⟨ao, c, rfl, -⟩ := hx
  obtain ⟨ap, d, rfl, -⟩ := hy
  clear hlx hly
  by_cases hlt : x < y
  · have hc : cmpN x y = -1 := by unfold cmpN; rw [if_pos hlt]
    rw [if_pos hlt] at C
    rw [hc] at D
    have P : ∀ (W : World) (v : Value), NumAt W v (y - x) → Calls Tryz.prog 180 #[v] W fun e w' => ∃ v', e = .returned v' ∧ IntAt w' v' ((x : Int) - (y : Int)) ∧ Below W.heap.size W w' := fun W v h => by
      have := minus_any _ v W h
      rwa [show (-((y - x : Nat) : Int)) = (x : Int) - (y : Int) by omega] at this
    generalize (x : Int) - (y : Int) = z at *
    generalize (y - x) = s at *
    have HC := Lib.hid C; have HP := Lib.hid P; have HD := Lib.hid D
    clear C P D hlt
    generalize (limbs x).length = n at *
    generalize (limbs y).length = m at *
    have A0 := three_new w (Value.slice ao n c) (Value.slice ap m d) (Value.bool false) 173 173 182
    have R0 := rbox_new w (Value.slice ao n c) (Value.slice ap m d) 173 173
    have j1 : (((w.alloc (Obj.cells #[Value.slice ao n c] 173)).alloc (Obj.cells #[Value.slice ap m d] 173)).alloc (Obj.cells #[Value.bool false, Value.slice none 0 0] 182)).cell? ⟨w.heap.size, 0, none⟩ = some (Value.slice ao n c) := by go_cell
    have j2 : (((w.alloc (Obj.cells #[Value.slice ao n c] 173)).alloc (Obj.cells #[Value.slice ap m d] 173)).alloc (Obj.cells #[Value.bool false, Value.slice none 0 0] 182)).cell? ⟨w.heap.size + 1, 0, none⟩ = some (Value.slice ap m d) := by go_cell
    have J1 := Lib.hid j1; have J2 := Lib.hid j2
    clear A0 j1 j2
    go_enter Tryz.func192, Tryz.ntmps192
    go_wp2_with (go_at_call 194; refine (HD.out _ R0.below).mono ?_; rintro e w1 ⟨rfl, hb1⟩; refine Hid.out ?_)
    have R1 := R0.mono hb1
    have l1 := (hb1.cell (p := ⟨w.heap.size, 0, none⟩) (by simp <;> omega)).trans J1.out
    have l2 := (hb1.cell (p := ⟨w.heap.size + 1, 0, none⟩) (by simp <;> omega)).trans J2.out
    clear R0 J1 J2 hb1
    refine Lib.hid ?_
    go_wp2_with (go_at_call 178; refine (HC.out _ R1.below).mono ?_; rintro e w3 ⟨v3, rfl, hv3, hb3⟩; refine Hid.out ?_)
    have R3 := R1.mono hb3
    clear l1 l2 R1 hb3
    refine Lib.hid ?_
    go_wp2_with (go_at_call 180; refine (HP.out _ _ hv3).mono ?_; rintro e w2 ⟨v2, rfl, hv2, hb2⟩; refine Hid.out ?_)
    have R2 := R3.mono hb2
    obtain ⟨a2, c2, rfl, hr2⟩ := hv2.open
    clear R3 hb2 hv3 hv2
    have k1 := R2.r0; have k2 := R2.r1; have k3 := R2.f0; have k4 := R2.f1
    obtain ⟨hI, hS⟩ := IntAt.stored (w := w) (by omega : w.heap.size ≤ w.heap.size + 1 + 1) R2 hr2
    have q0 := hS.q0; have q1 := hS.q1; have hbF := hS.below
    have HI := Lib.hid hI
    clear hI hS hr2
    refine Lib.hid ?_
    go_wp2
    refine bodyPost_ret (v := .agg #[.bool (sgn z), .slice a2 (lenZ z) c2]) (by simp [results, Tryz.results192, go_sem, q0, q1]) rfl ?_
    exact ⟨_, rfl, HI.out, hbF⟩
  · have hc : ∃ r : Int, cmpN x y = r ∧ decide (r < 0) = false := ⟨_, rfl, by unfold cmpN; rw [if_neg hlt]; split <;> rfl⟩
    obtain ⟨r, hr, hr0⟩ := hc
    rw [if_neg hlt] at C
    rw [hr] at D
    clear hr
    have P : ∀ (W : World) (v : Value), NumAt W v (x - y) → Calls Tryz.prog 173 #[v] W fun e w' => ∃ v', e = .returned v' ∧ IntAt w' v' ((x : Int) - (y : Int)) ∧ Below W.heap.size W w' := fun W v h => by
      have := plus_any _ v W h
      rwa [show ((x - y : Nat) : Int) = (x : Int) - (y : Int) by omega] at this
    generalize (x : Int) - (y : Int) = z at *
    generalize (x - y) = s at *
    have HC := Lib.hid C; have HP := Lib.hid P; have HD := Lib.hid D
    clear C P D hlt
    generalize (limbs x).length = n at *
    generalize (limbs y).length = m at *
    have A0 := three_new w (Value.slice ao n c) (Value.slice ap m d) (Value.bool false) 173 173 182
    have R0 := rbox_new w (Value.slice ao n c) (Value.slice ap m d) 173 173
    have j1 : (((w.alloc (Obj.cells #[Value.slice ao n c] 173)).alloc (Obj.cells #[Value.slice ap m d] 173)).alloc (Obj.cells #[Value.bool false, Value.slice none 0 0] 182)).cell? ⟨w.heap.size, 0, none⟩ = some (Value.slice ao n c) := by go_cell
    have j2 : (((w.alloc (Obj.cells #[Value.slice ao n c] 173)).alloc (Obj.cells #[Value.slice ap m d] 173)).alloc (Obj.cells #[Value.bool false, Value.slice none 0 0] 182)).cell? ⟨w.heap.size + 1, 0, none⟩ = some (Value.slice ap m d) := by go_cell
    have J1 := Lib.hid j1; have J2 := Lib.hid j2
    clear A0 j1 j2
    go_enter Tryz.func192, Tryz.ntmps192
    go_wp2_with (go_at_call 194; refine (HD.out _ R0.below).mono ?_; rintro e w1 ⟨rfl, hb1⟩; refine Hid.out ?_)
    have R1 := R0.mono hb1
    have l1 := (hb1.cell (p := ⟨w.heap.size, 0, none⟩) (by simp <;> omega)).trans J1.out
    have l2 := (hb1.cell (p := ⟨w.heap.size + 1, 0, none⟩) (by simp <;> omega)).trans J2.out
    clear R0 J1 J2 hb1
    refine Lib.hid ?_
    go_wp2_with (go_at_call 178; refine (HC.out _ R1.below).mono ?_; rintro e w3 ⟨v3, rfl, hv3, hb3⟩; refine Hid.out ?_)
    have R3 := R1.mono hb3
    clear l1 l2 R1 hb3
    refine Lib.hid ?_
    go_wp2_with (go_at_call 173; refine (HP.out _ _ hv3).mono ?_; rintro e w2 ⟨v2, rfl, hv2, hb2⟩; refine Hid.out ?_)
    have R2 := R3.mono hb2
    obtain ⟨a2, c2, rfl, hr2⟩ := hv2.open
    clear R3 hb2 hv3 hv2
    have k1 := R2.r0; have k2 := R2.r1; have k3 := R2.f0; have k4 := R2.f1
    obtain ⟨hI, hS⟩ := IntAt.stored (w := w) (by omega : w.heap.size ≤ w.heap.size + 1 + 1) R2 hr2
    have q0 := hS.q0; have q1 := hS.q1; have hbF := hS.below
    have HI := Lib.hid hI
    clear hI hS hr2
    refine Lib.hid ?_
    go_wp2
    refine bodyPost_ret (v := .agg #[.bool (sgn z), .slice a2 (lenZ z) c2]) (by simp [results, Tryz.results192, go_sem, q0, q1]) rfl ?_
    exact ⟨_, rfl, HI.out, hbF⟩
set_option maxHeartbeats 1000000 in
theorem reversed_any (x y : Nat) (vx vy : Value) (w : World) (hx : NumAt w vx x) (hy : NumAt w vy y) (hlx : (limbs x).length ≤ 1000000000000) (hly : (limbs y).length ≤ 1000000000000) :
    Calls Tryz.prog 191 #[vx, vy] w fun e w' => ∃ v', e = .returned v' ∧ IntAt w' v' ((y : Int) - (x : Int)) ∧ Below w.heap.size w w' := by
  have C : ∀ W : World, Below w.heap.size w W → Calls Tryz.prog 192 #[vy, vx] W fun e w' => ∃ v', e = .returned v' ∧ IntAt w' v' ((y : Int) - (x : Int)) ∧ Below W.heap.size W w' := fun W hW => excess_any y x vy vx W (hy.mono hW) (hx.mono hW) hly hlx
  generalize (y : Int) - (x : Int) = z at *
  have HC := Lib.hid C
  obtain ⟨ao, c, rfl, -⟩ := hx
  obtain ⟨ap, d, rfl, -⟩ := hy
  clear C hlx hly
  generalize (limbs x).length = n at *
  generalize (limbs y).length = m at *
  have R0 := rbox_new w (Value.slice ao n c) (Value.slice ap m d) 173 173
  go_enter Tryz.func191, Tryz.ntmps191
  go_wp2_with (go_at_call 192; refine (HC.out _ R0.below).mono ?_; rintro e w2 ⟨v2, rfl, hv2, hb2⟩; refine Hid.out ?_)
  have R2 := R0.mono hb2
  obtain ⟨a2, c2, rfl, hr2⟩ := hv2.open
  clear R0 hb2 hv2
  have k1 := R2.r0; have k2 := R2.r1; have k3 := R2.f0; have k4 := R2.f1
  obtain ⟨hI, hS⟩ := IntAt.stored (w := w) (by omega : w.heap.size ≤ w.heap.size + 1 + 1) R2 hr2
  have q0 := hS.q0; have q1 := hS.q1; have hbF := hS.below
  have HI := Lib.hid hI
  clear hI hS hr2
  refine Lib.hid ?_
  go_wp2
  refine bodyPost_ret (v := .agg #[.bool (sgn z), .slice a2 (lenZ z) c2]) (by simp [results, Tryz.results191, go_sem, q0, q1]) rfl ?_
  exact ⟨_, rfl, HI.out, hbF⟩
end Go.Proofs.YtjobmkdaaionlaaGreatDoor
