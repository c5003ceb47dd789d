import Derived.Deep.RegionHeld3
import Derived.Test.YtmnbjkbkjmgmkaaGreatDoorCut6

set_option linter.unusedVariables false
/-
  bigint: signTable.apply.
-/
set_option linter.unusedSimpArgs false
set_option linter.unusedVariables false
namespace Go.Proofs.YtmnbjkbkjmgmkaaGreatDoor
open Go Go.Proofs Go.RowKit
theorem signIndex_any (b : Bool) (ao : Option Addr) (n c : Nat) (w : World) :
    Calls Tryz.prog 92 #[.agg #[.bool b, .slice ao n c]] w fun e w' => e = .returned (.int .i64 (if b = true then 1 else 0)) ∧ Below w.heap.size w w' := by
  cases b
  all_goals
    go_enter Tryz.func92, Tryz.ntmps92
    go_wp2
    refine bodyPost_ret (by simp [results, Tryz.results92, go_sem]) rfl ⟨rfl, by go_grown⟩
def tabV (n00 n01 n10 n11 : Nat) : Value := .agg #[.func (.func n00) #[] #[], .func (.func n01) #[] #[], .func (.func n10) #[] #[], .func (.func n11) #[] #[]]
structure ABox (w W : World) (f : Value) (k : Nat) (ba : Bool) (ao : Option Addr) (n c : Nat) (bb : Bool) (ap : Option Addr) (m d : Nat) : Prop where
  lt : w.heap.size + 1 + 1 + 1 < W.heap.size
  t : W.cell? ⟨w.heap.size, k, none⟩ = some f
  a0 : W.cell? ⟨w.heap.size + 1, 0, none⟩ = some (.bool ba)
  a1 : W.cell? ⟨w.heap.size + 1, 1, none⟩ = some (.slice ao n c)
  b0 : W.cell? ⟨w.heap.size + 1 + 1, 0, none⟩ = some (.bool bb)
  b1 : W.cell? ⟨w.heap.size + 1 + 1, 1, none⟩ = some (.slice ap m d)
  box : RBox w W (w.heap.size + 1 + 1 + 1)
theorem ABox.mono {w W W' : World} {f : Value} {k : Nat} {ba bb : Bool} {ao ap : Option Addr} {n c m d : Nat} (h : ABox w W f k ba ao n c bb ap m d) (g : Below W.heap.size W W') : ABox w W' f k ba ao n c bb ap m d := by
  have hl := h.lt
  exact ⟨Nat.lt_of_lt_of_le hl g.size, (g.cell (p := ⟨w.heap.size, k, none⟩) (by simp; omega)).trans h.t, (g.cell (p := ⟨w.heap.size + 1, 0, none⟩) (by simp; omega)).trans h.a0, (g.cell (p := ⟨w.heap.size + 1, 1, none⟩) (by simp; omega)).trans h.a1,
    (g.cell (p := ⟨w.heap.size + 1 + 1, 0, none⟩) (by simp; omega)).trans h.b0, (g.cell (p := ⟨w.heap.size + 1 + 1, 1, none⟩) (by simp; omega)).trans h.b1, h.box.mono g⟩
theorem ABox.keep {w W : World} {f : Value} {k : Nat} {ba bb : Bool} {ao ap : Option Addr} {n c m d : Nat} (h : ABox w W f k ba ao n c bb ap m d) : W.cell? ⟨w.heap.size, k, none⟩ = some f ∧ W.cell? ⟨w.heap.size + 1, 0, none⟩ = some (.bool ba) ∧ W.cell? ⟨w.heap.size + 1, 1, none⟩ = some (.slice ao n c) ∧ W.cell? ⟨w.heap.size + 1 + 1, 0, none⟩ = some (.bool bb) ∧ W.cell? ⟨w.heap.size + 1 + 1, 1, none⟩ = some (.slice ap m d) :=
  ⟨h.t, h.a0, h.a1, h.b0, h.b1⟩
theorem ABox.keepS {w W : World} {f : Value} {k : Nat} {ba bb : Bool} {ao ap : Option Addr} {n c m d : Nat} (h : ABox w W f k ba ao n c bb ap m d) (u0 u1 : Value) :
    ((W.setCell ⟨w.heap.size + 1 + 1 + 1, 0, none⟩ u0).setCell ⟨w.heap.size + 1 + 1 + 1, 1, none⟩ u1).cell? ⟨w.heap.size, k, none⟩ = some f ∧ ((W.setCell ⟨w.heap.size + 1 + 1 + 1, 0, none⟩ u0).setCell ⟨w.heap.size + 1 + 1 + 1, 1, none⟩ u1).cell? ⟨w.heap.size + 1, 0, none⟩ = some (.bool ba) ∧ ((W.setCell ⟨w.heap.size + 1 + 1 + 1, 0, none⟩ u0).setCell ⟨w.heap.size + 1 + 1 + 1, 1, none⟩ u1).cell? ⟨w.heap.size + 1, 1, none⟩ = some (.slice ao n c) ∧ ((W.setCell ⟨w.heap.size + 1 + 1 + 1, 0, none⟩ u0).setCell ⟨w.heap.size + 1 + 1 + 1, 1, none⟩ u1).cell? ⟨w.heap.size + 1 + 1, 0, none⟩ = some (.bool bb) ∧ ((W.setCell ⟨w.heap.size + 1 + 1 + 1, 0, none⟩ u0).setCell ⟨w.heap.size + 1 + 1 + 1, 1, none⟩ u1).cell? ⟨w.heap.size + 1 + 1, 1, none⟩ = some (.slice ap m d) := by
  refine ⟨?_, ?_, ?_, ?_, ?_⟩ <;> rw [World.cell?_setCell_other (h := by simp), World.cell?_setCell_other (h := by simp)]
  · exact h.t
  · exact h.a0
  · exact h.a1
  · exact h.b0
  · exact h.b1
set_option maxHeartbeats 4000000 in
theorem apply00 (n00 n01 n10 n11 : Nat) (x y z : Int) (va vb : Value) (w : World) (ha : IntAt w va x) (hb : IntAt w vb y) (hx : ¬ x < 0) (hy : ¬ y < 0)
    (es : ∀ args w, (callFunc n00 args).run Tryz.prog w = .ok (.enter n00 args) w)
    (H : ∀ (W : World) (v1 v2 : Value), NumAt W v1 x.natAbs → NumAt W v2 y.natAbs → Calls Tryz.prog n00 #[v1, v2] W fun e w' => ∃ v', e = .returned v' ∧ IntAt w' v' z ∧ Below W.heap.size W w') :
    Calls Tryz.prog 65 #[tabV n00 n01 n10 n11, va, vb] w fun e w' => ∃ v', e = .returned v' ∧ IntAt w' v' z ∧ Below w.heap.size w w' := by
  obtain ⟨ao, c, rfl, hra⟩ := ha
  obtain ⟨ap, d, rfl, hrb⟩ := hb
  rw [decide_eq_false hx, decide_eq_false hy]
  have HH : ∀ W : World, Below w.heap.size w W → Calls Tryz.prog n00 #[.agg #[.slice ao (limbs x.natAbs).length c], .agg #[.slice ap (limbs y.natAbs).length d]] W fun e w' => ∃ v', e = .returned v' ∧ IntAt w' v' z ∧ Below W.heap.size W w' :=
    fun W hW => H W _ _ ⟨ao, c, rfl, hra.mono hW⟩ ⟨ap, d, rfl, hrb.mono hW⟩
  have SA : ∀ W : World, Calls Tryz.prog 92 #[.agg #[.bool false, .slice ao (limbs x.natAbs).length c]] W fun e w' => e = .returned (.int .i64 0) ∧ Below W.heap.size W w' := fun W => signIndex_any false _ _ _ W
  have SB : ∀ W : World, Calls Tryz.prog 92 #[.agg #[.bool false, .slice ap (limbs y.natAbs).length d]] W fun e w' => e = .returned (.int .i64 0) ∧ Below W.heap.size W w' := fun W => signIndex_any false _ _ _ W
  have KA := Lib.hid SA; have KB := Lib.hid SB; clear SA SB
  have KH := Lib.hid HH; have ES := Lib.hid es; skip
  clear HH H hra hrb hx hy
  generalize (limbs x.natAbs).length = n at *
  generalize (limbs y.natAbs).length = m at *
  unfold tabV
  go_enter Tryz.func65, Tryz.ntmps65
  go_wp2_with fail
  have AB : ABox w ((((w.alloc (Obj.cells #[.func (.func n00) #[] #[], .func (.func n01) #[] #[], .func (.func n10) #[] #[], .func (.func n11) #[] #[]] 81)).alloc (Obj.cells #[.bool false, .slice ao n c] 73)).alloc (Obj.cells #[.bool false, .slice ap m d] 73)).alloc (Obj.cells #[.bool false, .slice none 0 0] 73)) (.func (.func n00) #[] #[]) 0 false ao n c false ap m d :=
    ⟨by simp, by go_cell, by go_cell, by go_cell, by go_cell, by go_cell, ⟨by simp, by go_cell, by go_cell, by go_cell, by go_cell, by go_grown⟩⟩
  generalize ((((w.alloc (Obj.cells #[.func (.func n00) #[] #[], .func (.func n01) #[] #[], .func (.func n10) #[] #[], .func (.func n11) #[] #[]] 81)).alloc (Obj.cells #[.bool false, .slice ao n c] 73)).alloc (Obj.cells #[.bool false, .slice ap m d] 73)).alloc (Obj.cells #[.bool false, .slice none 0 0] 73)) = W at *
  have AD := AB.mono ((Below.refl _ _).drew)
  have t0 := AD.t; have t1 := AD.a0; have t2 := AD.a1; have t3 := AD.b0; have t4 := AD.b1
  go_region_held3 (fun w' => w'.cell? ⟨w.heap.size, 0, none⟩ = some (.func (.func n00) #[] #[]) ∧ w'.cell? ⟨w.heap.size + 1, 0, none⟩ = some (.bool false) ∧ w'.cell? ⟨w.heap.size + 1, 1, none⟩ = some (.slice ao n c) ∧ w'.cell? ⟨w.heap.size + 1 + 1, 0, none⟩ = some (.bool false) ∧ w'.cell? ⟨w.heap.size + 1 + 1, 1, none⟩ = some (.slice ap m d)) (first | exact A3.keepS _ _ | exact A3.keep | exact A2.keep | exact A1.keep | exact AD.keep | go_keep) (first
    | (go_at_call_of 92 ao; refine (KA.out _).mono ?_; rintro e w1 ⟨rfl, hb1⟩; have A1 := AD.mono hb1)
    | (go_at_call_of 92 ap; refine (KB.out _).mono ?_; rintro e w2 ⟨rfl, hb2⟩; have A2 := A1.mono hb2)
    | (go_at_fn n00; refine (KH.out _ A2.box.below).mono ?_; rintro e w3 ⟨v3, rfl, hv3, hb3⟩; obtain ⟨a2, c2, rfl, hr2⟩ := hv3.open; have A3 := A2.mono hb3; have k1 := A3.box.r0; have k2 := A3.box.r1; have k3 := A3.box.f0; have k4 := A3.box.f1))
  all_goals
    obtain ⟨hI, hS⟩ := IntAt.stored (w := w) (by omega : w.heap.size ≤ w.heap.size + 1 + 1 + 1) A3.box hr2
    have q0 := hS.q0; have q1 := hS.q1; have hbF := hS.below
    have HI := Lib.hid hI
    clear hI hS hr2
    go_wp2
    refine bodyPost_ret (v := .agg #[.bool (sgn z), .slice a2 (lenZ z) c2]) (by simp [results, Tryz.results65, go_sem, q0, q1]) rfl ?_
    exact ⟨_, rfl, HI.out, hbF⟩
set_option maxHeartbeats 4000000 in
theorem apply01 (n00 n01 n10 n11 : Nat) (x y z : Int) (va vb : Value) (w : World) (ha : IntAt w va x) (hb : IntAt w vb y) (hx : ¬ x < 0) (hy : y < 0)
    (es : ∀ args w, (callFunc n01 args).run Tryz.prog w = .ok (.enter n01 args) w)
    (H : ∀ (W : World) (v1 v2 : Value), NumAt W v1 x.natAbs → NumAt W v2 y.natAbs → Calls Tryz.prog n01 #[v1, v2] W fun e w' => ∃ v', e = .returned v' ∧ IntAt w' v' z ∧ Below W.heap.size W w') :
    Calls Tryz.prog 65 #[tabV n00 n01 n10 n11, va, vb] w fun e w' => ∃ v', e = .returned v' ∧ IntAt w' v' z ∧ Below w.heap.size w w' := by
  obtain ⟨ao, c, rfl, hra⟩ := ha
  obtain ⟨ap, d, rfl, hrb⟩ := hb
  rw [decide_eq_false hx, decide_eq_true hy]
  have HH : ∀ W : World, Below w.heap.size w W → Calls Tryz.prog n01 #[.agg #[.slice ao (limbs x.natAbs).length c], .agg #[.slice ap (limbs y.natAbs).length d]] W fun e w' => ∃ v', e = .returned v' ∧ IntAt w' v' z ∧ Below W.heap.size W w' :=
    fun W hW => H W _ _ ⟨ao, c, rfl, hra.mono hW⟩ ⟨ap, d, rfl, hrb.mono hW⟩
  have SA : ∀ W : World, Calls Tryz.prog 92 #[.agg #[.bool false, .slice ao (limbs x.natAbs).length c]] W fun e w' => e = .returned (.int .i64 0) ∧ Below W.heap.size W w' := fun W => signIndex_any false _ _ _ W
  have SB : ∀ W : World, Calls Tryz.prog 92 #[.agg #[.bool true, .slice ap (limbs y.natAbs).length d]] W fun e w' => e = .returned (.int .i64 1) ∧ Below W.heap.size W w' := fun W => signIndex_any true _ _ _ W
  have KA := Lib.hid SA; have KB := Lib.hid SB; clear SA SB
  have KH := Lib.hid HH; have ES := Lib.hid es; skip
  clear HH H hra hrb hx hy
  generalize (limbs x.natAbs).length = n at *
  generalize (limbs y.natAbs).length = m at *
  unfold tabV
  go_enter Tryz.func65, Tryz.ntmps65
  go_wp2_with fail
  have AB : ABox w ((((w.alloc (Obj.cells #[.func (.func n00) #[] #[], .func (.func n01) #[] #[], .func (.func n10) #[] #[], .func (.func n11) #[] #[]] 81)).alloc (Obj.cells #[.bool false, .slice ao n c] 73)).alloc (Obj.cells #[.bool true, .slice ap m d] 73)).alloc (Obj.cells #[.bool false, .slice none 0 0] 73)) (.func (.func n01) #[] #[]) 1 false ao n c true ap m d :=
    ⟨by simp, by go_cell, by go_cell, by go_cell, by go_cell, by go_cell, ⟨by simp, by go_cell, by go_cell, by go_cell, by go_cell, by go_grown⟩⟩
  generalize ((((w.alloc (Obj.cells #[.func (.func n00) #[] #[], .func (.func n01) #[] #[], .func (.func n10) #[] #[], .func (.func n11) #[] #[]] 81)).alloc (Obj.cells #[.bool false, .slice ao n c] 73)).alloc (Obj.cells #[.bool true, .slice ap m d] 73)).alloc (Obj.cells #[.bool false, .slice none 0 0] 73)) = W at *
  have AD := AB.mono ((Below.refl _ _).drew)
  have t0 := AD.t; have t1 := AD.a0; have t2 := AD.a1; have t3 := AD.b0; have t4 := AD.b1
  go_region_held3 (fun w' => w'.cell? ⟨w.heap.size, 1, none⟩ = some (.func (.func n01) #[] #[]) ∧ w'.cell? ⟨w.heap.size + 1, 0, none⟩ = some (.bool false) ∧ w'.cell? ⟨w.heap.size + 1, 1, none⟩ = some (.slice ao n c) ∧ w'.cell? ⟨w.heap.size + 1 + 1, 0, none⟩ = some (.bool true) ∧ w'.cell? ⟨w.heap.size + 1 + 1, 1, none⟩ = some (.slice ap m d)) (first | exact A3.keepS _ _ | exact A3.keep | exact A2.keep | exact A1.keep | exact AD.keep | go_keep) (first
    | (go_at_call_of 92 ao; refine (KA.out _).mono ?_; rintro e w1 ⟨rfl, hb1⟩; have A1 := AD.mono hb1)
    | (go_at_call_of 92 ap; refine (KB.out _).mono ?_; rintro e w2 ⟨rfl, hb2⟩; have A2 := A1.mono hb2)
    | (go_at_fn n01; refine (KH.out _ A2.box.below).mono ?_; rintro e w3 ⟨v3, rfl, hv3, hb3⟩; obtain ⟨a2, c2, rfl, hr2⟩ := hv3.open; have A3 := A2.mono hb3; have k1 := A3.box.r0; have k2 := A3.box.r1; have k3 := A3.box.f0; have k4 := A3.box.f1))
  all_goals
    obtain ⟨hI, hS⟩ := IntAt.stored (w := w) (by omega : w.heap.size ≤ w.heap.size + 1 + 1 + 1) A3.box hr2
    have q0 := hS.q0; have q1 := hS.q1; have hbF := hS.below
    have HI := Lib.hid hI
    clear hI hS hr2
    go_wp2
    refine bodyPost_ret (v := .agg #[.bool (sgn z), .slice a2 (lenZ z) c2]) (by simp [results, Tryz.results65, go_sem, q0, q1]) rfl ?_
    exact ⟨_, rfl, HI.out, hbF⟩
set_option maxHeartbeats 4000000 in
theorem apply10 (n00 n01 n10 n11 : Nat) (x y z : Int) (va vb : Value) (w : World) (ha : IntAt w va x) (hb : IntAt w vb y) (hx : x < 0) (hy : ¬ y < 0)
    (es : ∀ args w, (callFunc n10 args).run Tryz.prog w = .ok (.enter n10 args) w)
    (H : ∀ (W : World) (v1 v2 : Value), NumAt W v1 x.natAbs → NumAt W v2 y.natAbs → Calls Tryz.prog n10 #[v1, v2] W fun e w' => ∃ v', e = .returned v' ∧ IntAt w' v' z ∧ Below W.heap.size W w') :
    Calls Tryz.prog 65 #[tabV n00 n01 n10 n11, va, vb] w fun e w' => ∃ v', e = .returned v' ∧ IntAt w' v' z ∧ Below w.heap.size w w' := by
  obtain ⟨ao, c, rfl, hra⟩ := ha
  obtain ⟨ap, d, rfl, hrb⟩ := hb
  rw [decide_eq_true hx, decide_eq_false hy]
  have HH : ∀ W : World, Below w.heap.size w W → Calls Tryz.prog n10 #[.agg #[.slice ao (limbs x.natAbs).length c], .agg #[.slice ap (limbs y.natAbs).length d]] W fun e w' => ∃ v', e = .returned v' ∧ IntAt w' v' z ∧ Below W.heap.size W w' :=
    fun W hW => H W _ _ ⟨ao, c, rfl, hra.mono hW⟩ ⟨ap, d, rfl, hrb.mono hW⟩
  have SA : ∀ W : World, Calls Tryz.prog 92 #[.agg #[.bool true, .slice ao (limbs x.natAbs).length c]] W fun e w' => e = .returned (.int .i64 1) ∧ Below W.heap.size W w' := fun W => signIndex_any true _ _ _ W
  have SB : ∀ W : World, Calls Tryz.prog 92 #[.agg #[.bool false, .slice ap (limbs y.natAbs).length d]] W fun e w' => e = .returned (.int .i64 0) ∧ Below W.heap.size W w' := fun W => signIndex_any false _ _ _ W
  have KA := Lib.hid SA; have KB := Lib.hid SB; clear SA SB
  have KH := Lib.hid HH; have ES := Lib.hid es; skip
  clear HH H hra hrb hx hy
  generalize (limbs x.natAbs).length = n at *
  generalize (limbs y.natAbs).length = m at *
  unfold tabV
  go_enter Tryz.func65, Tryz.ntmps65
  go_wp2_with fail
  have AB : ABox w ((((w.alloc (Obj.cells #[.func (.func n00) #[] #[], .func (.func n01) #[] #[], .func (.func n10) #[] #[], .func (.func n11) #[] #[]] 81)).alloc (Obj.cells #[.bool true, .slice ao n c] 73)).alloc (Obj.cells #[.bool false, .slice ap m d] 73)).alloc (Obj.cells #[.bool false, .slice none 0 0] 73)) (.func (.func n10) #[] #[]) 2 true ao n c false ap m d :=
    ⟨by simp, by go_cell, by go_cell, by go_cell, by go_cell, by go_cell, ⟨by simp, by go_cell, by go_cell, by go_cell, by go_cell, by go_grown⟩⟩
  generalize ((((w.alloc (Obj.cells #[.func (.func n00) #[] #[], .func (.func n01) #[] #[], .func (.func n10) #[] #[], .func (.func n11) #[] #[]] 81)).alloc (Obj.cells #[.bool true, .slice ao n c] 73)).alloc (Obj.cells #[.bool false, .slice ap m d] 73)).alloc (Obj.cells #[.bool false, .slice none 0 0] 73)) = W at *
  have AD := AB.mono ((Below.refl _ _).drew)
  have t0 := AD.t; have t1 := AD.a0; have t2 := AD.a1; have t3 := AD.b0; have t4 := AD.b1
  go_region_held3 (fun w' => w'.cell? ⟨w.heap.size, 2, none⟩ = some (.func (.func n10) #[] #[]) ∧ w'.cell? ⟨w.heap.size + 1, 0, none⟩ = some (.bool true) ∧ w'.cell? ⟨w.heap.size + 1, 1, none⟩ = some (.slice ao n c) ∧ w'.cell? ⟨w.heap.size + 1 + 1, 0, none⟩ = some (.bool false) ∧ w'.cell? ⟨w.heap.size + 1 + 1, 1, none⟩ = some (.slice ap m d)) (first | exact A3.keepS _ _ | exact A3.keep | exact A2.keep | exact A1.keep | exact AD.keep | go_keep) (first
    | (go_at_call_of 92 ao; refine (KA.out _).mono ?_; rintro e w1 ⟨rfl, hb1⟩; have A1 := AD.mono hb1)
    | (go_at_call_of 92 ap; refine (KB.out _).mono ?_; rintro e w2 ⟨rfl, hb2⟩; have A2 := A1.mono hb2)
    | (go_at_fn n10; refine (KH.out _ A2.box.below).mono ?_; rintro e w3 ⟨v3, rfl, hv3, hb3⟩; obtain ⟨a2, c2, rfl, hr2⟩ := hv3.open; have A3 := A2.mono hb3; have k1 := A3.box.r0; have k2 := A3.box.r1; have k3 := A3.box.f0; have k4 := A3.box.f1))
  all_goals
    obtain ⟨hI, hS⟩ := IntAt.stored (w := w) (by omega : w.heap.size ≤ w.heap.size + 1 + 1 + 1) A3.box hr2
    have q0 := hS.q0; have q1 := hS.q1; have hbF := hS.below
    have HI := Lib.hid hI
    clear hI hS hr2
    go_wp2
    refine bodyPost_ret (v := .agg #[.bool (sgn z), .slice a2 (lenZ z) c2]) (by simp [results, Tryz.results65, go_sem, q0, q1]) rfl ?_
    exact ⟨_, rfl, HI.out, hbF⟩
set_option maxHeartbeats 4000000 in
theorem apply11 (n00 n01 n10 n11 : Nat) (x y z : Int) (va vb : Value) (w : World) (ha : IntAt w va x) (hb : IntAt w vb y) (hx : x < 0) (hy : y < 0)
    (es : ∀ args w, (callFunc n11 args).run Tryz.prog w = .ok (.enter n11 args) w)
    (H : ∀ (W : World) (v1 v2 : Value), NumAt W v1 x.natAbs → NumAt W v2 y.natAbs → Calls Tryz.prog n11 #[v1, v2] W fun e w' => ∃ v', e = .returned v' ∧ IntAt w' v' z ∧ Below W.heap.size W w') :
    Calls Tryz.prog 65 #[tabV n00 n01 n10 n11, va, vb] w fun e w' => ∃ v', e = .returned v' ∧ IntAt w' v' z ∧ Below w.heap.size w w' := by
  obtain ⟨ao, c, rfl, hra⟩ := ha
  obtain ⟨ap, d, rfl, hrb⟩ := hb
  rw [decide_eq_true hx, decide_eq_true hy]
  have HH : ∀ W : World, Below w.heap.size w W → Calls Tryz.prog n11 #[.agg #[.slice ao (limbs x.natAbs).length c], .agg #[.slice ap (limbs y.natAbs).length d]] W fun e w' => ∃ v', e = .returned v' ∧ IntAt w' v' z ∧ Below W.heap.size W w' :=
    fun W hW => H W _ _ ⟨ao, c, rfl, hra.mono hW⟩ ⟨ap, d, rfl, hrb.mono hW⟩
  have SA : ∀ W : World, Calls Tryz.prog 92 #[.agg #[.bool true, .slice ao (limbs x.natAbs).length c]] W fun e w' => e = .returned (.int .i64 1) ∧ Below W.heap.size W w' := fun W => signIndex_any true _ _ _ W
  have SB : ∀ W : World, Calls Tryz.prog 92 #[.agg #[.bool true, .slice ap (limbs y.natAbs).length d]] W fun e w' => e = .returned (.int .i64 1) ∧ Below W.heap.size W w' := fun W => signIndex_any true _ _ _ W
  have KA := Lib.hid SA; have KB := Lib.hid SB; clear SA SB
  have KH := Lib.hid HH; have ES := Lib.hid es; skip
  clear HH H hra hrb hx hy
  generalize (limbs x.natAbs).length = n at *
  generalize (limbs y.natAbs).length = m at *
  unfold tabV
  go_enter Tryz.func65, Tryz.ntmps65
  go_wp2_with fail
  have AB : ABox w ((((w.alloc (Obj.cells #[.func (.func n00) #[] #[], .func (.func n01) #[] #[], .func (.func n10) #[] #[], .func (.func n11) #[] #[]] 81)).alloc (Obj.cells #[.bool true, .slice ao n c] 73)).alloc (Obj.cells #[.bool true, .slice ap m d] 73)).alloc (Obj.cells #[.bool false, .slice none 0 0] 73)) (.func (.func n11) #[] #[]) 3 true ao n c true ap m d :=
    ⟨by simp, by go_cell, by go_cell, by go_cell, by go_cell, by go_cell, ⟨by simp, by go_cell, by go_cell, by go_cell, by go_cell, by go_grown⟩⟩
  generalize ((((w.alloc (Obj.cells #[.func (.func n00) #[] #[], .func (.func n01) #[] #[], .func (.func n10) #[] #[], .func (.func n11) #[] #[]] 81)).alloc (Obj.cells #[.bool true, .slice ao n c] 73)).alloc (Obj.cells #[.bool true, .slice ap m d] 73)).alloc (Obj.cells #[.bool false, .slice none 0 0] 73)) = W at *
  have AD := AB.mono ((Below.refl _ _).drew)
  have t0 := AD.t; have t1 := AD.a0; have t2 := AD.a1; have t3 := AD.b0; have t4 := AD.b1
  go_region_held3 (fun w' => w'.cell? ⟨w.heap.size, 3, none⟩ = some (.func (.func n11) #[] #[]) ∧ w'.cell? ⟨w.heap.size + 1, 0, none⟩ = some (.bool true) ∧ w'.cell? ⟨w.heap.size + 1, 1, none⟩ = some (.slice ao n c) ∧ w'.cell? ⟨w.heap.size + 1 + 1, 0, none⟩ = some (.bool true) ∧ w'.cell? ⟨w.heap.size + 1 + 1, 1, none⟩ = some (.slice ap m d)) (first | exact A3.keepS _ _ | exact A3.keep | exact A2.keep | exact A1.keep | exact AD.keep | go_keep) (first
    | (go_at_call_of 92 ao; refine (KA.out _).mono ?_; rintro e w1 ⟨rfl, hb1⟩; have A1 := AD.mono hb1)
    | (go_at_call_of 92 ap; refine (KB.out _).mono ?_; rintro e w2 ⟨rfl, hb2⟩; have A2 := A1.mono hb2)
    | (go_at_fn n11; refine (KH.out _ A2.box.below).mono ?_; rintro e w3 ⟨v3, rfl, hv3, hb3⟩; obtain ⟨a2, c2, rfl, hr2⟩ := hv3.open; have A3 := A2.mono hb3; have k1 := A3.box.r0; have k2 := A3.box.r1; have k3 := A3.box.f0; have k4 := A3.box.f1))
  all_goals
    obtain ⟨hI, hS⟩ := IntAt.stored (w := w) (by omega : w.heap.size ≤ w.heap.size + 1 + 1 + 1) A3.box hr2
    have q0 := hS.q0; have q1 := hS.q1; have hbF := hS.below
    have HI := Lib.hid hI
    clear hI hS hr2
    go_wp2
    refine bodyPost_ret (v := .agg #[.bool (sgn z), .slice a2 (lenZ z) c2]) (by simp [results, Tryz.results65, go_sem, q0, q1]) rfl ?_
    exact ⟨_, rfl, HI.out, hbF⟩
end Go.Proofs.YtmnbjkbkjmgmkaaGreatDoor
