import Derived.Deep.CutRange
import Derived.Test.YtipnnmbjkpidoaaGreatDoorBase33
import Derived.Test.YtipnnmbjkpidoaaGreatDoorBase4
import Derived.Test.YtipnnmbjkpidoaaGreatDoorBase27

set_option linter.unusedVariables false
/-
  bigint: signOf; boxes with integers.
-/
namespace Go.Proofs.YtipnnmbjkpidoaaGreatDoor
open Go Go.Proofs Go.RowKit

/-- A box with an integer. -/
structure CV (W : World) (p : Nat) (z : Int) (ao : Option Addr) (c : Nat) : Prop where
  lt : p < W.heap.size
  c0 : W.cell? ⟨p, 0, none⟩ = some (.bool (sgn z))
  c1 : W.cell? ⟨p, 1, none⟩ = some (.slice ao (lenZ z) c)
  f0 : W.frozen? ⟨p, 0, none⟩ = false
  f1 : W.frozen? ⟨p, 1, none⟩ = false
  row : RowAt W ao c (limbs z.natAbs)
theorem CV.mono {W W' : World} {p : Nat} {z : Int} {ao : Option Addr} {c : Nat} (h : CV W p z ao c) (k : Below W.heap.size W W') : CV W' p z ao c :=
  ⟨Nat.lt_of_lt_of_le h.lt k.size, (k.cell (p := ⟨p, 0, none⟩) h.lt).trans h.c0, (k.cell (p := ⟨p, 1, none⟩) h.lt).trans h.c1, (k.frozen (p := ⟨p, 0, none⟩) h.lt).trans h.f0, (k.frozen (p := ⟨p, 1, none⟩) h.lt).trans h.f1, h.row.mono k⟩
theorem CV.int {W : World} {p : Nat} {z : Int} {ao : Option Addr} {c : Nat} (h : CV W p z ao c) : IntAt W (.agg #[.bool (sgn z), .slice ao (lenZ z) c]) z := ⟨ao, c, rfl, h.row⟩
theorem CV.rowput {W : World} {p : Nat} {z : Int} {ao : Option Addr} {c : Nat} (h : CV W p z ao c) {l : List Nat} {a2 : Option Addr} {c2 : Nat} (hr : RowAt W a2 c2 l) (u0 u1 : Value) : RowAt ((W.setCell ⟨p, 0, none⟩ u0).setCell ⟨p, 1, none⟩ u1) a2 c2 l := by
  refine RowAt.boxV (RowAt.boxV hr (fun k => ?_) _) (fun k => ?_) _
  · rw [h.c0]; simp
  · rw [World.cell?_setCell_other (h := by simp), h.c1]; simp
theorem CV.put {W : World} {p : Nat} {z : Int} {ao : Option Addr} {c : Nat} (h : CV W p z ao c) {z2 : Int} {a2 : Option Addr} {c2 : Nat} (hr : RowAt W a2 c2 (limbs z2.natAbs)) : CV ((W.setCell ⟨p, 0, none⟩ (.bool (sgn z2))).setCell ⟨p, 1, none⟩ (.slice a2 (lenZ z2) c2)) p z2 a2 c2 where
  lt := by simpa [World.setCell] using h.lt
  c0 := by rw [World.cell?_setCell_other (h := by simp)]; exact cellSet h.c0 _
  c1 := cellSet (u := .slice ao (lenZ z) c) (by rw [World.cell?_setCell_other (h := by simp)]; exact h.c1) _
  f0 := ((World.frozen?_setCell _ _ _ _).trans (World.frozen?_setCell _ _ _ _)).trans h.f0
  f1 := ((World.frozen?_setCell _ _ _ _).trans (World.frozen?_setCell _ _ _ _)).trans h.f1
  row := h.rowput hr _ _
theorem CV.other {W : World} {p q : Nat} {z z2 : Int} {ao a2 : Option Addr} {c c2 : Nat} (h : CV W q z ao c) (k : CV W p z2 a2 c2) (hne : p ≠ q) (u0 u1 : Value) : CV ((W.setCell ⟨p, 0, none⟩ u0).setCell ⟨p, 1, none⟩ u1) q z ao c where
  lt := by simpa [World.setCell] using h.lt
  c0 := by rw [World.cell?_setCell_other (h := by simp), World.cell?_setCell_other (h := fun e => hne (congrArg Addr.block e))]; exact h.c0
  c1 := by rw [World.cell?_setCell_other (h := fun e => hne (congrArg Addr.block e)), World.cell?_setCell_other (h := by simp)]; exact h.c1
  f0 := ((World.frozen?_setCell _ _ _ _).trans (World.frozen?_setCell _ _ _ _)).trans h.f0
  f1 := ((World.frozen?_setCell _ _ _ _).trans (World.frozen?_setCell _ _ _ _)).trans h.f1
  row := k.rowput h.row _ _
theorem CV.fresh {W : World} {z : Int} {ao : Option Addr} {c : Nat} {p : Nat} (hp : p = W.heap.size) (hr : RowAt W ao c (limbs z.natAbs)) : CV (W.alloc (Obj.cells #[.bool (sgn z), .slice ao (lenZ z) c] 81)) p z ao c := by
  subst hp
  exact ⟨by simp, by go_cell, by go_cell, by go_cell, by go_cell, hr.mono ((Below.refl _ _).alloc (Nat.le_refl _) _)⟩
theorem CV.zero {W : World} {p : Nat} (h : p < W.heap.size) (c0 : W.cell? ⟨p, 0, none⟩ = some (.bool false)) (c1 : W.cell? ⟨p, 1, none⟩ = some (.slice none 0 0)) (f0 : W.frozen? ⟨p, 0, none⟩ = false) (f1 : W.frozen? ⟨p, 1, none⟩ = false) : CV W p 0 none 0 where
  lt := h
  c0 := c0
  c1 := by rw [c1]; simp [lenZ, limbs_zero]
  f0 := f0
  f1 := f1
  row := by
    rw [show ((0 : Int).natAbs) = 0 from rfl, limbs_zero]
    obtain ⟨ao, c, e, hr⟩ := numAt_zero W
    rw [limbs_zero] at e hr
    simp only [List.length_nil] at e
    have : ao = none ∧ c = 0 := by injection e with e; simpa using e.symm
    obtain ⟨rfl, rfl⟩ := this
    exact hr

/-- The boxes of signOf. -/
structure SBox (w W : World) (b : Bool) (ao : Option Addr) (n c : Nat) : Prop where
  a0 : W.cell? ⟨w.heap.size, 0, none⟩ = some (.bool b)
  a1 : W.cell? ⟨w.heap.size, 1, none⟩ = some (.slice ao n c)
  box : RBox w W (w.heap.size + 1)
theorem SBox.mono {w W W' : World} {b : Bool} {ao : Option Addr} {n c : Nat} (h : SBox w W b ao n c) (g : Below W.heap.size W W') : SBox w W' b ao n c := by
  have hl := h.box.lt
  exact ⟨(g.cell (p := ⟨w.heap.size, 0, none⟩) (by simp; omega)).trans h.a0, (g.cell (p := ⟨w.heap.size, 1, none⟩) (by simp; omega)).trans h.a1, h.box.mono g⟩
theorem SBox.keepS {w W : World} {b : Bool} {ao : Option Addr} {n c : Nat} (h : SBox w W b ao n c) (u0 u1 : Value) : ((W.setCell ⟨w.heap.size + 1, 0, none⟩ u0).setCell ⟨w.heap.size + 1, 1, none⟩ u1).cell? ⟨w.heap.size, 0, none⟩ = some (.bool b) := by
  rw [World.cell?_setCell_other (h := by simp), World.cell?_setCell_other (h := by simp)]; exact h.a0

set_option maxHeartbeats 2000000 in
theorem signOf_any (x : Int) (va : Value) (w : World) (ha : IntAt w va x) :
    Calls Tryz.prog 151 #[va] w fun e w' => ∃ v', e = .returned v' ∧ IntAt w' v' (Int.sign x) ∧ Below w.heap.size w w' := by
  obtain ⟨ao, c, rfl, hra⟩ := ha
  have Z : ∀ W : World, Below w.heap.size w W → Calls Tryz.prog 150 #[.agg #[.slice ao (limbs x.natAbs).length c]] W fun e w' => e = .returned (.bool (decide (x.natAbs = 0))) ∧ Below W.heap.size W w' := fun W hW => isZero_any x.natAbs _ W ⟨ao, c, rfl, hra.mono hW⟩
  have O : ∀ W : World, Calls Tryz.prog 139 #[.int .u64 1] W (RetN 1 W) := fun W => of_any 1 (by decide) W
  by_cases h0 : x = 0
  · have hr0 : ∀ W : World, Below w.heap.size w W → RowAt W ao c (limbs (Int.sign x).natAbs) := fun W hW => by
      have := hra.mono hW
      subst h0; exact this
    have e1 : sgn (Int.sign x) = decide (x < 0) := by subst h0; rfl
    have e2 : lenZ (Int.sign x) = (limbs x.natAbs).length := by subst h0; rfl
    rw [show decide (x.natAbs = 0) = true by simp [h0]] at Z
    have KZ := Lib.hid Z; have KR := Lib.hid hr0; have E1 := Lib.hid e1; have E2 := Lib.hid e2
    clear Z O hr0 e1 e2 hra h0
    generalize (limbs x.natAbs).length = n at *
    generalize decide (x < 0) = b at *
    generalize Int.sign x = z at *
    have R0 : SBox w ((w.alloc (Obj.cells #[.bool b, .slice ao n c] 81)).alloc (Obj.cells #[Value.bool false, Value.slice none 0 0] 81)) b ao n c := ⟨by go_cell, by go_cell, rbox2_new w b ao n c⟩
    go_enter Tryz.func151, Tryz.ntmps151
    go_wp2_with (go_at_call 150; refine (KZ.out _ R0.box.below).mono ?_; rintro e w2 ⟨rfl, hb2⟩; refine Hid.out ?_)
    have R2 := R0.mono hb2
    have hr2 := KR.out _ R2.box.below
    clear R0 hb2
    have k1 := R2.box.r0; have k2 := R2.box.r1; have k3 := R2.box.f0; have k4 := R2.box.f1; have k5 := R2.a0; have k6 := R2.a1
    obtain ⟨hI, hS⟩ := IntAt.stored (w := w) (by omega : w.heap.size ≤ w.heap.size + 1) R2.box hr2
    rw [E1.out, E2.out] at hI hS
    have q0 := hS.q0; have q1 := hS.q1; have hbF := hS.below
    have HI := Lib.hid hI
    clear hI hS hr2
    refine Lib.hid ?_
    go_wp2
    refine bodyPost_ret (v := .agg #[.bool b, .slice ao n c]) (by simp [results, Tryz.results151, go_sem, q0, q1]) rfl ?_
    exact ⟨_, rfl, HI.out, hbF⟩
  · have e0 : (Int.sign x).natAbs = 1 := by
      rcases Int.lt_or_gt_of_ne h0 with h | h
      · rw [Int.sign_eq_neg_one_of_neg h]; rfl
      · rw [Int.sign_eq_one_of_pos h]; rfl
    have e1 : sgn (Int.sign x) = decide (x < 0) := by
      unfold sgn
      rcases Int.lt_or_gt_of_ne h0 with h | h
      · rw [Int.sign_eq_neg_one_of_neg h, decide_eq_true h]; rfl
      · rw [Int.sign_eq_one_of_pos h, decide_eq_false (show ¬ x < 0 by omega)]; rfl
    have e2 : lenZ (Int.sign x) = (limbs 1).length := by unfold lenZ; rw [e0]
    rw [show decide (x.natAbs = 0) = false by simp [h0]] at Z
    have KZ := Lib.hid Z; have KO := Lib.hid O; have E0 := Lib.hid e0; have E1 := Lib.hid e1; have E2 := Lib.hid e2
    clear Z O e0 e1 e2 hra h0
    generalize (limbs x.natAbs).length = n at *
    generalize decide (x < 0) = b at *
    generalize Int.sign x = z at *
    have R0 : SBox w ((w.alloc (Obj.cells #[.bool b, .slice ao n c] 81)).alloc (Obj.cells #[Value.bool false, Value.slice none 0 0] 81)) b ao n c := ⟨by go_cell, by go_cell, rbox2_new w b ao n c⟩
    go_enter Tryz.func151, Tryz.ntmps151
    go_wp2_with (go_at_call 150; refine (KZ.out _ R0.box.below).mono ?_; rintro e w2 ⟨rfl, hb2⟩; refine Hid.out ?_)
    have R2 := R0.mono hb2
    clear R0 hb2
    have A2 := R2.mono ((Below.refl _ _).drew)
    have k5 := A2.a0
    refine Lib.hid ?_
    go_wp2_with fail
    go_region_held3 (fun w' => w'.cell? ⟨w.heap.size, 0, none⟩ = some (.bool b)) (first | exact A3.keepS _ _ | exact A3.a0 | exact A2.a0) (first
      | (go_at_call 139; refine (KO.out _).mono ?_; rintro e w3 ⟨v3, rfl, hv3, hb3⟩; have A3 := A2.mono hb3; obtain ⟨a3, c3, rfl, hr3⟩ := hv3; have k1 := A3.box.r0; have k2 := A3.box.r1; have k3 := A3.box.f0; have k4 := A3.box.f1))
    all_goals
      obtain ⟨hI, hS⟩ := IntAt.stored (w := w) (by omega : w.heap.size ≤ w.heap.size + 1) A3.box (z := z) (ao := a3) (c := c3) (by rw [E0.out]; exact hr3)
      rw [E1.out, E2.out] at hI hS
      have q0 := hS.q0; have q1 := hS.q1; have hbF := hS.below
      have HI := Lib.hid hI
      clear hI hS hr3
      go_wp2
      refine bodyPost_ret (v := .agg #[.bool b, .slice a3 (limbs 1).length c3]) (by simp [results, Tryz.results151, go_sem, q0, q1]) rfl ?_
      exact ⟨_, rfl, HI.out, hbF⟩
end Go.Proofs.YtipnnmbjkpidoaaGreatDoor

/-
  Bezout's loop on integers.
-/
namespace Go.Proofs.YtipnnmbjkpidoaaGreatDoor
open Go Go.Proofs

theorem fmod_natAbs_lt (x y : Int) (hy : y ≠ 0) : (x.fmod y).natAbs < y.natAbs := by
  have hp : 0 < y.natAbs := by omega
  have h1 := Nat.mod_lt x.natAbs hp
  have h2 : missN x.natAbs y.natAbs < y.natAbs := by unfold missN; split <;> omega
  by_cases hx : x < 0 <;> by_cases h : y < 0
  · rw [fmod_nn x y hx h]; omega
  · rw [fmod_np x y hy hx h]; omega
  · rw [fmod_pn x y hy hx h]; omega
  · rw [fmod_pp x y hx h]; omega
theorem step_fmod (g n : Int) : g - g.fdiv n * n = g.fmod n := by rw [Int.fmod_def, Int.mul_comm]

/-- Euclid's algorithm with the factors of the first number: from the remainders g, n and their factors x, f. -/
def bezRun (g n x f : Int) : Int × Int :=
  if h : n = 0 then (g, x) else bezRun n (g - g.fdiv n * n) f (x - g.fdiv n * f)
termination_by n.natAbs
decreasing_by rw [step_fmod]; exact fmod_natAbs_lt g n h

theorem bezRun_zero (g x f : Int) : bezRun g 0 x f = (g, x) := by rw [bezRun, dif_pos rfl]
theorem bezRun_step (g n x f : Int) (h : n ≠ 0) : bezRun g n x f = bezRun n (g - g.fdiv n * n) f (x - g.fdiv n * f) := by rw [bezRun, dif_neg h]

/-- What holds at each round: the sizes. -/
structure BezInv (B : Nat) (g n x f : Int) : Prop where
  g0 : 0 < g
  n0 : 0 ≤ n
  gB : g.natAbs ≤ B
  nB : n.natAbs ≤ B
  xB : x.natAbs ≤ B
  fB : f.natAbs ≤ B
  sum : f.natAbs * g.natAbs + x.natAbs * n.natAbs ≤ B
theorem fmod_nonneg (g n : Int) (h : 0 < n) : 0 ≤ g.fmod n := by
  by_cases hg : g < 0
  · rw [fmod_np g n (by omega) hg (by omega)]; omega
  · rw [fmod_pp g n hg (by omega)]; omega
theorem fdiv_nonneg' (g n : Int) (hg : 0 ≤ g) (h : 0 < n) : 0 ≤ g.fdiv n := by
  rw [fdiv_same g n (by omega) (propext ⟨fun k => by omega, fun k => by omega⟩)]; exact Int.natCast_nonneg _
theorem BezInv.step {B : Nat} {g n x f : Int} (h : BezInv B g n x f) (hn : n ≠ 0) : BezInv B n (g - g.fdiv n * n) f (x - g.fdiv n * f) := by
  obtain ⟨g0, n0, gB, nB, xB, fB, sum⟩ := h
  have hr0 := fmod_nonneg g n (by omega)
  have hr1 := fmod_natAbs_lt g n hn
  have hq := fdiv_nonneg' g n (by omega) (by omega)
  have hg : g.natAbs = (g.fdiv n).natAbs * n.natAbs + (g.fmod n).natAbs := by
    have := step_fmod g n
    have h1 : g = g.fdiv n * n + g.fmod n := by omega
    have h2 : 0 ≤ g.fdiv n * n := Int.mul_nonneg hq (by omega)
    rw [← Int.natAbs_mul]
    omega
  rw [step_fmod]
  have hf : (x - g.fdiv n * f).natAbs ≤ x.natAbs + (g.fdiv n).natAbs * f.natAbs := by rw [← Int.natAbs_mul]; omega
  generalize g.fdiv n = q at *
  generalize g.fmod n = r at *
  generalize x - q * f = f2 at *
  generalize q.natAbs = Q at *
  have key : f2.natAbs * n.natAbs + f.natAbs * r.natAbs ≤ B := by
    refine Nat.le_trans ?_ sum
    rw [hg]
    have h1 : f2.natAbs * n.natAbs ≤ (x.natAbs + Q * f.natAbs) * n.natAbs := Nat.mul_le_mul_right _ hf
    have e1 : (x.natAbs + Q * f.natAbs) * n.natAbs = x.natAbs * n.natAbs + f.natAbs * (Q * n.natAbs) := by
      rw [Nat.add_mul, Nat.mul_comm Q, Nat.mul_assoc]
    have e2 : f.natAbs * (Q * n.natAbs + r.natAbs) = f.natAbs * (Q * n.natAbs) + f.natAbs * r.natAbs := Nat.mul_add ..
    omega
  refine ⟨by omega, hr0, nB, by omega, fB, ?_, key⟩
  have : f2.natAbs ≤ f2.natAbs * n.natAbs := Nat.le_mul_of_pos_right _ (by omega)
  omega
theorem BezInv.start (b : Int) (n : Int) (hb : b ≠ 0) (hn0 : 0 ≤ n) (hn : n.natAbs ≤ b.natAbs) : BezInv b.natAbs (b.natAbs : Int) n 0 1 :=
  ⟨by omega, hn0, by omega, hn, by omega, by simp; omega, by simp⟩
theorem bezRun_inv (B : Nat) : ∀ (k : Nat) (g n x f : Int), n.natAbs ≤ k → BezInv B g n x f → 0 < (bezRun g n x f).1 ∧ (bezRun g n x f).1.natAbs ≤ B ∧ (bezRun g n x f).2.natAbs ≤ B := by
  intro k
  induction k with
  | zero =>
    intro g n x f hk h
    have : n = 0 := by omega
    subst this
    rw [bezRun_zero]
    exact ⟨h.g0, h.gB, h.xB⟩
  | succ k ih =>
    intro g n x f hk h
    by_cases hn : n = 0
    · subst hn
      rw [bezRun_zero]
      exact ⟨h.g0, h.gB, h.xB⟩
    · rw [bezRun_step g n x f hn]
      refine ih _ _ _ _ ?_ (h.step hn)
      rw [step_fmod]
      have := fmod_natAbs_lt g n hn
      omega

/-- The greatest common divisor and the coefficients. -/
def bezOf (a b : Int) : Int × Int × Int :=
  if b = 0 then ((a.natAbs : Int), Int.sign a, 0) else
    let r := bezRun (b.natAbs : Int) (a.fmod (b.natAbs : Int)) 0 1
    let x := r.2.fmod ((b.natAbs : Int).fdiv r.1)
    (r.1, x, (r.1 - a * x).fdiv b)
end Go.Proofs.YtipnnmbjkpidoaaGreatDoor
