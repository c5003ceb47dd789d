import Derived.Test.YtbadibbdoljjhaaGreatDoorCut13
import Derived.Test.YtbadibbdoljjhaaGreatDoorCut12
import Derived.Test.YtbadibbdoljjhaaGreatDoorCut2
import Derived.Deep.CutRange
import Derived.Test.YtbadibbdoljjhaaGreatDoorCut11
import Derived.OrdersHeld
import Derived.Deep.RegionHeld3
import Derived.Lib.Hide

set_option linter.unusedVariables false
/-
  bigint: compute with errors, divide, Quo, Rem.
-/
namespace Go.Proofs.YtbadibbdoljjhaaGreatDoor
open Go Go.Proofs Go.RowKit

set_option maxHeartbeats 1000000 in
theorem divide_zero (fs fl : Nat) (s : ByteArray) (w : World) (hs : s.size ≤ 9223372036854775807) (he : errOf (bytes s) = 0) :
    Calls Tryz.prog 121 #[opV fs fl, .string s, .string ⟨#[48]⟩] w fun e w' => e = .returned (errV 19) ∧ Below w.heap.size w w' := by
  have CC := fun W => check_any s W hs
  rw [he] at CC
  have KC := Lib.hid CC; clear CC he hs
  unfold opV errV at *
  go_enter Tryz.func121, Tryz.ntmps121
  go_wp2_with (go_at_call 80; refine (KC.out _).mono ?_; rintro e w1 ⟨rfl, rfl⟩; refine Hid.out ?_)
  refine Lib.hid ?_
  go_wp2
  refine bodyPost_ret (by simp [results, Tryz.results121, go_sem]; rfl) rfl ?_
  exact ⟨rfl, by go_grown⟩

theorem quo_zero (s : ByteArray) (w : World) (hs : s.size ≤ 9223372036854775807) (he : errOf (bytes s) = 0) :
    Calls Tryz.prog 65 #[.string s, .string ⟨#[48]⟩] w fun e w' => e = .returned (errV 19) ∧ Below w.heap.size w w' := quo_of s _ _ 19 w (divide_zero _ _ s w hs he)

end Go.Proofs.YtbadibbdoljjhaaGreatDoor

/-
  bigint: signOf; boxes with integers.
-/
namespace Go.Proofs.YtbadibbdoljjhaaGreatDoor
open Go Go.Proofs Go.RowKit

set_option maxHeartbeats 2000000 in
theorem signOf_any (x : Int) (va : Value) (w : World) (ha : IntAt w va x) :
    Calls Tryz.prog 152 #[va] w fun e w' => ∃ v', e = .returned v' ∧ IntAt w' v' (Int.sign x) ∧ Below w.heap.size w w' := by
  obtain ⟨ao, c, rfl, hra⟩ := ha
  have Z : ∀ W : World, Below w.heap.size w W → Calls Tryz.prog 151 #[.agg #[.slice ao (limbs x.natAbs).length c]] W fun e w' => e = .returned (.bool (decide (x.natAbs = 0))) ∧ Below W.heap.size W w' := fun W hW => isZero_any x.natAbs _ W ⟨ao, c, rfl, hra.mono hW⟩
  have O : ∀ W : World, Calls Tryz.prog 153 #[.int .u64 1] W (RetN 1 W) := fun W => of_any 1 (by decide) W
  by_cases h0 : x = 0
  · have hr0 : ∀ W : World, Below w.heap.size w W → RowAt W ao c (limbs (Int.sign x).natAbs) := fun W hW => by
      have := hra.mono hW
      subst h0; exact this
    have e1 : sgn (Int.sign x) = decide (x < 0) := by subst h0; rfl
    have e2 : lenZ (Int.sign x) = (limbs x.natAbs).length := by subst h0; rfl
    rw [show decide (x.natAbs = 0) = true by simp [h0]] at Z
    have KZ := Lib.hid Z; have KR := Lib.hid hr0; have E1 := Lib.hid e1; have E2 := Lib.hid e2
    clear Z O hr0 e1 e2 hra h0
    generalize (limbs x.natAbs).length = n at *
    generalize decide (x < 0) = b at *
    generalize Int.sign x = z at *
    have R0 : SBox w ((w.alloc (Obj.cells #[.bool b, .slice ao n c] 95)).alloc (Obj.cells #[Value.bool false, Value.slice none 0 0] 95)) b ao n c := ⟨by go_cell, by go_cell, rbox2_new w b ao n c⟩
    go_enter Tryz.func152, Tryz.ntmps152
    go_wp2_with (go_at_call 151; refine (KZ.out _ R0.box.below).mono ?_; rintro e w2 ⟨rfl, hb2⟩; refine Hid.out ?_)
    have R2 := R0.mono hb2
    have hr2 := KR.out _ R2.box.below
    clear R0 hb2
    have k1 := R2.box.r0; have k2 := R2.box.r1; have k3 := R2.box.f0; have k4 := R2.box.f1; have k5 := R2.a0; have k6 := R2.a1
    obtain ⟨hI, hS⟩ := IntAt.stored (w := w) (by omega : w.heap.size ≤ w.heap.size + 1) R2.box hr2
    rw [E1.out, E2.out] at hI hS
    have q0 := hS.q0; have q1 := hS.q1; have hbF := hS.below
    have HI := Lib.hid hI
    clear hI hS hr2
    refine Lib.hid ?_
    go_wp2
    refine bodyPost_ret (v := .agg #[.bool b, .slice ao n c]) (by simp [results, Tryz.results152, go_sem, q0, q1]) rfl ?_
    exact ⟨_, rfl, HI.out, hbF⟩
  · have e0 : (Int.sign x).natAbs = 1 := by
      rcases Int.lt_or_gt_of_ne h0 with h | h
      · rw [Int.sign_eq_neg_one_of_neg h]; rfl
      · rw [Int.sign_eq_one_of_pos h]; rfl
    have e1 : sgn (Int.sign x) = decide (x < 0) := by
      unfold sgn
      rcases Int.lt_or_gt_of_ne h0 with h | h
      · rw [Int.sign_eq_neg_one_of_neg h, decide_eq_true h]; rfl
      · rw [Int.sign_eq_one_of_pos h, decide_eq_false (show ¬ x < 0 by omega)]; rfl
    have e2 : lenZ (Int.sign x) = (limbs 1).length := by unfold lenZ; rw [e0]
    rw [show decide (x.natAbs = 0) = false by simp [h0]] at Z
    have KZ := Lib.hid Z; have KO := Lib.hid O; have E0 := Lib.hid e0; have E1 := Lib.hid e1; have E2 := Lib.hid e2
    clear Z O e0 e1 e2 hra h0
    generalize (limbs x.natAbs).length = n at *
    generalize decide (x < 0) = b at *
    generalize Int.sign x = z at *
    have R0 : SBox w ((w.alloc (Obj.cells #[.bool b, .slice ao n c] 95)).alloc (Obj.cells #[Value.bool false, Value.slice none 0 0] 95)) b ao n c := ⟨by go_cell, by go_cell, rbox2_new w b ao n c⟩
    go_enter Tryz.func152, Tryz.ntmps152
    go_wp2_with (go_at_call 151; refine (KZ.out _ R0.box.below).mono ?_; rintro e w2 ⟨rfl, hb2⟩; refine Hid.out ?_)
    have R2 := R0.mono hb2
    clear R0 hb2
    have A2 := R2.mono ((Below.refl _ _).drew)
    have k5 := A2.a0
    refine Lib.hid ?_
    go_wp2_with fail
    go_region_held3 (fun w' => w'.cell? ⟨w.heap.size, 0, none⟩ = some (.bool b)) (first | exact A3.keepS _ _ | exact A3.a0 | exact A2.a0) (first
      | (go_at_call 153; refine (KO.out _).mono ?_; rintro e w3 ⟨v3, rfl, hv3, hb3⟩; have A3 := A2.mono hb3; obtain ⟨a3, c3, rfl, hr3⟩ := hv3; have k1 := A3.box.r0; have k2 := A3.box.r1; have k3 := A3.box.f0; have k4 := A3.box.f1))
    all_goals
      obtain ⟨hI, hS⟩ := IntAt.stored (w := w) (by omega : w.heap.size ≤ w.heap.size + 1) A3.box (z := z) (ao := a3) (c := c3) (by rw [E0.out]; exact hr3)
      rw [E1.out, E2.out] at hI hS
      have q0 := hS.q0; have q1 := hS.q1; have hbF := hS.below
      have HI := Lib.hid hI
      clear hI hS hr3
      go_wp2
      refine bodyPost_ret (v := .agg #[.bool b, .slice a3 (limbs 1).length c3]) (by simp [results, Tryz.results152, go_sem, q0, q1]) rfl ?_
      exact ⟨_, rfl, HI.out, hbF⟩
end Go.Proofs.YtbadibbdoljjhaaGreatDoor

/-
  Bezout's loop on integers.
-/
namespace Go.Proofs.YtbadibbdoljjhaaGreatDoor
open Go Go.Proofs

/-- Euclid's algorithm with the factors of the first number: from the remainders g, n and their factors x, f. -/
def bezRun (g n x f : Int) : Int × Int :=
  if h : n = 0 then (g, x) else bezRun n (g - g.fdiv n * n) f (x - g.fdiv n * f)
termination_by n.natAbs
decreasing_by rw [step_fmod]; exact fmod_natAbs_lt g n h

theorem bezRun_zero (g x f : Int) : bezRun g 0 x f = (g, x) := by rw [bezRun, dif_pos rfl]
theorem bezRun_step (g n x f : Int) (h : n ≠ 0) : bezRun g n x f = bezRun n (g - g.fdiv n * n) f (x - g.fdiv n * f) := by rw [bezRun, dif_neg h]

theorem bezRun_inv (B : Nat) : ∀ (k : Nat) (g n x f : Int), n.natAbs ≤ k → BezInv B g n x f → 0 < (bezRun g n x f).1 ∧ (bezRun g n x f).1.natAbs ≤ B ∧ (bezRun g n x f).2.natAbs ≤ B := by
  intro k
  induction k with
  | zero =>
    intro g n x f hk h
    have : n = 0 := by omega
    subst this
    rw [bezRun_zero]
    exact ⟨h.g0, h.gB, h.xB⟩
  | succ k ih =>
    intro g n x f hk h
    by_cases hn : n = 0
    · subst hn
      rw [bezRun_zero]
      exact ⟨h.g0, h.gB, h.xB⟩
    · rw [bezRun_step g n x f hn]
      refine ih _ _ _ _ ?_ (h.step hn)
      rw [step_fmod]
      have := fmod_natAbs_lt g n hn
      omega

/-- The greatest common divisor and the coefficients. -/
def bezOf (a b : Int) : Int × Int × Int :=
  if b = 0 then ((a.natAbs : Int), Int.sign a, 0) else
    let r := bezRun (b.natAbs : Int) (a.fmod (b.natAbs : Int)) 0 1
    let x := r.2.fmod ((b.natAbs : Int).fdiv r.1)
    (r.1, x, (r.1 - a * x).fdiv b)
end Go.Proofs.YtbadibbdoljjhaaGreatDoor

/-
  bigint: bezout, by 0.
-/
namespace Go.Proofs.YtbadibbdoljjhaaGreatDoor
open Go Go.Proofs Go.RowKit

theorem b5_new {w : World} {a b : Int} {aa : Option Addr} {ca : Nat} {ab : Option Addr} {cb : Nat} (ha : RowAt w aa ca (limbs a.natAbs)) (hb : RowAt w ab cb (limbs b.natAbs)) :
    B5 w (((((w.alloc (Obj.cells #[.bool (sgn a), .slice aa (lenZ a) ca] 95)).alloc (Obj.cells #[.bool (sgn b), .slice ab (lenZ b) cb] 95)).alloc (Obj.cells #[Value.bool false, Value.slice none 0 0] 95)).alloc (Obj.cells #[Value.bool false, Value.slice none 0 0] 95)).alloc (Obj.cells #[Value.bool false, Value.slice none 0 0] 95)) a b 0 0 aa ca ab cb none 0 none 0 := by
  have hb0 : Below w.heap.size w (((((w.alloc (Obj.cells #[.bool (sgn a), .slice aa (lenZ a) ca] 95)).alloc (Obj.cells #[.bool (sgn b), .slice ab (lenZ b) cb] 95)).alloc (Obj.cells #[Value.bool false, Value.slice none 0 0] 95)).alloc (Obj.cells #[Value.bool false, Value.slice none 0 0] 95)).alloc (Obj.cells #[Value.bool false, Value.slice none 0 0] 95)) := by go_grown
  exact ⟨⟨by simp <;> omega, by go_cell, by go_cell, by go_cell, by go_cell, ha.mono hb0⟩, ⟨by simp <;> omega, by go_cell, by go_cell, by go_cell, by go_cell, hb.mono hb0⟩,
    CV.zero (by simp <;> omega) (by go_cell) (by go_cell) (by go_cell) (by go_cell), CV.zero (by simp <;> omega) (by go_cell) (by go_cell) (by go_cell) (by go_cell), CV.zero (by simp) (by go_cell) (by go_cell) (by go_cell) (by go_cell), hb0⟩
theorem B5.setG {w W : World} {a b g x : Int} {aa : Option Addr} {ca : Nat} {ab : Option Addr} {cb : Nat} {ag : Option Addr} {cg : Nat} {ax : Option Addr} {cx : Nat} (h : B5 w W a b g x aa ca ab cb ag cg ax cx) {z : Int} {a2 : Option Addr} {c2 : Nat} (hr : RowAt W a2 c2 (limbs z.natAbs)) :
    B5 w ((W.setCell ⟨w.heap.size + 1 + 1, 0, none⟩ (.bool (sgn z))).setCell ⟨w.heap.size + 1 + 1, 1, none⟩ (.slice a2 (lenZ z) c2)) a b z x aa ca ab cb a2 c2 ax cx :=
  ⟨h.a.other h.g (by omega) _ _, h.b.other h.g (by omega) _ _, h.g.put hr, h.x.other h.g (by omega) _ _, h.y.other h.g (by omega) _ _, (h.below.setCell (by simp; omega) _).setCell (by simp; omega) _⟩
theorem B5.setX {w W : World} {a b g x : Int} {aa : Option Addr} {ca : Nat} {ab : Option Addr} {cb : Nat} {ag : Option Addr} {cg : Nat} {ax : Option Addr} {cx : Nat} (h : B5 w W a b g x aa ca ab cb ag cg ax cx) {z : Int} {a2 : Option Addr} {c2 : Nat} (hr : RowAt W a2 c2 (limbs z.natAbs)) :
    B5 w ((W.setCell ⟨w.heap.size + 1 + 1 + 1, 0, none⟩ (.bool (sgn z))).setCell ⟨w.heap.size + 1 + 1 + 1, 1, none⟩ (.slice a2 (lenZ z) c2)) a b g z aa ca ab cb ag cg a2 c2 :=
  ⟨h.a.other h.x (by omega) _ _, h.b.other h.x (by omega) _ _, h.g.other h.x (by omega) _ _, h.x.put hr, h.y.other h.x (by omega) _ _, (h.below.setCell (by simp; omega) _).setCell (by simp; omega) _⟩

theorem lenZ_zero : lenZ 0 = 0 := by simp [lenZ, limbs_zero]
theorem CV.zero0 {W : World} {p : Nat} (h : CV W p 0 none 0) : W.cell? ⟨p, 0, none⟩ = some (.bool false) ∧ W.cell? ⟨p, 1, none⟩ = some (.slice none 0 0) := ⟨h.c0, by have := h.c1; rwa [lenZ_zero] at this⟩
theorem CV.int0 {W : World} {p : Nat} (h : CV W p 0 none 0) : IntAt W (.agg #[.bool false, .slice none 0 0]) 0 := by have := h.int; rwa [lenZ_zero] at this
theorem CV.put0 {W : World} {p : Nat} {z : Int} {ao : Option Addr} {c : Nat} (h : CV W p z ao c) : CV ((W.setCell ⟨p, 0, none⟩ (.bool false)).setCell ⟨p, 1, none⟩ (.slice none 0 0)) p 0 none 0 := by
  obtain ⟨a, d, e, hr⟩ := numAt_zero W
  rw [limbs_zero] at e hr
  simp only [List.length_nil] at e
  have : a = none ∧ d = 0 := by injection e with e; simpa using e.symm
  obtain ⟨rfl, rfl⟩ := this
  have := h.put (z2 := 0) (a2 := none) (c2 := 0) (by rw [show ((0 : Int).natAbs) = 0 from rfl, limbs_zero]; exact hr)
  rwa [lenZ_zero] at this
theorem B5.setY {w W : World} {a b g x : Int} {aa : Option Addr} {ca : Nat} {ab : Option Addr} {cb : Nat} {ag : Option Addr} {cg : Nat} {ax : Option Addr} {cx : Nat} (h : B5 w W a b g x aa ca ab cb ag cg ax cx) :
    B5 w ((W.setCell ⟨w.heap.size + 1 + 1 + 1 + 1, 0, none⟩ (.bool false)).setCell ⟨w.heap.size + 1 + 1 + 1 + 1, 1, none⟩ (.slice none 0 0)) a b g x aa ca ab cb ag cg ax cx :=
  ⟨h.a.other h.y (by omega) _ _, h.b.other h.y (by omega) _ _, h.g.other h.y (by omega) _ _, h.x.other h.y (by omega) _ _, h.y.put0, (h.below.setCell (by simp; omega) _).setCell (by simp; omega) _⟩
theorem B5.setX0 {w W : World} {a b g x : Int} {aa : Option Addr} {ca : Nat} {ab : Option Addr} {cb : Nat} {ag : Option Addr} {cg : Nat} {ax : Option Addr} {cx : Nat} (h : B5 w W a b g x aa ca ab cb ag cg ax cx) :
    B5 w ((W.setCell ⟨w.heap.size + 1 + 1 + 1, 0, none⟩ (.bool false)).setCell ⟨w.heap.size + 1 + 1 + 1, 1, none⟩ (.slice none 0 0)) a b g 0 aa ca ab cb ag cg none 0 :=
  ⟨h.a.other h.x (by omega) _ _, h.b.other h.x (by omega) _ _, h.g.other h.x (by omega) _ _, h.x.put0, h.y.other h.x (by omega) _ _, (h.below.setCell (by simp; omega) _).setCell (by simp; omega) _⟩

/-- What bezout returns. -/
def BezRet (g x y : Int) (w : World) (e : Ending) (w' : World) : Prop := ∃ v1 v2 v3, e = .returned (.tuple #[v1, v2, v3]) ∧ IntAt w' v1 g ∧ IntAt w' v2 x ∧ IntAt w' v3 y ∧ Below w.heap.size w w'

set_option maxHeartbeats 2000000 in
theorem bezout_zero (x : Int) (va vb : Value) (w : World) (ha : IntAt w va x) (hb : IntAt w vb 0) :
    Calls Tryz.prog 91 #[va, vb] w (BezRet (x.natAbs : Int) (Int.sign x) 0 w) := by
  obtain ⟨ao, c, rfl, hra⟩ := ha.open
  obtain ⟨ap, d, rfl, hrb⟩ := hb.open
  have Z : ∀ W : World, Below w.heap.size w W → Calls Tryz.prog 151 #[.agg #[.slice ap (lenZ 0) d]] W fun e w' => e = .returned (.bool true) ∧ Below W.heap.size W w' := fun W hW => isZero_any 0 _ W ⟨ap, d, rfl, hrb.mono hW⟩
  have P : ∀ W : World, Below w.heap.size w W → Calls Tryz.prog 137 #[.agg #[.slice ao (lenZ x) c]] W fun e w' => ∃ v', e = .returned v' ∧ IntAt w' v' (x.natAbs : Int) ∧ Below W.heap.size W w' := fun W hW => plus_any x.natAbs _ W ⟨ao, c, rfl, hra.mono hW⟩
  have S : ∀ W : World, Below w.heap.size w W → Calls Tryz.prog 152 #[.agg #[.bool (sgn x), .slice ao (lenZ x) c]] W fun e w' => ∃ v', e = .returned v' ∧ IntAt w' v' (Int.sign x) ∧ Below W.heap.size W w' := fun W hW => signOf_any x _ W ⟨ao, c, rfl, hra.mono hW⟩
  have R0 := b5_new hra hrb
  have KZ := Lib.hid Z; have KP := Lib.hid P; have KS := Lib.hid S
  clear Z P S hra hrb
  generalize (x.natAbs : Int) = g at *
  generalize Int.sign x = z at *
  go_enter Tryz.func91, Tryz.ntmps91
  go_wp2_with fail
  generalize (((((w.alloc (Obj.cells #[.bool (sgn x), .slice ao (lenZ x) c] 95)).alloc (Obj.cells #[.bool (sgn 0), .slice ap (lenZ 0) d] 95)).alloc (Obj.cells #[Value.bool false, Value.slice none 0 0] 95)).alloc (Obj.cells #[Value.bool false, Value.slice none 0 0] 95)).alloc (Obj.cells #[Value.bool false, Value.slice none 0 0] 95)) = W0 at *
  refine (KZ.out _ R0.below).mono ?_
  rintro e w2 ⟨rfl, hb2⟩
  have R2 := R0.mono hb2
  clear R0 hb2
  have A2 := R2.mono ((Below.refl _ _).drew)
  have k0 := A2.a.c0; have k1 := A2.a.c1
  go_wp2_with fail
  go_region_held3 (fun w' => w'.cell? ⟨w.heap.size, 0, none⟩ = some (.bool (sgn x)) ∧ w'.cell? ⟨w.heap.size, 1, none⟩ = some (.slice ao (lenZ x) c)) (first | (with_reducible exact A2.keep) | (with_reducible exact A3.keep) | (with_reducible exact A4.keep) | (with_reducible exact AG.keep) | (with_reducible exact (AG.setX hr4).keep) | (with_reducible exact (AG.setX hr4).setY.keep) | fail) (first
    | (go_at_call 137; refine (KP.out _ A2.below).mono ?_; rintro e w3 ⟨v3, rfl, hv3, hb3⟩; have A3 := A2.mono hb3; obtain ⟨a3, c3, rfl, hr3'⟩ := hv3.open)
    | (go_at_call 152; refine (KS.out _ A3.below).mono ?_; rintro e w4 ⟨v4, rfl, hv4, hb4⟩; have A4 := A3.mono hb4; obtain ⟨a4, c4, rfl, hr4'⟩ := hv4.open; have hr3 := hr3'.mono hb4; have AG := A4.setG hr3; have hr4 := A4.g.rowput hr4' (.bool (sgn g)) (.slice a3 (lenZ g) c3); have k2 := A4.g.c0; have k3 := A4.g.c1; have k4 := A4.g.f0; have k5 := A4.g.f1; have k6 := A4.x.c0; have k7 := A4.x.c1; have k8 := A4.x.f0; have k9 := A4.x.f1; obtain ⟨k10, k11⟩ := A4.y.zero0; have k12 := A4.y.f0; have k13 := A4.y.f1))
  all_goals
    have F := (AG.setX hr4).setY
    have i1 := F.g.int; have i2 := F.x.int; have i3 := F.y.int0
    have q0 := F.g.c0; have q1 := F.g.c1; have q2 := F.x.c0; have q3 := F.x.c1
    obtain ⟨q4, q5⟩ := F.y.zero0
    have I1 := Lib.hid i1; have I2 := Lib.hid i2; have I3 := Lib.hid i3; have HB := Lib.hid F.below
    clear i1 i2 i3 F hr4 AG A4 A3 A2
    go_wp2
    refine bodyPost_ret (v := .tuple #[.agg #[.bool (sgn g), .slice a3 (lenZ g) c3], .agg #[.bool (sgn z), .slice a4 (lenZ z) c4], .agg #[.bool false, .slice none 0 0]]) (by simp [results, Tryz.results91, go_sem, q0, q1, q2, q3, q4, q5]) rfl ?_
    exact ⟨_, _, _, rfl, I1.out, I2.out, I3.out, HB.out⟩
end Go.Proofs.YtbadibbdoljjhaaGreatDoor

/-
  bigint: the boxes of bezout's loop.
-/
namespace Go.Proofs.YtbadibbdoljjhaaGreatDoor
open Go Go.Proofs Go.RowKit

/-- The magnitude that lies in a box, read off the cells. -/
def magAt (W : World) (p : Nat) : Nat :=
  match W.cell? ⟨p, 1, none⟩ with
  | some (.slice (some ⟨b, off, _⟩) n _) => val ((List.range n).map fun k => match W.cell? ⟨b, off + k, none⟩ with | some (.int _ v) => v.toNat | _ => 0)
  | _ => 0
theorem CV.mag {W : World} {p : Nat} {z : Int} {ao : Option Addr} {c : Nat} (h : CV W p z ao c) : magAt W p = z.natAbs := by
  unfold magAt
  rw [h.c1]
  obtain ⟨h1, h2, h3⟩ := h.row
  rcases h3 with ⟨h3, -⟩ | ⟨b, off, rfl, hlt, hc⟩
  · have hz : z.natAbs = 0 := limbs_nil_iff.1 h3
    have hl : lenZ z = 0 := by unfold lenZ; rw [h3]; rfl
    rw [hl, hz]
    cases ao with
    | none => rfl
    | some a => obtain ⟨b, off, ix⟩ := a; rfl
  · have e : ((List.range (lenZ z)).map fun k => match W.cell? ⟨b, off + k, none⟩ with | some (.int _ v) => v.toNat | _ => 0) = limbs z.natAbs := by
      refine List.ext_getElem (by simp [lenZ]) fun k hk1 hk2 => ?_
      rw [List.getElem_map, List.getElem_range, hc k hk2]
      simp [List.getD, List.getElem?_eq_getElem hk2]
    show val ((List.range (lenZ z)).map _) = _
    rw [e, val_limbs]

section
variable {w W : World} {pn pf : Nat} {a b g x n f : Int} {aa : Option Addr} {ca : Nat} {ab : Option Addr} {cb : Nat} {ag : Option Addr} {cg : Nat} {ax : Option Addr} {cx : Nat} {an : Option Addr} {cn : Nat} {af : Option Addr} {cf : Nat}
theorem BZ.setG (h : BZ w W pn pf a b g x n f aa ca ab cb ag cg ax cx an cn af cf) {z : Int} {a2 : Option Addr} {c2 : Nat} (hr : RowAt W a2 c2 (limbs z.natAbs)) :
    BZ w ((W.setCell ⟨w.heap.size + 1 + 1, 0, none⟩ (.bool (sgn z))).setCell ⟨w.heap.size + 1 + 1, 1, none⟩ (.slice a2 (lenZ z) c2)) pn pf a b z x n f aa ca ab cb a2 c2 ax cx an cn af cf :=
  have h1 := h.hp
  have h2 := h.hq
  ⟨h.o.setG hr, h.n.other h.o.g (by omega) _ _, h.f.other h.o.g (by omega) _ _, h.hp, h.hq⟩
theorem BZ.setX (h : BZ w W pn pf a b g x n f aa ca ab cb ag cg ax cx an cn af cf) {z : Int} {a2 : Option Addr} {c2 : Nat} (hr : RowAt W a2 c2 (limbs z.natAbs)) :
    BZ w ((W.setCell ⟨w.heap.size + 1 + 1 + 1, 0, none⟩ (.bool (sgn z))).setCell ⟨w.heap.size + 1 + 1 + 1, 1, none⟩ (.slice a2 (lenZ z) c2)) pn pf a b g z n f aa ca ab cb ag cg a2 c2 an cn af cf :=
  have h1 := h.hp
  have h2 := h.hq
  ⟨h.o.setX hr, h.n.other h.o.x (by omega) _ _, h.f.other h.o.x (by omega) _ _, h.hp, h.hq⟩
theorem BZ.setN (h : BZ w W pn pf a b g x n f aa ca ab cb ag cg ax cx an cn af cf) {z : Int} {a2 : Option Addr} {c2 : Nat} (hr : RowAt W a2 c2 (limbs z.natAbs)) :
    BZ w ((W.setCell ⟨pn, 0, none⟩ (.bool (sgn z))).setCell ⟨pn, 1, none⟩ (.slice a2 (lenZ z) c2)) pn pf a b g x z f aa ca ab cb ag cg ax cx a2 c2 af cf :=
  have h1 := h.hp
  have h2 := h.hq
  ⟨⟨h.o.a.other h.n (by omega) _ _, h.o.b.other h.n (by omega) _ _, h.o.g.other h.n (by omega) _ _, h.o.x.other h.n (by omega) _ _, h.o.y.other h.n (by omega) _ _, (h.o.below.setCell (by simp; omega) _).setCell (by simp; omega) _⟩,
    h.n.put hr, h.f.other h.n (by omega) _ _, h.hp, h.hq⟩
theorem BZ.setF (h : BZ w W pn pf a b g x n f aa ca ab cb ag cg ax cx an cn af cf) {z : Int} {a2 : Option Addr} {c2 : Nat} (hr : RowAt W a2 c2 (limbs z.natAbs)) :
    BZ w ((W.setCell ⟨pf, 0, none⟩ (.bool (sgn z))).setCell ⟨pf, 1, none⟩ (.slice a2 (lenZ z) c2)) pn pf a b g x n z aa ca ab cb ag cg ax cx an cn a2 c2 :=
  have h1 := h.hp
  have h2 := h.hq
  ⟨⟨h.o.a.other h.f (by omega) _ _, h.o.b.other h.f (by omega) _ _, h.o.g.other h.f (by omega) _ _, h.o.x.other h.f (by omega) _ _, h.o.y.other h.f (by omega) _ _, (h.o.below.setCell (by simp; omega) _).setCell (by simp; omega) _⟩,
    h.n.other h.f (by omega) _ _, h.f.put hr, h.hp, h.hq⟩
end
end Go.Proofs.YtbadibbdoljjhaaGreatDoor

/-
  A region that draws its order: loads may be taken first though late operations write their cells, if these operations wait for the loads.
-/
namespace Go.Proofs.YtbadibbdoljjhaaGreatDoor
open Go Go.Proofs Go.RowKit

section
variable {P : Program} {ops : Array Oper} {Q : Exit → Act → World → Prop} {md : Region.Mode} {S : World → Prop} {late dep : Nat → Bool}

/-- Whatever order is picked from here on; behind each operation that is not late S holds. -/
def wpAnyL (P : Program) (md : Region.Mode) (ops : Array Oper) (Q : Exit → Act → World → Prop) (S : World → Prop) (late : Nat → Bool) : Nat → Array Bool → Act → World → Prop
  | 0, listed, a, w => Region.ready md ops listed = [] ∧ Q .normal a w
  | k + 1, listed, a, w =>
    (Region.ready md ops listed = [] → Q .normal a w) ∧
    ∀ i ∈ Region.ready md ops listed, wpOp P ops Q i (fun a' w' => (late i = false → S w') ∧ wpAnyL P md ops Q S late k (listed.setIfInBounds i true) a' w') a w

theorem any_of_late : ∀ (k : Nat) (listed : Array Bool) (a : Act) (w : World), wpAnyL P md ops Q S late k listed a w → wpAny P md ops Q k listed a w
  | 0, _, _, _, h => h
  | k + 1, _, _, _, h => ⟨h.1, fun i hi => wpOp_mono (fun a' w' g => any_of_late k _ a' w' g.2) (h.2 i hi)⟩

theorem late_first {i : Nat} {oi : Oper} {v : Value} (hi : ops[i]? = some oi) (hsel : ∀ (j : Nat) (o : Oper) cs b, ops[j]? = some o → o.op ≠ .select cs b)
    (hQ : ∀ c a w, Q (.panic c) (a.put oi.dst v) w → Q (.panic c) a w)
    (hlate : ∀ (j : Nat) (o : Oper), ops[j]? = some o → late j = true → dep j = true)
    (hdep : ∀ (j : Nat) (o : Oper), ops[j]? = some o → dep j = true → ∃ e ∈ o.after, Region.binds md e = true ∧ (e.on = i ∨ dep e.on = true)) :
    ∀ (k : Nat) (listed : Array Bool) (a : Act) (w : World),
      (∀ j oj, ops[j]? = some oj → j ≠ i → listed.getD j true = false → (∀ e ∈ oj.after, Region.binds md e = true → e.on ≠ i) → oi.apart ops oj = true) → (∀ j, dep j = true → listed.getD j false = false) →
      i ∈ Region.ready md ops listed → YieldsIf P ops S oi v a → S w →
      wpAnyL P md ops Q S late k (listed.setIfInBounds i true) (a.put oi.dst v) w → wpAnyL P md ops Q S late (k + 1) listed a w := by
  intro k
  induction k with
  | zero =>
    intro listed a w _ _ hr hy hS H
    refine ⟨fun h => absurd hr (by rw [h]; simp), fun j hj => ?_⟩
    rcases Decidable.em (j = i) with rfl | hne
    · exact hy.wpOp hi hS ⟨fun _ => hS, H⟩
    · have := ready_mono hj hne
      rw [H.1] at this
      cases this
  | succ k ih =>
    intro listed a w hfree hD hr hy hS H
    refine ⟨fun h => absurd hr (by rw [h]; simp), fun j hj => ?_⟩
    rcases Decidable.em (j = i) with rfl | hne
    · exact hy.wpOp hi hS ⟨fun _ => hS, H⟩
    · have g := H.2 j (ready_mono hj hne)
      obtain ⟨hun, oj, hoj, hall⟩ := mem_ready.1 hj
      have hfar : ∀ e ∈ oj.after, Region.binds md e = true → e.on ≠ i := fun e he hb heq => by
        have u1 := hall e he hb
        have u0 := (mem_ready.1 hr).1
        rw [heq] at u1
        rcases Nat.lt_or_ge i listed.size with q | q
        · simp [q] at u0 u1; rw [u0] at u1; cases u1
        · simp [Array.getElem?_eq_none q] at u1
      have hnd : dep j = false := by
        cases hl : dep j
        · rfl
        · obtain ⟨e, he, hb, hon⟩ := hdep j oj hoj hl
          rcases hon with hon | hon
          · exact absurd hon (hfar e he hb)
          · have h1 := hall e he hb
            rw [hD _ hon] at h1
            cases h1
      have hnl : late j = false := by
        cases hl : late j
        · rfl
        · rw [hlate j oj hoj hl] at hnd
          cases hnd
      have hD2 : ∀ m, dep m = true → (listed.setIfInBounds j true).getD m false = false := fun m hm => by
        rcases Decidable.em (j = m) with rfl | hjm
        · rw [hnd] at hm; cases hm
        · rw [getD_set_ne false hjm]; exact hD m hm
      have g2 := wpOp_putIf hoj (hfree j oj hoj hne hun hfar) (fun cs b => hsel i oi cs b hi) (fun cs b => hsel j oj cs b hoj) hQ hy g
      have hfree2 : ∀ m om, ops[m]? = some om → m ≠ i → (listed.setIfInBounds j true).getD m true = false → (∀ e ∈ om.after, Region.binds md e = true → e.on ≠ i) → oi.apart ops om = true := fun m om hm hmi hu hno => by
        refine hfree m om hm hmi ?_ hno
        rcases Decidable.em (j = m) with rfl | hjm
        · exact hun
        · rw [getD_set_ne true hjm] at hu; exact hu
      refine wpOp_mono (fun a' w' z => ⟨fun _ => z.2.1 hnl, ih (listed.setIfInBounds j true) a' w' hfree2 hD2 (ready_mono hr (Ne.symm hne)) z.1 (z.2.1 hnl) ?_⟩) g2
      rw [Array.setIfInBounds_comm _ _ hne]
      exact z.2.2

/-- The late operations wait for number i, by steps through 'dep', as a Bool; nothing of 'dep' has run. -/
def lateB (md : Region.Mode) (ops : Array Oper) (late dep : Nat → Bool) (listed : Array Bool) (i : Nat) : Bool :=
  ((List.range ops.size).all fun j => (!late j || dep j) && (!dep j || (match ops[j]? with | some o => o.after.any (fun e => Region.binds md e && (e.on == i || dep e.on)) | none => true))) &&
    ((List.range listed.size).all fun j => !dep j || !listed.getD j false)
theorem lateB_spec {i : Nat} {listed : Array Bool} (h : lateB md ops late dep listed i = true) :
    (∀ (j : Nat) (o : Oper), ops[j]? = some o → late j = true → dep j = true) ∧
    (∀ (j : Nat) (o : Oper), ops[j]? = some o → dep j = true → ∃ e ∈ o.after, Region.binds md e = true ∧ (e.on = i ∨ dep e.on = true)) ∧
    (∀ j, dep j = true → listed.getD j false = false) := by
  unfold lateB at h
  rw [Bool.and_eq_true, List.all_eq_true, List.all_eq_true] at h
  obtain ⟨h1, h2⟩ := h
  have lt : ∀ (j : Nat) (o : Oper), ops[j]? = some o → j < ops.size := fun j o hj => by
    rcases Nat.lt_or_ge j ops.size with q | q
    · exact q
    · rw [Array.getElem?_eq_none q] at hj; cases hj
  refine ⟨fun j o hj hl => ?_, fun j o hj hd => ?_, fun j hd => ?_⟩
  · have := h1 j (List.mem_range.2 (lt j o hj))
    rw [hl, Bool.and_eq_true] at this
    simpa using this.1
  · have := h1 j (List.mem_range.2 (lt j o hj))
    rw [hd, Bool.and_eq_true] at this
    have g := this.2
    rw [hj] at g
    simp only [Bool.not_true, Bool.false_or] at g
    obtain ⟨e, he, hb⟩ := Array.any_eq_true'.1 g
    simp only [Bool.and_eq_true, Bool.or_eq_true, beq_iff_eq] at hb
    exact ⟨e, he, hb.1, hb.2⟩
  · rcases Nat.lt_or_ge j listed.size with q | q
    · have := h2 j (List.mem_range.2 q)
      rw [hd] at this
      simpa using this
    · simp [Array.getElem?_eq_none q]

theorem late_take {i : Nat} {oi : Oper} {v : Value} {k : Nat} {listed : Array Bool} {a : Act} {w : World} (dep : Nat → Bool) (hi : ops[i]? = some oi)
    (hs : Region.noSelect ops = true) (hf : Region.free md ops listed i = true) (hr : (Region.ready md ops listed).contains i = true) (hl : lateB md ops late dep listed i = true)
    (hQ : ∀ c a w, Q (.panic c) (a.put oi.dst v) w → Q (.panic c) a w) (hy : YieldsIf P ops S oi v a) (hS : S w)
    (h : wpAnyL P md ops Q S late k (listed.setIfInBounds i true) (a.put oi.dst v) w) : wpAnyL P md ops Q S late (k + 1) listed a w :=
  late_first hi (Region.noSelect_spec hs) hQ (lateB_spec hl).1 (lateB_spec hl).2.1 k listed a w (Region.free_spec hi hf) (lateB_spec hl).2.2 (by simpa using hr) hy hS h

theorem late_one {i : Nat} {oi : Oper} {k : Nat} {listed : Array Bool} {a : Act} {w : World} (hi : ops[i]? = some oi) (hr : Region.ready md ops listed = [i])
    (h : ∀ K : Act → World → Prop, Hid (∀ a' w', (late i = false → S w') → wpAnyL P md ops Q S late k (listed.setIfInBounds i true) a' w' → K a' w') →
      if Region.wanted oi (yielded ops a.tmps) = true then Oper.wp P oi a w K Q else K (a.put oi.dst undef) w) : wpAnyL P md ops Q S late (k + 1) listed a w := by
  have g := h (fun a' w' => (late i = false → S w') ∧ wpAnyL P md ops Q S late k (listed.setIfInBounds i true) a' w') (Lib.hid fun a' w' h1 h2 => ⟨h1, h2⟩)
  refine ⟨fun h0 => (by rw [hr] at h0; cases h0), fun j hj => ?_⟩
  rw [hr] at hj
  obtain rfl := List.mem_singleton.1 hj
  unfold wpOp
  simp only [hi]
  split
  · rename_i hw; rw [if_pos hw] at g; exact .inl g
  · rename_i hw; rw [if_neg hw] at g; exact g

theorem late_done {listed : Array Bool} {a : Act} {w : World} (hr : Region.ready md ops listed = []) (h : Q .normal a w) : ∀ k, wpAnyL P md ops Q S late k listed a w
  | 0 => ⟨hr, h⟩
  | _ + 1 => ⟨fun _ => h, by rw [hr]; simp⟩

theorem wp_region_late {id : Nat} {a : Act} {w : World} (hm : P.follows .mixedOrders = true)
    (h : wpAnyL P .any ops Q S late ops.size (Array.replicate ops.size false) a w.drew) : (Code.region id ops true).wp P Q a w :=
  wp_region_any hm (any_of_late _ _ _ _ h)
end
end Go.Proofs.YtbadibbdoljjhaaGreatDoor

