import Derived.Test.YtmnbjkbkjmgmkaaGreatDoorCut7
import Derived.Test.YtmnbjkbkjmgmkaaGreatDoorOwnDiv

set_option linter.unusedVariables false
/-
  bigint: quotient's closure for opposite signs.
-/
set_option linter.unusedSimpArgs false
set_option linter.unusedVariables false
namespace Go.Proofs.YtmnbjkbkjmgmkaaGreatDoor
open Go Go.Proofs Go.RowKit
structure NBox (w W : World) (vx vy : Value) : Prop where
  x : W.cell? ⟨w.heap.size, 0, none⟩ = some vx
  y : W.cell? ⟨w.heap.size + 1, 0, none⟩ = some vy
  box : RBox w W (w.heap.size + 1 + 1)
theorem NBox.mono {w W W' : World} {vx vy : Value} (h : NBox w W vx vy) (g : Below W.heap.size W W') : NBox w W' vx vy := by
  have hl := h.box.lt
  exact ⟨(g.cell (p := ⟨w.heap.size, 0, none⟩) (by simp; omega)).trans h.x, (g.cell (p := ⟨w.heap.size + 1, 0, none⟩) (by simp; omega)).trans h.y, h.box.mono g⟩
theorem NBox.keep {w W : World} {vx vy : Value} (h : NBox w W vx vy) : W.cell? ⟨w.heap.size, 0, none⟩ = some vx ∧ W.cell? ⟨w.heap.size + 1, 0, none⟩ = some vy := ⟨h.x, h.y⟩
structure Bx (W : World) (p : Nat) : Prop where
  lt : p < W.heap.size
  c : W.cell? ⟨p, 0, none⟩ = some (Value.slice none 0 0)
  f : W.frozen? ⟨p, 0, none⟩ = false
theorem Bx.mono {W W' : World} {p : Nat} (h : Bx W p) (k : Below W.heap.size W W') : Bx W' p :=
  ⟨Nat.lt_of_lt_of_le h.lt k.size, (k.cell (p := ⟨p, 0, none⟩) h.lt).trans h.c, (k.frozen (p := ⟨p, 0, none⟩) h.lt).trans h.f⟩
theorem NBox.alloc {w W : World} {vx vy : Value} (h : NBox w W vx vy) (o : Obj) : NBox w (W.alloc o) vx vy := h.mono ((Below.refl _ _).alloc (Nat.le_refl _) _)
theorem NBox.drew {w W : World} {vx vy : Value} (h : NBox w W vx vy) : NBox w W.drew vx vy := h.mono ((Below.refl _ _).drew)
theorem NBox.set {w W : World} {vx vy : Value} (h : NBox w W vx vy) {q : Addr} (hq : w.heap.size + 1 + 1 < q.block) (u : Value) : NBox w (W.setCell q u) vx vy := by
  refine ⟨?_, ?_, ⟨?_, ?_, ?_, ?_, ?_, ?_⟩⟩
  · rw [World.cell?_setCell_other (h := by intro e; subst e; simp at hq; omega)]; exact h.x
  · rw [World.cell?_setCell_other (h := by intro e; subst e; simp at hq; omega)]; exact h.y
  · simpa [World.setCell] using h.box.lt
  · rw [World.cell?_setCell_other (h := by intro e; subst e; simp at hq)]; exact h.box.r0
  · rw [World.cell?_setCell_other (h := by intro e; subst e; simp at hq)]; exact h.box.r1
  · exact (World.frozen?_setCell _ _ _ _).trans h.box.f0
  · exact (World.frozen?_setCell _ _ _ _).trans h.box.f1
  · exact h.box.below.setCell (by omega) _
theorem Bx.alloc {W : World} {p : Nat} (h : Bx W p) (o : Obj) : Bx (W.alloc o) p := h.mono ((Below.refl _ _).alloc (Nat.le_refl _) _)
theorem Bx.set {W : World} {p : Nat} (h : Bx W p) {q : Addr} (hq : q.block ≠ p) (u : Value) : Bx (W.setCell q u) p :=
  ⟨by simpa [World.setCell] using h.lt, by rw [World.cell?_setCell_other (h := by intro e; subst e; simp at hq)]; exact h.c, (World.frozen?_setCell _ _ _ _).trans h.f⟩
theorem Bx.fresh {W : World} {p : Nat} {t : TypeId} (h : p = W.heap.size) : Bx (W.alloc (Obj.cells #[Value.slice none 0 0] t)) p := by
  subst h; exact ⟨by simp, by go_cell, by go_cell⟩
structure Bv (W : World) (p : Nat) (v : Value) : Prop where
  lt : p < W.heap.size
  c : W.cell? ⟨p, 0, none⟩ = some v
theorem Bx.put {W : World} {p : Nat} (h : Bx W p) (v : Value) : Bv (W.setCell ⟨p, 0, none⟩ v) p v := ⟨by simpa [World.setCell] using h.lt, cellSet h.c v⟩
theorem Bv.fresh {W : World} {p : Nat} {ao : Option Addr} {n c : Nat} {t : TypeId} (h : p = W.heap.size) : Bv (W.alloc (Obj.cells #[Value.slice ao n c] t)) p (Value.slice ao n c) := by
  subst h; exact ⟨by simp, by go_cell⟩
theorem Bv.alloc {W : World} {p : Nat} {v : Value} (h : Bv W p v) (o : Obj) : Bv (W.alloc o) p v :=
  ⟨by have := h.lt; simp; omega, (((Below.refl _ _).alloc (Nat.le_refl _) _).cell (p := ⟨p, 0, none⟩) h.lt).trans h.c⟩
theorem Bv.set {W : World} {p : Nat} {v : Value} (h : Bv W p v) {q : Addr} (hq : q.block ≠ p) (u : Value) : Bv (W.setCell q u) p v :=
  ⟨by simpa [World.setCell] using h.lt, by rw [World.cell?_setCell_other (h := by intro e; subst e; simp at hq)]; exact h.c⟩
theorem RowAt.alloc {W : World} {ao : Option Addr} {c : Nat} {l : List Nat} (h : RowAt W ao c l) (o : Obj) : RowAt (W.alloc o) ao c l := h.mono ((Below.refl _ _).alloc (Nat.le_refl _) _)
theorem RowAt.putB {W : World} {ao : Option Addr} {c : Nat} {l : List Nat} (h : RowAt W ao c l) {p : Nat} (hp : Bx W p) (u : Value) : RowAt (W.setCell ⟨p, 0, none⟩ u) ao c l := h.boxV (fun k => by rw [hp.c]; simp) u
theorem nb1 (a : World) (o : Obj) : Below a.heap.size a (a.alloc o) := (Below.refl _ _).alloc (Nat.le_refl _) _
theorem nb2 (a : World) (o o' : Obj) : Below a.heap.size a ((a.alloc o).alloc o') := Below.chain (nb1 a o) (nb1 _ o')
theorem bel0 {a b : World} (h : Below a.heap.size a b) : Below a.heap.size a b := h
theorem bel1 {a b : World} {o : Obj} (h : Below (a.alloc o).heap.size (a.alloc o) b) : Below a.heap.size a b := Below.chain (nb1 a o) h
theorem bel2 {a b : World} {o o' : Obj} (h : Below ((a.alloc o).alloc o').heap.size ((a.alloc o).alloc o') b) : Below a.heap.size a b := Below.chain (nb2 a o o') h
theorem bel0D {a b : World} (h : Below a.drew.heap.size a.drew b) : Below a.heap.size a b := Below.chain ((Below.refl _ _).drew) h
theorem bel1D {a b : World} {o : Obj} (h : Below (a.alloc o).drew.heap.size (a.alloc o).drew b) : Below a.heap.size a b := bel1 (bel0D h)
theorem bel2D {a b : World} {o o' : Obj} (h : Below ((a.alloc o).alloc o').drew.heap.size ((a.alloc o).alloc o').drew b) : Below a.heap.size a b := bel2 (bel0D h)
theorem Bx.one {W W' : World} {t : TypeId} (h : Below (W.alloc (Obj.cells #[Value.slice none 0 0] t)).heap.size (W.alloc (Obj.cells #[Value.slice none 0 0] t)) W') : Bx W' W.heap.size :=
  Bx.mono ⟨by simp, by go_cell, by go_cell⟩ h
theorem Bx.one' {W W' : World} {t t' : TypeId} (h : Below ((W.alloc (Obj.cells #[Value.slice none 0 0] t)).alloc (Obj.cells #[Value.slice none 0 0] t')).heap.size ((W.alloc (Obj.cells #[Value.slice none 0 0] t)).alloc (Obj.cells #[Value.slice none 0 0] t')) W') : Bx W' W.heap.size :=
  Bx.mono ⟨by simp; omega, by go_cell, by go_cell⟩ h
theorem Bx.two {W W' : World} {t t' : TypeId} (h : Below ((W.alloc (Obj.cells #[Value.slice none 0 0] t)).alloc (Obj.cells #[Value.slice none 0 0] t')).heap.size ((W.alloc (Obj.cells #[Value.slice none 0 0] t)).alloc (Obj.cells #[Value.slice none 0 0] t')) W') : Bx W' (W.heap.size + 1) :=
  Bx.mono ⟨by simp, by go_cell, by go_cell⟩ h
theorem Bx.oneD {W W' : World} {t : TypeId} (h : Below (W.alloc (Obj.cells #[Value.slice none 0 0] t)).drew.heap.size (W.alloc (Obj.cells #[Value.slice none 0 0] t)).drew W') : Bx W' W.heap.size := Bx.one (bel0D h)
theorem Bx.oneD' {W W' : World} {t t' : TypeId} (h : Below ((W.alloc (Obj.cells #[Value.slice none 0 0] t)).alloc (Obj.cells #[Value.slice none 0 0] t')).drew.heap.size ((W.alloc (Obj.cells #[Value.slice none 0 0] t)).alloc (Obj.cells #[Value.slice none 0 0] t')).drew W') : Bx W' W.heap.size := Bx.one' (bel0D h)
theorem Bx.twoD {W W' : World} {t t' : TypeId} (h : Below ((W.alloc (Obj.cells #[Value.slice none 0 0] t)).alloc (Obj.cells #[Value.slice none 0 0] t')).drew.heap.size ((W.alloc (Obj.cells #[Value.slice none 0 0] t)).alloc (Obj.cells #[Value.slice none 0 0] t')).drew W') : Bx W' (W.heap.size + 1) := Bx.two (bel0D h)
theorem up_div (x y : Nat) : (x + (if y < 1 then 1 - y else y - 1)) / y = (x + y - 1) / y := by
  by_cases h : y < 1
  · have : y = 0 := by omega
    subst this; simp
  · rw [if_neg h]; congr 1; omega
set_option maxHeartbeats 4000000 in
theorem quoOpp_any (x y : Nat) (vx vy : Value) (w : World) (hx : NumAt w vx x) (hy : NumAt w vy y) (hlx : (limbs x).length ≤ 10000000000) (hly : (limbs y).length ≤ 10000000000)
    (hl : (limbs (x + (if y < 1 then 1 - y else y - 1))).length ≤ 100000000000) (hd : (limbs (if y < 1 then 1 - y else y - 1)).length ≤ 100000000000) :
    Calls Tryz.prog 73 #[vx, vy] w fun e w' => ∃ v', e = .returned v' ∧ IntAt w' v' (-(((x + y - 1) / y : Nat) : Int)) ∧ Below w.heap.size w w' := by
  have CO : ∀ W : World, Calls Tryz.prog 75 #[.int .u64 1] W (RetN 1 W) := fun W => of_any 1 (by decide) W
  have CD : ∀ (W : World) (v : Value), Below w.heap.size w W → NumAt W v 1 → Calls Tryz.prog 74 #[vy, v] W (RetN (if y < 1 then 1 - y else y - 1) W) := fun W v hW hv => dist_any y 1 vy v W (hy.mono hW) hv (by omega) (by decide +kernel)
  have CA : ∀ (W : World) (v : Value), Below w.heap.size w W → NumAt W v (if y < 1 then 1 - y else y - 1) → Calls Tryz.prog 60 #[vx, v] W (RetN (x + (if y < 1 then 1 - y else y - 1)) W) := fun W v hW hv => add_any x _ vx v W (hx.mono hW) hv (by omega) (by omega)
  have CV : ∀ (W : World) (v : Value), Below w.heap.size w W → NumAt W v (x + (if y < 1 then 1 - y else y - 1)) → Calls Tryz.prog 72 #[v, vy] W (Divided (x + (if y < 1 then 1 - y else y - 1)) y W) := fun W v hW hv => div_any _ y v vy W hv (hy.mono hW) hl
  have P : ∀ (W : World) (v : Value), NumAt W v ((x + (if y < 1 then 1 - y else y - 1)) / y) → Calls Tryz.prog 62 #[v] W fun e w' => ∃ v', e = .returned v' ∧ IntAt w' v' (-(((x + y - 1) / y : Nat) : Int)) ∧ Below W.heap.size W w' := fun W v h => by
    have := minus_any _ v W h
    rwa [up_div] at this
  generalize (-(((x + y - 1) / y : Nat) : Int)) = z at *
  generalize x + (if y < 1 then 1 - y else y - 1) = s at *
  generalize (if y < 1 then 1 - y else y - 1) = r at *
  have KO := Lib.hid CO; have KD := Lib.hid CD; have KA := Lib.hid CA; have KV := Lib.hid CV; have HP := Lib.hid P
  obtain ⟨ao, c, rfl, -⟩ := hx
  obtain ⟨ap, d, rfl, -⟩ := hy
  clear CO CD CA CV P hlx hly hl hd
  generalize (limbs x).length = n at *
  generalize (limbs y).length = m at *
  go_enter Tryz.func73, Tryz.ntmps73
  go_wp2_with fail
  have AB : NBox w (((w.alloc (Obj.cells #[Value.slice ao n c] 71)).alloc (Obj.cells #[Value.slice ap m d] 71)).alloc (Obj.cells #[Value.bool false, Value.slice none 0 0] 73)) (Value.slice ao n c) (Value.slice ap m d) :=
    ⟨by go_cell, by go_cell, rbox_new w (Value.slice ao n c) (Value.slice ap m d) 71 71⟩
  generalize (((w.alloc (Obj.cells #[Value.slice ao n c] 71)).alloc (Obj.cells #[Value.slice ap m d] 71)).alloc (Obj.cells #[Value.bool false, Value.slice none 0 0] 73)) = W at *
  have AD := AB.mono ((Below.refl _ _).drew)
  have t1 := AD.x; have t2 := AD.y
  refine Code.wp_mono (Q := fun e a' w' => e = .normal ∧ ∃ (p5 : Nat) (a1 : Option Addr) (c1 : Nat) (s6 s7 s10 s11 s12 s13 s14 s15 s16 s17 s18 : Value), a' = ⟨#[.agg #[.slice ao n c], .agg #[.slice ap m d], .pointer (some ⟨w.heap.size, 0, none⟩), .pointer (some ⟨w.heap.size + 1, 0, none⟩), .pointer (some ⟨w.heap.size + 1 + 1, 0, none⟩), .pointer (some ⟨p5, 0, none⟩), s6, s7, .agg #[.slice ao n c], .agg #[.slice ap m d], s10, s11, s12, s13, s14, s15, s16, s17, s18], []⟩ ∧ RBox w w' (w.heap.size + 1 + 1) ∧ w'.cell? ⟨p5, 0, none⟩ = some (.slice a1 (limbs (s / y)).length c1) ∧ RowAt w' a1 c1 (limbs (s / y))) ?_ ?_
  · rintro e a' W1 ⟨rfl, p5, a1, c1, s6, s7, s10, s11, s12, s13, s14, s15, s16, s17, s18, rfl, R1, hc, hr⟩
    have P1 : ∀ W : World, Below W1.heap.size W1 W → Calls Tryz.prog 62 #[.agg #[.slice a1 (limbs (s / y)).length c1]] W fun e w' => ∃ v', e = .returned v' ∧ IntAt w' v' z ∧ Below W.heap.size W w' := fun W hW => HP.out W _ ⟨a1, c1, rfl, hr.mono hW⟩
    generalize (limbs (s / y)).length = l1 at *
    have KP := Lib.hid P1
    clear P1 HP KO KD KA KV hr t1 t2 AD AB
    go_wp2_with (go_at_call 62; refine (KP.out _ (Below.refl _ _)).mono ?_; rintro e w2 ⟨v2, rfl, hv2, hb2⟩; refine Hid.out ?_)
    have R2 := R1.mono hb2
    obtain ⟨a2, c2, rfl, hr2⟩ := hv2.open
    clear R1 hb2 hv2 hc
    have k1 := R2.r0; have k2 := R2.r1; have k3 := R2.f0; have k4 := R2.f1
    obtain ⟨hI, hS⟩ := IntAt.stored (w := w) (by omega : w.heap.size ≤ w.heap.size + 1 + 1) R2 hr2
    have q0 := hS.q0; have q1 := hS.q1; have hbF := hS.below
    have HI := Lib.hid hI
    clear hI hS hr2
    refine Lib.hid ?_
    go_wp2
    refine bodyPost_ret (v := .agg #[.bool (sgn z), .slice a2 (lenZ z) c2]) (by simp [results, Tryz.results73, go_sem, q0, q1]) rfl ?_
    exact ⟨_, rfl, HI.out, hbF⟩
  go_region_held3 (fun w' => w'.cell? ⟨w.heap.size, 0, none⟩ = some (Value.slice ao n c) ∧ w'.cell? ⟨w.heap.size + 1, 0, none⟩ = some (Value.slice ap m d)) (with_reducible refine NBox.keep (w := w) ?_; repeat' first | (with_reducible exact A4) | (with_reducible exact A3) | (with_reducible exact A2) | (with_reducible exact A1) | (with_reducible exact AB) | (with_reducible refine NBox.set ?_ ?_ _) | (with_reducible refine NBox.alloc ?_ _) | (with_reducible refine NBox.drew ?_) | exact z4 | exact z3 | exact z2 | exact z1 | exact AB.box.lt | exact Nat.lt_succ_of_lt z4 | exact Nat.lt_succ_of_lt z3 | exact Nat.lt_succ_of_lt z2 | exact Nat.lt_succ_of_lt z1 | exact Nat.lt_succ_of_lt AB.box.lt | (dsimp only; omega)) (first
    | (go_at_call 75; refine (KO.out _).mono ?_; rintro e w1 ⟨v1, rfl, hv1, hb1⟩; (first | (with_reducible have hV1 := bel0D (a := W) hb1) | (with_reducible have hV1 := bel1D (a := W) hb1) | (with_reducible have hV1 := bel2D (a := W) hb1)); (try ((with_reducible have b11 := Bx.oneD (W := W) hb1); have l11 := b11.lt; have c11 := b11.c; have f11 := b11.f)); (try ((with_reducible have b11 := Bx.oneD' (W := W) hb1); have b12 := Bx.twoD (W := W) hb1; have l11 := b11.lt; have c11 := b11.c; have f11 := b11.f; have l12 := b12.lt; have c12 := b12.c; have f12 := b12.f)); have A1 := AB.mono hV1; have z1 := A1.box.lt)
    | (go_at_call 74; (first | with_reducible refine (KD.out _ _ (A1.mono (Below.refl _ _)).box.below (hv1.mono (Below.refl _ _))).mono ?_ | with_reducible refine (KD.out _ _ (A1.mono (nb1 _ _)).box.below (hv1.mono (nb1 _ _))).mono ?_ | with_reducible refine (KD.out _ _ (A1.mono (nb2 _ _ _)).box.below (hv1.mono (nb2 _ _ _))).mono ?_); rintro e w2 ⟨v2, rfl, hv2, hb2⟩; (first | (with_reducible have hV2 := bel0 (a := w1) hb2) | (with_reducible have hV2 := bel1 (a := w1) hb2) | (with_reducible have hV2 := bel2 (a := w1) hb2)); (try (have b11 := b11.mono hV2; have l11 := b11.lt; have c11 := b11.c; have f11 := b11.f)); (try (have b12 := b12.mono hV2; have l12 := b12.lt; have c12 := b12.c; have f12 := b12.f)); (try ((with_reducible have b21 := Bx.one (W := w1) hb2); have l21 := b21.lt; have c21 := b21.c; have f21 := b21.f)); (try ((with_reducible have b21 := Bx.one' (W := w1) hb2); have b22 := Bx.two (W := w1) hb2; have l21 := b21.lt; have c21 := b21.c; have f21 := b21.f; have l22 := b22.lt; have c22 := b22.c; have f22 := b22.f)); have A2 := A1.mono hV2; have z2 := A2.box.lt)
    | (go_at_call 60; (first | with_reducible refine (KA.out _ _ (A2.mono (Below.refl _ _)).box.below (hv2.mono (Below.refl _ _))).mono ?_ | with_reducible refine (KA.out _ _ (A2.mono (nb1 _ _)).box.below (hv2.mono (nb1 _ _))).mono ?_ | with_reducible refine (KA.out _ _ (A2.mono (nb2 _ _ _)).box.below (hv2.mono (nb2 _ _ _))).mono ?_); rintro e w3 ⟨v3, rfl, hv3, hb3⟩; (first | (with_reducible have hV3 := bel0 (a := w2) hb3) | (with_reducible have hV3 := bel1 (a := w2) hb3) | (with_reducible have hV3 := bel2 (a := w2) hb3)); (try (have b11 := b11.mono hV3; have l11 := b11.lt; have c11 := b11.c; have f11 := b11.f)); (try (have b12 := b12.mono hV3; have l12 := b12.lt; have c12 := b12.c; have f12 := b12.f)); (try (have b21 := b21.mono hV3; have l21 := b21.lt; have c21 := b21.c; have f21 := b21.f)); (try (have b22 := b22.mono hV3; have l22 := b22.lt; have c22 := b22.c; have f22 := b22.f)); (try ((with_reducible have b31 := Bx.one (W := w2) hb3); have l31 := b31.lt; have c31 := b31.c; have f31 := b31.f)); (try ((with_reducible have b31 := Bx.one' (W := w2) hb3); have b32 := Bx.two (W := w2) hb3; have l31 := b31.lt; have c31 := b31.c; have f31 := b31.f; have l32 := b32.lt; have c32 := b32.c; have f32 := b32.f)); have A3 := A2.mono hV3; have z3 := A3.box.lt)
    | (go_at_call 72; (first | with_reducible refine (KV.out _ _ (A3.mono (Below.refl _ _)).box.below (hv3.mono (Below.refl _ _))).mono ?_ | with_reducible refine (KV.out _ _ (A3.mono (nb1 _ _)).box.below (hv3.mono (nb1 _ _))).mono ?_ | with_reducible refine (KV.out _ _ (A3.mono (nb2 _ _ _)).box.below (hv3.mono (nb2 _ _ _))).mono ?_); rintro e w4 ⟨v4, v5, rfl, hv4, hv5, hb4⟩; (first | (with_reducible have hV4 := bel0 (a := w3) hb4) | (with_reducible have hV4 := bel1 (a := w3) hb4) | (with_reducible have hV4 := bel2 (a := w3) hb4)); (try (have b11 := b11.mono hV4; have l11 := b11.lt; have c11 := b11.c; have f11 := b11.f)); (try (have b12 := b12.mono hV4; have l12 := b12.lt; have c12 := b12.c; have f12 := b12.f)); (try (have b21 := b21.mono hV4; have l21 := b21.lt; have c21 := b21.c; have f21 := b21.f)); (try (have b22 := b22.mono hV4; have l22 := b22.lt; have c22 := b22.c; have f22 := b22.f)); (try (have b31 := b31.mono hV4; have l31 := b31.lt; have c31 := b31.c; have f31 := b31.f)); (try (have b32 := b32.mono hV4; have l32 := b32.lt; have c32 := b32.c; have f32 := b32.f)); (try ((with_reducible have b41 := Bx.one (W := w3) hb4); have l41 := b41.lt; have c41 := b41.c; have f41 := b41.f)); (try ((with_reducible have b41 := Bx.one' (W := w3) hb4); have b42 := Bx.two (W := w3) hb4; have l41 := b41.lt; have c41 := b41.c; have f41 := b41.f; have l42 := b42.lt; have c42 := b42.c; have f42 := b42.f)); have A4 := A3.mono hV4; have z4 := A4.box.lt; obtain ⟨a1, c1, rfl, hr4⟩ := hv4; obtain ⟨a2, c2, rfl, -⟩ := hv5))
  all_goals
    refine ⟨rfl, _, a1, c1, _, _, _, _, _, _, _, _, _, _, _, rfl, NBox.box (vx := Value.slice ao n c) (vy := Value.slice ap m d) ?_, Bv.c ?_, ?_⟩
  all_goals
    repeat' first | (with_reducible exact A4) | (with_reducible exact hr4) | (with_reducible assumption) | (with_reducible refine NBox.set ?_ ?_ _) | (with_reducible refine NBox.alloc ?_ _) | (with_reducible refine Bx.put ?_ _) | (with_reducible refine Bv.fresh ?_; simp; done) | (with_reducible refine Bv.set ?_ ?_ _) | (with_reducible refine Bv.alloc ?_ _) | (with_reducible refine RowAt.putB ?_ ?_ _) | (with_reducible refine RowAt.alloc ?_ _) | (with_reducible refine Bx.fresh ?_) | (with_reducible refine Bx.set ?_ ?_ _) | (with_reducible refine Bx.alloc ?_ _) | exact z4 | exact z3 | exact z2 | exact z1 | exact AB.box.lt | exact Nat.lt_succ_of_lt z4 | exact Nat.lt_succ_of_lt z3 | exact Nat.lt_succ_of_lt z2 | exact Nat.lt_succ_of_lt z1 | exact Nat.lt_succ_of_lt AB.box.lt | (simp; done) | (dsimp only; omega)
end Go.Proofs.YtmnbjkbkjmgmkaaGreatDoor
