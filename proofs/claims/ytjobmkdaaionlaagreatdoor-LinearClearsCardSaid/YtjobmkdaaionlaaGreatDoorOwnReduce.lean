import Derived.Deep.RegionHeld3
import Derived.Deep.CutRange
import Derived.Deep.Cut
import Derived.Test.YtjobmkdaaionlaaGreatDoorCut17
import Derived.Test.YtjobmkdaaionlaaGreatDoorOwnDiv

set_option linter.unusedVariables false
/-
  natural: reduce (one round of Lehmer's algorithm).
-/
namespace Go.Proofs.YtjobmkdaaionlaaGreatDoor
open Go Go.Proofs Go.RowKit
structure RB (w W : World) (vx vy : Value) : Prop where
  lt : w.heap.size + 1 + 1 + 1 < W.heap.size
  x : W.cell? ⟨w.heap.size, 0, none⟩ = some vx
  y : W.cell? ⟨w.heap.size + 1, 0, none⟩ = some vy
  r1 : W.cell? ⟨w.heap.size + 1 + 1, 0, none⟩ = some (.slice none 0 0)
  r2 : W.cell? ⟨w.heap.size + 1 + 1 + 1, 0, none⟩ = some (.slice none 0 0)
  f1 : W.frozen? ⟨w.heap.size + 1 + 1, 0, none⟩ = false
  f2 : W.frozen? ⟨w.heap.size + 1 + 1 + 1, 0, none⟩ = false
  below : Below w.heap.size w W
theorem RB.mono {w W W' : World} {vx vy : Value} (h : RB w W vx vy) (k : Below W.heap.size W W') : RB w W' vx vy := by
  have hl := h.lt
  exact ⟨Nat.lt_of_lt_of_le h.lt k.size, (k.cell (p := ⟨w.heap.size, 0, none⟩) (by simp; omega)).trans h.x, (k.cell (p := ⟨w.heap.size + 1, 0, none⟩) (by simp; omega)).trans h.y,
    (k.cell (p := ⟨w.heap.size + 1 + 1, 0, none⟩) (by simp; omega)).trans h.r1, (k.cell (p := ⟨w.heap.size + 1 + 1 + 1, 0, none⟩) (by simp; omega)).trans h.r2,
    (k.frozen (p := ⟨w.heap.size + 1 + 1, 0, none⟩) (by simp; omega)).trans h.f1, (k.frozen (p := ⟨w.heap.size + 1 + 1 + 1, 0, none⟩) (by simp; omega)).trans h.f2, Below.chain h.below k⟩
theorem RB.keep {w W : World} {vx vy : Value} (h : RB w W vx vy) : W.cell? ⟨w.heap.size, 0, none⟩ = some vx ∧ W.cell? ⟨w.heap.size + 1, 0, none⟩ = some vy := ⟨h.x, h.y⟩
theorem RB.set {w W : World} {vx vy : Value} (h : RB w W vx vy) {q : Addr} (hq : w.heap.size + 1 + 1 + 1 < q.block) (u : Value) : RB w (W.setCell q u) vx vy := by
  refine ⟨by simpa [World.setCell] using h.lt, ?_, ?_, ?_, ?_, (World.frozen?_setCell _ _ _ _).trans h.f1, (World.frozen?_setCell _ _ _ _).trans h.f2, h.below.setCell (by omega) _⟩
  · rw [World.cell?_setCell_other (h := by intro e; subst e; simp at hq; omega)]; exact h.x
  · rw [World.cell?_setCell_other (h := by intro e; subst e; simp at hq; omega)]; exact h.y
  · rw [World.cell?_setCell_other (h := by intro e; subst e; simp at hq; omega)]; exact h.r1
  · rw [World.cell?_setCell_other (h := by intro e; subst e; simp at hq)]; exact h.r2
theorem RB.alloc {w W : World} {vx vy : Value} (h : RB w W vx vy) (o : Obj) : RB w (W.alloc o) vx vy := h.mono ((Below.refl _ _).alloc (Nat.le_refl _) _)
theorem RB.drew {w W : World} {vx vy : Value} (h : RB w W vx vy) : RB w W.drew vx vy := h.mono ((Below.refl _ _).drew)
structure S4 (W : World) (p : Nat) (a b c d : Int) : Prop where
  lt : p < W.heap.size
  s0 : W.cell? ⟨p, 0, none⟩ = some (.int .i64 a)
  s1 : W.cell? ⟨p, 1, none⟩ = some (.int .i64 b)
  s2 : W.cell? ⟨p, 2, none⟩ = some (.int .i64 c)
  s3 : W.cell? ⟨p, 3, none⟩ = some (.int .i64 d)
  f0 : W.frozen? ⟨p, 0, none⟩ = false
  f1 : W.frozen? ⟨p, 1, none⟩ = false
  f2 : W.frozen? ⟨p, 2, none⟩ = false
  f3 : W.frozen? ⟨p, 3, none⟩ = false
theorem S4.mono {W W' : World} {p : Nat} {a b c d : Int} (h : S4 W p a b c d) (k : Below W.heap.size W W') : S4 W' p a b c d :=
  ⟨Nat.lt_of_lt_of_le h.lt k.size, (k.cell (p := ⟨p, 0, none⟩) h.lt).trans h.s0, (k.cell (p := ⟨p, 1, none⟩) h.lt).trans h.s1, (k.cell (p := ⟨p, 2, none⟩) h.lt).trans h.s2, (k.cell (p := ⟨p, 3, none⟩) h.lt).trans h.s3,
    (k.frozen (p := ⟨p, 0, none⟩) h.lt).trans h.f0, (k.frozen (p := ⟨p, 1, none⟩) h.lt).trans h.f1, (k.frozen (p := ⟨p, 2, none⟩) h.lt).trans h.f2, (k.frozen (p := ⟨p, 3, none⟩) h.lt).trans h.f3⟩
theorem S4.fresh {W : World} {p : Nat} {t : TypeId} {a b c d : Int} (h : p = W.heap.size) : S4 (W.alloc (Obj.cells #[.int .i64 a, .int .i64 b, .int .i64 c, .int .i64 d] t)) p a b c d := by
  subst h; exact ⟨by simp, by go_cell, by go_cell, by go_cell, by go_cell, by go_cell, by go_cell, by go_cell, by go_cell⟩
theorem S4.put {W : World} {p : Nat} {a b c d : Int} (h : S4 W p a b c d) (a' b' c' d' : Int) : S4 ((((W.setCell ⟨p, 0, none⟩ (.int .i64 a')).setCell ⟨p, 1, none⟩ (.int .i64 b')).setCell ⟨p, 2, none⟩ (.int .i64 c')).setCell ⟨p, 3, none⟩ (.int .i64 d')) p a' b' c' d' := by
  refine ⟨by simpa [World.setCell] using h.lt, ?_, ?_, ?_, ?_, ?_, ?_, ?_, ?_⟩
  · rw [World.cell?_setCell_other (h := by simp), World.cell?_setCell_other (h := by simp), World.cell?_setCell_other (h := by simp)]; exact cellSet h.s0 _
  · rw [World.cell?_setCell_other (h := by simp), World.cell?_setCell_other (h := by simp)]; exact cellSet (u := .int .i64 b) (by rw [World.cell?_setCell_other (h := by simp)]; exact h.s1) _
  · rw [World.cell?_setCell_other (h := by simp)]; exact cellSet (u := .int .i64 c) (by rw [World.cell?_setCell_other (h := by simp), World.cell?_setCell_other (h := by simp)]; exact h.s2) _
  · exact cellSet (u := .int .i64 d) (by rw [World.cell?_setCell_other (h := by simp), World.cell?_setCell_other (h := by simp), World.cell?_setCell_other (h := by simp)]; exact h.s3) _
  · simp only [World.frozen?_setCell]; exact h.f0
  · simp only [World.frozen?_setCell]; exact h.f1
  · simp only [World.frozen?_setCell]; exact h.f2
  · simp only [World.frozen?_setCell]; exact h.f3
theorem rb1 (a : World) (o : Obj) : Below a.heap.size a (a.alloc o) := (Below.refl _ _).alloc (Nat.le_refl _) _
theorem blw0 {a b : World} (h : Below a.heap.size a b) : Below a.heap.size a b := h
theorem blw1 {a b : World} {o : Obj} (h : Below (a.alloc o).heap.size (a.alloc o) b) : Below a.heap.size a b := Below.chain (rb1 a o) h
theorem s4_one {W W' : World} {t : TypeId} (h : Below (W.alloc (Obj.cells #[.int .i64 0, .int .i64 0, .int .i64 0, .int .i64 0] t)).heap.size (W.alloc (Obj.cells #[.int .i64 0, .int .i64 0, .int .i64 0, .int .i64 0] t)) W') : S4 W' W.heap.size 0 0 0 0 := (S4.fresh rfl).mono h
theorem s4_oneD {W W' : World} {t : TypeId} (h : Below (W.alloc (Obj.cells #[.int .i64 0, .int .i64 0, .int .i64 0, .int .i64 0] t)).drew.heap.size (W.alloc (Obj.cells #[.int .i64 0, .int .i64 0, .int .i64 0, .int .i64 0] t)).drew W') : S4 W' W.heap.size 0 0 0 0 := ((S4.fresh rfl).mono ((Below.refl _ _).drew)).mono h
theorem S4.set {W : World} {p : Nat} {a b c d : Int} (h : S4 W p a b c d) {q : Addr} (hq : q.block ≠ p) (u : Value) : S4 (W.setCell q u) p a b c d := by
  refine ⟨by simpa [World.setCell] using h.lt, ?_, ?_, ?_, ?_, (World.frozen?_setCell _ _ _ _).trans h.f0, (World.frozen?_setCell _ _ _ _).trans h.f1, (World.frozen?_setCell _ _ _ _).trans h.f2, (World.frozen?_setCell _ _ _ _).trans h.f3⟩
  · rw [World.cell?_setCell_other (h := by intro e; subst e; exact hq rfl)]; exact h.s0
  · rw [World.cell?_setCell_other (h := by intro e; subst e; exact hq rfl)]; exact h.s1
  · rw [World.cell?_setCell_other (h := by intro e; subst e; exact hq rfl)]; exact h.s2
  · rw [World.cell?_setCell_other (h := by intro e; subst e; exact hq rfl)]; exact h.s3
structure RS (B w W : World) (vx vy : Value) (p : Nat) (a b c d : Int) (o1 : Option Addr) (n1 c1 : Nat) (o2 : Option Addr) (n2 c2 : Nat) : Prop where
  lt : w.heap.size + 1 + 1 + 1 < W.heap.size
  x : W.cell? ⟨w.heap.size, 0, none⟩ = some vx
  y : W.cell? ⟨w.heap.size + 1, 0, none⟩ = some vy
  r1 : W.cell? ⟨w.heap.size + 1 + 1, 0, none⟩ = some (.slice o1 n1 c1)
  r2 : W.cell? ⟨w.heap.size + 1 + 1 + 1, 0, none⟩ = some (.slice o2 n2 c2)
  f1 : W.frozen? ⟨w.heap.size + 1 + 1, 0, none⟩ = false
  f2 : W.frozen? ⟨w.heap.size + 1 + 1 + 1, 0, none⟩ = false
  below : Below w.heap.size w W
  s : S4 W p a b c d
  keep : ∀ ao k l, RowAt B ao k l → RowAt W ao k l
section
variable {B w W W' : World} {vx vy : Value} {p : Nat} {a b c d : Int} {o1 : Option Addr} {n1 c1 : Nat} {o2 : Option Addr} {n2 c2 : Nat}
theorem RS.of (h : RB w W vx vy) (s : S4 W p a b c d) : RS W w W vx vy p a b c d none 0 0 none 0 0 :=
  ⟨h.lt, h.x, h.y, h.r1, h.r2, h.f1, h.f2, h.below, s, fun _ _ _ h => h⟩
theorem RS.mono (h : RS B w W vx vy p a b c d o1 n1 c1 o2 n2 c2) (k : Below W.heap.size W W') : RS B w W' vx vy p a b c d o1 n1 c1 o2 n2 c2 := by
  have hl := h.lt
  exact ⟨Nat.lt_of_lt_of_le h.lt k.size, (k.cell (p := ⟨w.heap.size, 0, none⟩) (by simp; omega)).trans h.x, (k.cell (p := ⟨w.heap.size + 1, 0, none⟩) (by simp; omega)).trans h.y,
    (k.cell (p := ⟨w.heap.size + 1 + 1, 0, none⟩) (by simp; omega)).trans h.r1, (k.cell (p := ⟨w.heap.size + 1 + 1 + 1, 0, none⟩) (by simp; omega)).trans h.r2,
    (k.frozen (p := ⟨w.heap.size + 1 + 1, 0, none⟩) (by simp; omega)).trans h.f1, (k.frozen (p := ⟨w.heap.size + 1 + 1 + 1, 0, none⟩) (by simp; omega)).trans h.f2, Below.chain h.below k, h.s.mono k, fun _ _ _ r => (h.keep _ _ _ r).mono k⟩
theorem RS.rebase (h : RS B w W vx vy p a b c d o1 n1 c1 o2 n2 c2) : RS W w W vx vy p a b c d o1 n1 c1 o2 n2 c2 :=
  ⟨h.lt, h.x, h.y, h.r1, h.r2, h.f1, h.f2, h.below, h.s, fun _ _ _ h => h⟩
theorem RS.setR1 (h : RS B w W vx vy p a b c d o1 n1 c1 o2 n2 c2) (o : Option Addr) (n k : Nat) : RS B w (W.setCell ⟨w.heap.size + 1 + 1, 0, none⟩ (.slice o n k)) vx vy p a b c d o n k o2 n2 c2 := by
  have hp : (⟨w.heap.size + 1 + 1, 0, none⟩ : Addr).block ≠ p := fun e => by
    have h1 := h.r1; have h2 := h.s.s0; simp only at e; rw [← e, h1] at h2; cases h2
  refine ⟨by simpa [World.setCell] using h.lt, ?_, ?_, cellSet h.r1 _, ?_, (World.frozen?_setCell _ _ _ _).trans h.f1, (World.frozen?_setCell _ _ _ _).trans h.f2, h.below.setCell (by simp <;> omega) _, h.s.set hp _, fun _ _ _ r => (h.keep _ _ _ r).box h.r1 _⟩
  · rw [World.cell?_setCell_other (h := by intro e; simp at e <;> omega)]; exact h.x
  · rw [World.cell?_setCell_other (h := by intro e; simp at e)]; exact h.y
  · rw [World.cell?_setCell_other (h := by intro e; simp at e)]; exact h.r2
theorem RS.setR2 (h : RS B w W vx vy p a b c d o1 n1 c1 o2 n2 c2) (o : Option Addr) (n k : Nat) : RS B w (W.setCell ⟨w.heap.size + 1 + 1 + 1, 0, none⟩ (.slice o n k)) vx vy p a b c d o1 n1 c1 o n k := by
  have hp : (⟨w.heap.size + 1 + 1 + 1, 0, none⟩ : Addr).block ≠ p := fun e => by
    have h1 := h.r2; have h2 := h.s.s0; simp only at e; rw [← e, h1] at h2; cases h2
  refine ⟨by simpa [World.setCell] using h.lt, ?_, ?_, ?_, cellSet h.r2 _, (World.frozen?_setCell _ _ _ _).trans h.f1, (World.frozen?_setCell _ _ _ _).trans h.f2, h.below.setCell (by simp <;> omega) _, h.s.set hp _, fun _ _ _ r => (h.keep _ _ _ r).box h.r2 _⟩
  · rw [World.cell?_setCell_other (h := by intro e; simp at e <;> omega)]; exact h.x
  · rw [World.cell?_setCell_other (h := by intro e; simp at e <;> omega)]; exact h.y
  · rw [World.cell?_setCell_other (h := by intro e; simp at e)]; exact h.r1
theorem RS.hold (h : RS B w W vx vy p a b c d o1 n1 c1 o2 n2 c2) : W.cell? ⟨w.heap.size, 0, none⟩ = some vx ∧ W.cell? ⟨w.heap.size + 1, 0, none⟩ = some vy ∧ W.cell? ⟨p, 0, none⟩ = some (.int .i64 a) ∧ W.cell? ⟨p, 1, none⟩ = some (.int .i64 b) ∧ W.cell? ⟨p, 2, none⟩ = some (.int .i64 c) ∧ W.cell? ⟨p, 3, none⟩ = some (.int .i64 d) :=
  ⟨h.x, h.y, h.s.s0, h.s.s1, h.s.s2, h.s.s3⟩
end
theorem gcd_of_iff {Z1 Z2 x y : Nat} (h : ∀ g : Int, (g ∣ (Z1 : Int) ∧ g ∣ (Z2 : Int)) ↔ (g ∣ (x : Int) ∧ g ∣ (y : Int))) : Nat.gcd Z1 Z2 = Nat.gcd x y := by
  refine Nat.dvd_antisymm ?_ ?_
  · have := (h (Nat.gcd Z1 Z2 : Nat)).1 ⟨Int.natCast_dvd_natCast.2 (Nat.gcd_dvd_left _ _), Int.natCast_dvd_natCast.2 (Nat.gcd_dvd_right _ _)⟩
    exact Nat.dvd_gcd (Int.natCast_dvd_natCast.1 this.1) (Int.natCast_dvd_natCast.1 this.2)
  · have := (h (Nat.gcd x y : Nat)).2 ⟨Int.natCast_dvd_natCast.2 (Nat.gcd_dvd_left _ _), Int.natCast_dvd_natCast.2 (Nat.gcd_dvd_right _ _)⟩
    exact Nat.dvd_gcd (Int.natCast_dvd_natCast.1 this.1) (Int.natCast_dvd_natCast.1 this.2)
def RedRet (x y : Nat) (w : World) (e : Ending) (w' : World) : Prop :=
  ∃ (v1 v2 : Value) (x' y' : Nat), e = .returned (.tuple #[v1, v2]) ∧ NumAt w' v1 x' ∧ NumAt w' v2 y' ∧ y' < y ∧ y' ≤ x' ∧ x' ≤ x ∧ Nat.gcd x' y' = Nat.gcd x y ∧ Below w.heap.size w w'
theorem red_fin {x y Z1 Z2 : Nat} {B w W : World} {vx vy : Value} {p : Nat} {a b c d : Int} {o1 : Option Addr} {c1 : Nat} {o2 : Option Addr} {c2 : Nat}
    (h : RS B w W vx vy p a b c d o1 (limbs Z1).length c1 o2 (limbs Z2).length c2) (k1 : RowAt B o1 c1 (limbs Z1)) (k2 : RowAt B o2 c2 (limbs Z2)) (h1 : Z2 < y) (h2 : Z2 ≤ Z1) (h3 : Z1 ≤ x) (h4 : Nat.gcd Z1 Z2 = Nat.gcd x y) :
    RedRet x y w (.returned (.tuple #[.agg #[.slice o1 (limbs Z1).length c1], .agg #[.slice o2 (limbs Z2).length c2]])) W :=
  ⟨_, _, Z1, Z2, rfl, ⟨_, _, rfl, h.keep _ _ _ k1⟩, ⟨_, _, rfl, h.keep _ _ _ k2⟩, h1, h2, h3, h4, h.below⟩
set_option maxRecDepth 20000 in
set_option maxHeartbeats 1500000 in
theorem reduce_any (x y : Nat) (vx vy : Value) (w : World) (hx : NumAt w vx x) (hy : NumAt w vy y) (hyx : y ≤ x) (h3 : 2 < (limbs y).length) (hbig : (limbs x).length ≤ 10000000000) :
    Calls Tryz.prog 195 #[vx, vy] w (RedRet x y w) := by
  have hlyx := limbs_length_mono hyx
  have hy0 : y ≠ 0 := fun e => by rw [e, limbs_zero] at h3; simp at h3
  obtain ⟨m, hm⟩ : ∃ m : Nat, m = (limbs x).length := ⟨_, rfl⟩
  have L1 : ∀ W : World, Below w.heap.size w W → Calls Tryz.prog 213 #[vx, .int .i64 m] W fun e w' => e = .returned (.int .i64 ((x / 1000000000 ^ (m - 2) : Nat) : Int)) ∧ Below W.heap.size W w' := fun W hW => leading_any x m vx W (hx.mono hW) (by omega) (by omega) (by omega) (by omega)
  have L2 : ∀ W : World, Below w.heap.size w W → Calls Tryz.prog 213 #[vy, .int .i64 m] W fun e w' => e = .returned (.int .i64 ((y / 1000000000 ^ (m - 2) : Nat) : Int)) ∧ Below W.heap.size W w' := fun W hW => leading_any y m vy W (hy.mono hW) hy0 (by omega) (by omega) (by omega)
  have hxq : x / 1000000000 ^ (m - 2) < 1000000000000000000 := by
    refine Nat.div_lt_of_lt_mul ?_
    have h1 := lt_pow_limbs x
    rw [← hm, show m = (m - 2) + 2 by omega, Nat.pow_add] at h1
    have e : m - 2 + 2 - 2 = m - 2 := by omega
    simpa [e] using h1
  have hyq : y / 1000000000 ^ (m - 2) ≤ x / 1000000000 ^ (m - 2) := Nat.div_le_div_right hyx
  have ST : ∀ W : World, Calls Tryz.prog 212 #[.int .i64 ((x / 1000000000 ^ (m - 2) : Nat) : Int), .int .i64 ((y / 1000000000 ^ (m - 2) : Nat) : Int)] W (StepsRet ((x / 1000000000 ^ (m - 2) : Nat) : Int) ((y / 1000000000 ^ (m - 2) : Nat) : Int) W) := fun W => stepsOf_any _ _ W (Int.natCast_nonneg _) (Int.ofNat_le.2 hyq) (by omega)
  have DV0 : ∀ W : World, Below w.heap.size w W → Calls Tryz.prog 175 #[vx, vy] W (Divided x y W) := fun W hW => div_any x y vx vy W (hx.mono hW) (hy.mono hW) (by omega)
  have CB : ∀ (a b : Int) (Z : Nat) (W : World), -1000000000 < a → a < 1000000000 → -1000000000 < b → b < 1000000000 → (Z : Int) = a * (x : Nat) + b * (y : Nat) → Z ≤ x → Below w.heap.size w W → Calls Tryz.prog 214 #[.int .i64 a, vx, .int .i64 b, vy] W (RetN Z W) := fun a b Z W a1 a2 b1 b2 hZ hle hW => combine_any x y Z a b vx vy W (hx.mono hW) (hy.mono hW) (by omega) (by omega) a1 a2 b1 b2 hZ hle
  have hsplit : ∀ z : Nat, (z : Int) = ((z / 1000000000 ^ (m - 2) : Nat) : Int) * ((1000000000 ^ (m - 2) : Nat) : Int) + ((z % 1000000000 ^ (m - 2) : Nat) : Int) := fun z => by
    have := Nat.div_add_mod z (1000000000 ^ (m - 2))
    rw [← Int.natCast_mul, ← Int.natCast_add, Nat.mul_comm, this]
  have hP : 0 < 1000000000 ^ (m - 2) := Nat.pow_pos (by decide)
  have hmx := Nat.mod_lt x hP; have hmy := Nat.mod_lt y hP
  have sx := hsplit x; have sy := hsplit y
  have TS : ∀ (a b c d : Int) (f : Bool), TrueStep ((x / 1000000000 ^ (m - 2) : Nat) : Int) ((y / 1000000000 ^ (m - 2) : Nat) : Int) a b c d f →
      (0 ≤ c * (x : Nat) + d * (y : Nat)) ∧ (f = false → c * (x : Nat) + d * (y : Nat) < a * (x : Nat) + b * (y : Nat) ∧ a * (x : Nat) + b * (y : Nat) ≤ (y : Nat)) ∧ (∀ g : Int, (g ∣ a * (x : Nat) + b * (y : Nat) ∧ g ∣ c * (x : Nat) + d * (y : Nat)) ↔ (g ∣ (x : Nat) ∧ g ∣ (y : Nat))) := fun a b c d f h => by
    have := h ((1000000000 ^ (m - 2) : Nat) : Int) ((x % 1000000000 ^ (m - 2) : Nat) : Int) ((y % 1000000000 ^ (m - 2) : Nat) : Int) (by omega) (by omega) (by omega) (by omega) (by omega) (by rw [← sx, ← sy]; omega)
    rw [← sx, ← sy] at this
    exact ⟨this.1, this.2.2.1, this.2.2.2⟩
  have hyrow := hy
  obtain ⟨ao, c0, rfl, -⟩ := hx
  obtain ⟨ap, d0, rfl, -⟩ := hy
  rw [← hm] at L1 DV0 CB ⊢
  have KL1 := Lib.hid L1; have KL2 := Lib.hid L2; have KST := Lib.hid ST; have KDV := Lib.hid DV0; have KCB := Lib.hid CB; have KTS := Lib.hid TS; have HYR := Lib.hid hyrow
  clear L1 L2 ST DV0 CB TS hyrow hsplit hP hmx hmy sx sy hxq hyq
  generalize ((x / 1000000000 ^ (m - 2) : Nat) : Int) = xl at *
  generalize ((y / 1000000000 ^ (m - 2) : Nat) : Int) = yl at *
  have HMM := Lib.hid hm
  clear hm
  generalize hny : (limbs y).length = ny at *
  have HNY := Lib.hid hny; clear hny
  have HARITH := Lib.hid (And.intro hyx (And.intro h3 (And.intro hbig (And.intro hlyx hy0))))
  clear hyx h3 hbig hlyx hy0
  go_enter Tryz.func195, Tryz.ntmps195
  go_wp2_with fail
  have R0 : RB w ((((w.alloc (Obj.cells #[Value.slice ao m c0] 173)).alloc (Obj.cells #[Value.slice ap ny d0] 173)).alloc (Obj.cells #[Value.slice none 0 0] 173)).alloc (Obj.cells #[Value.slice none 0 0] 173)) (Value.slice ao m c0) (Value.slice ap ny d0) :=
    ⟨by simp, by go_cell, by go_cell, by go_cell, by go_cell, by go_cell, by go_cell, by go_grown⟩
  generalize ((((w.alloc (Obj.cells #[Value.slice ao m c0] 173)).alloc (Obj.cells #[Value.slice ap ny d0] 173)).alloc (Obj.cells #[Value.slice none 0 0] 173)).alloc (Obj.cells #[Value.slice none 0 0] 173)) = W at *
  have AD := R0.mono ((Below.refl _ _).drew)
  have t1 := AD.x; have t2 := AD.y
  go_upto_region 2 with fail
  go_cut [6] from 9 (fun s6 wx => ∃ (p : Nat) (a b c d xx yy : Int) (f : Bool), s6 = .pointer (some ⟨p, 0, none⟩) ∧ StepInv xl yl a b c d xx yy f ∧ RB w wx (Value.slice ao m c0) (Value.slice ap ny d0) ∧ S4 wx p a b c d)
  case first =>
    go_region_held3 (fun w' => w'.cell? ⟨w.heap.size, 0, none⟩ = some (Value.slice ao m c0) ∧ w'.cell? ⟨w.heap.size + 1, 0, none⟩ = some (Value.slice ap ny d0)) (with_reducible refine RB.keep (w := w) (vx := Value.slice ao m c0) (vy := Value.slice ap ny d0) ?_; repeat' first | (with_reducible exact A3) | (with_reducible exact A2) | (with_reducible exact A1) | (with_reducible exact AD) | (with_reducible refine RB.set ?_ ?_ _) | (with_reducible refine RB.alloc ?_ _) | (with_reducible refine RB.drew ?_) | (with_reducible exact R0) | exact R0.lt | exact AD.lt | exact A1.lt | exact A2.lt | exact A3.lt | (trace_state; fail)) (first
      | (go_at_call_of 213 (Value.agg #[Value.slice ao m c0]); (first | with_reducible refine (KL1.out _ AD.below).mono ?_ | with_reducible refine (KL1.out _ ((R0.alloc _).drew).below).mono ?_); rintro e w1 ⟨rfl, hb1⟩; (first | (with_reducible have A1 := AD.mono hb1) | (with_reducible have A1 := ((R0.alloc _).drew).mono hb1)); (try (with_reducible have z1 := s4_oneD (W := W) hb1)))
      | (go_at_call 212; refine (KST.out _).mono ?_; rintro e w3 ⟨a, b, c, d, xx, yy, f, rfl, hst, hb3⟩; (first | (with_reducible have A3 := A2.mono (blw0 hb3)) | (with_reducible have A3 := A2.mono (blw1 hb3))); (try ((with_reducible have zz := s4_one (W := w2) hb3); have q0 := zz.s0; have q1 := zz.s1; have q2 := zz.s2; have q3 := zz.s3; have p0 := zz.f0; have p1 := zz.f1; have p2 := zz.f2; have p3 := zz.f3; have pl := zz.lt)); (try ((with_reducible have zz := z2.mono hb3); have q0 := zz.s0; have q1 := zz.s1; have q2 := zz.s2; have q3 := zz.s3; have p0 := zz.f0; have p1 := zz.f1; have p2 := zz.f2; have p3 := zz.f3; have pl := zz.lt)); (try ((with_reducible have zz := (z1.mono hb2).mono hb3); have q0 := zz.s0; have q1 := zz.s1; have q2 := zz.s2; have q3 := zz.s3; have p0 := zz.f0; have p1 := zz.f1; have p2 := zz.f2; have p3 := zz.f3; have pl := zz.lt)))
      | (go_at_call 213; (first | with_reducible refine (KL2.out _ A1.below).mono ?_ | with_reducible refine (KL2.out _ (A1.mono (rb1 _ _)).below).mono ?_); rintro e w2 ⟨rfl, hb2⟩; (first | (with_reducible have A2 := A1.mono (blw0 hb2)) | (with_reducible have A2 := A1.mono (blw1 hb2))); (try (with_reducible have z2 := s4_one (W := w1) hb2))))
    all_goals
      go_wp2_with fail
      go_meet
      case rel =>
        refine ⟨_, a, b, c, d, xx, yy, f, rfl, hst, ?_, ?_⟩
        · repeat' first | (with_reducible exact A3) | (with_reducible refine RB.set ?_ ?_ _) | (with_reducible refine RB.alloc ?_ _) | (with_reducible exact R0.lt) | (with_reducible exact A1.lt) | (with_reducible exact A2.lt) | (with_reducible exact A3.lt)
        · first | (with_reducible exact zz.put _ _ _ _) | ((with_reducible refine S4.put (a := 0) (b := 0) (c := 0) (d := 0) ?_ _ _ _ _); (with_reducible refine S4.fresh ?_); rfl) | ((with_reducible refine S4.fresh ?_); rfl)
  case rest =>
    obtain ⟨p, a, b, c, d, xx, yy, f, rfl, hst, R, S⟩ := hcut
    clear AD t1 t2 R0
    have k0 := R.x; have k1 := R.y
    have u0 := S.s0; have u1 := S.s1; have u2 := S.s2; have u3 := S.s3
    have T := KTS.out a b c d f hst.tru
    have ba := hst.ba; have bb := hst.bb; have bc := hst.bc; have bd := hst.bd
    have hone := hst.one
    clear KL1 KL2 KST KTS hst
    by_cases hb0 : b = 0
    · subst hb0
      go_wp2_with (go_at_call 175; refine (KDV.out _ R.below).mono ?_; rintro e w1 ⟨v1, v2, rfl, hv1, hv2, hb1⟩; refine Hid.out ?_)
      obtain ⟨a1, d1, rfl, hr1⟩ := hv1
      obtain ⟨a2, d2, rfl, hr2⟩ := hv2
      have R1 := R.mono hb1
      have HR2 := Lib.hid hr2
      clear hr1 hr2 R k0 k1
      generalize (limbs (x / y)).length = n1 at *
      generalize hn2 : (limbs (x % y)).length = n2 at *
      have HN2 := Lib.hid hn2; clear hn2
      refine Lib.hid ?_
      go_wp2_with fail
      have R2 : RB w ((w1.alloc (Obj.cells #[Value.slice a1 n1 d1] 173)).alloc (Obj.cells #[Value.slice a2 n2 d2] 173)) (Value.slice ao m c0) (Value.slice ap ny d0) := (R1.alloc _).alloc _
      have c8 : ((w1.alloc (Obj.cells #[Value.slice a1 n1 d1] 173)).alloc (Obj.cells #[Value.slice a2 n2 d2] 173)).cell? ⟨w1.heap.size + 1, 0, none⟩ = some (Value.slice a2 n2 d2) := by go_cell
      have hr3 : RowAt ((w1.alloc (Obj.cells #[Value.slice a1 n1 d1] 173)).alloc (Obj.cells #[Value.slice a2 n2 d2] 173)) a2 d2 (limbs (x % y)) := (HR2.out.mono (rb1 _ _)).mono (rb1 _ _)
      have HR3 := Lib.hid hr3; have HRB := Lib.hid R2
      have hlw := R1.lt
      have k1 := R2.y; have k2 := R2.r1; have k3 := R2.r2; have g2 := R2.f1; have g3 := R2.f2
      clear hr3 R2 R1 HR2
      generalize ((w1.alloc (Obj.cells #[Value.slice a1 n1 d1] 173)).alloc (Obj.cells #[Value.slice a2 n2 d2] 173)) = W2 at *
      go_region
      all_goals
        go_wp2_with fail
        have e1 : ((W2.setCell ⟨w.heap.size + 1 + 1, 0, none⟩ (Value.slice ap ny d0)).setCell ⟨w.heap.size + 1 + 1 + 1, 0, none⟩ (Value.slice a2 n2 d2)).cell? ⟨w.heap.size + 1 + 1, 0, none⟩ = some (Value.slice ap ny d0) := by
          rw [World.cell?_setCell_other (h := by simp)]; exact cellSet k2 _
        have e2 : ((W2.setCell ⟨w.heap.size + 1 + 1, 0, none⟩ (Value.slice ap ny d0)).setCell ⟨w.heap.size + 1 + 1 + 1, 0, none⟩ (Value.slice a2 n2 d2)).cell? ⟨w.heap.size + 1 + 1 + 1, 0, none⟩ = some (Value.slice a2 n2 d2) := by
          exact cellSet (u := .slice none 0 0) (by rw [World.cell?_setCell_other (h := by simp)]; exact k3) _
        refine bodyPost_ret (v := .tuple #[.agg #[.slice ap ny d0], .agg #[.slice a2 n2 d2]]) (by simp [results, Tryz.results195, go_sem, e1, e2]) rfl ?_
        obtain ⟨hyx, -, -, -, hy0⟩ := HARITH.out
        have hW := HRB.out.below
        obtain ⟨ay, cy, hyv, hyr⟩ := HYR.out.mono hW
        injection hyv with hyv; simp at hyv
        obtain ⟨rfl, -, rfl⟩ := hyv
        have hlt2 := HRB.out.lt
        have fb : Below w.heap.size w (((W2.setCell ⟨w.heap.size + 1 + 1, 0, none⟩ (Value.slice ap ny d0)).setCell ⟨w.heap.size + 1 + 1 + 1, 0, none⟩ (Value.slice a2 n2 d2)).drew) := ((hW.setCell (by simp; omega) _).setCell (by simp; omega) _).drew
        have rr : ∀ l ao c, RowAt W2 ao c l → RowAt (((W2.setCell ⟨w.heap.size + 1 + 1, 0, none⟩ (Value.slice ap ny d0)).setCell ⟨w.heap.size + 1 + 1 + 1, 0, none⟩ (Value.slice a2 n2 d2)).drew) ao c l := fun l ao c h => by
          have h1 := (h.box k2 (Value.slice ap ny d0)).box (p := ⟨w.heap.size + 1 + 1 + 1, 0, none⟩) (so := none) (n := 0) (m := 0) (by rw [World.cell?_setCell_other (h := by simp)]; exact k3) (Value.slice a2 n2 d2)
          exact h1.mono ((Below.refl _ _).drew)
        refine ⟨_, _, y, x % y, rfl, ⟨_, _, ?_, rr _ _ _ hyr⟩, ⟨_, _, ?_, rr _ _ _ HR3.out⟩, Nat.mod_lt _ (Nat.pos_of_ne_zero hy0), Nat.le_of_lt (Nat.mod_lt _ (Nat.pos_of_ne_zero hy0)), hyx, ?_, fb⟩
        · rw [HNY.out]
        · rw [HN2.out]
        · rw [Nat.gcd_comm x y, Nat.gcd_rec y x, Nat.gcd_comm]
    · obtain ⟨hyx, -, -, -, -⟩ := HARITH.out
      have hf : f = false := by
        cases f with
        | false => rfl
        | true => exact absurd (hone rfl).2.1 hb0
      obtain ⟨T1, T2, T3⟩ := T
      obtain ⟨T4, T5⟩ := T2 hf
      obtain ⟨Z1, hZ1⟩ : ∃ Z1 : Nat, (Z1 : Int) = a * (x : Nat) + b * (y : Nat) := ⟨(a * (x : Nat) + b * (y : Nat)).toNat, by omega⟩
      obtain ⟨Z2, hZ2⟩ : ∃ Z2 : Nat, (Z2 : Int) = c * (x : Nat) + d * (y : Nat) := ⟨(c * (x : Nat) + d * (y : Nat)).toNat, by omega⟩
      rw [← hZ1, ← hZ2] at T3 T4
      rw [← hZ1] at T5
      have HG := Lib.hid (gcd_of_iff T3)
      have K1 : ∀ W : World, Below w.heap.size w W → Calls Tryz.prog 214 #[.int .i64 a, .agg #[.slice ao m c0], .int .i64 b, .agg #[.slice ap ny d0]] W (RetN Z1 W) := fun W hW => KCB.out a b Z1 W ba.1 ba.2 bb.1 bb.2 hZ1 (by omega) hW
      have K2 : ∀ W : World, Below w.heap.size w W → Calls Tryz.prog 214 #[.int .i64 c, .agg #[.slice ao m c0], .int .i64 d, .agg #[.slice ap ny d0]] W (RetN Z2 W) := fun W hW => KCB.out c d Z2 W bc.1 bc.2 bd.1 bd.2 hZ2 (by omega) hW
      have KA := Lib.hid K1; have KC := Lib.hid K2
      clear K1 K2 T1 T2 T3 hZ1 hZ2 hf hone ba bb bc bd KCB KDV
      go_wp2_with fail
      have NW := (RS.of R S).mono ((Below.refl _ _).drew)
      clear k0 k1 u0 u1 u2 u3
      obtain ⟨k0, k1, u0, u1, u2, u3⟩ := NW.hold
      go_region_held3 (fun w' => w'.cell? ⟨w.heap.size, 0, none⟩ = some (Value.slice ao m c0) ∧ w'.cell? ⟨w.heap.size + 1, 0, none⟩ = some (Value.slice ap ny d0) ∧ w'.cell? ⟨p, 0, none⟩ = some (.int .i64 a) ∧ w'.cell? ⟨p, 1, none⟩ = some (.int .i64 b) ∧ w'.cell? ⟨p, 2, none⟩ = some (.int .i64 c) ∧ w'.cell? ⟨p, 3, none⟩ = some (.int .i64 d)) (first | with_reducible exact NW.hold | with_reducible exact (NW.setR1 _ _ _).hold | with_reducible exact (NW.setR2 _ _ _).hold | with_reducible exact ((NW.setR1 _ _ _).setR2 _ _ _).hold | with_reducible exact ((NW.setR2 _ _ _).setR1 _ _ _).hold | (trace_state; fail)) (first
        | (go_at_call_of 214 (Value.int .i64 a); (first | with_reducible refine (KA.out _ NW.below).mono ?_ | with_reducible refine (KA.out _ (NW.setR1 _ _ _).below).mono ?_ | with_reducible refine (KA.out _ (NW.setR2 _ _ _).below).mono ?_); rintro e wn ⟨v1, rfl, hv1, hb⟩; obtain ⟨a1, d1, rfl, hr1⟩ := hv1; (first | with_reducible have M := RS.mono NW hb | with_reducible have M := RS.mono (NW.setR1 _ _ _) hb | with_reducible have M := RS.mono (NW.setR2 _ _ _) hb); (try have hr2 := M.keep _ _ _ hr2); have NW := M.rebase; have q1 := NW.r1; have q2 := NW.r2; have g1 := NW.f1; have g2 := NW.f2)
        | (go_at_call_of 214 (Value.int .i64 c); (first | with_reducible refine (KC.out _ NW.below).mono ?_ | with_reducible refine (KC.out _ (NW.setR1 _ _ _).below).mono ?_ | with_reducible refine (KC.out _ (NW.setR2 _ _ _).below).mono ?_); rintro e wn ⟨v2, rfl, hv2, hb⟩; obtain ⟨a2, d2, rfl, hr2⟩ := hv2; (first | with_reducible have M := RS.mono NW hb | with_reducible have M := RS.mono (NW.setR1 _ _ _) hb | with_reducible have M := RS.mono (NW.setR2 _ _ _) hb); (try have hr1 := M.keep _ _ _ hr1); have NW := M.rebase; have q1 := NW.r1; have q2 := NW.r2; have g1 := NW.f1; have g2 := NW.f2))
      all_goals
        go_wp2_with fail
        first
          | (have FIN := NW; refine bodyPost_ret (v := .tuple #[.agg #[.slice a1 (limbs Z1).length d1], .agg #[.slice a2 (limbs Z2).length d2]]) (by have f1 := FIN.r1; have f2 := FIN.r2; simp [results, Tryz.results195, go_sem, *]) rfl ?_; exact red_fin FIN hr1 hr2 (by omega) (by omega) (by omega) HG.out)
          | (have FIN := NW.setR1 a1 (limbs Z1).length d1; refine bodyPost_ret (v := .tuple #[.agg #[.slice a1 (limbs Z1).length d1], .agg #[.slice a2 (limbs Z2).length d2]]) (by have f1 := FIN.r1; have f2 := FIN.r2; simp [results, Tryz.results195, go_sem, *]) rfl ?_; exact red_fin FIN hr1 hr2 (by omega) (by omega) (by omega) HG.out)
          | (have FIN := NW.setR2 a2 (limbs Z2).length d2; refine bodyPost_ret (v := .tuple #[.agg #[.slice a1 (limbs Z1).length d1], .agg #[.slice a2 (limbs Z2).length d2]]) (by have f1 := FIN.r1; have f2 := FIN.r2; simp [results, Tryz.results195, go_sem, *]) rfl ?_; exact red_fin FIN hr1 hr2 (by omega) (by omega) (by omega) HG.out)
          | (have FIN := (NW.setR1 a1 (limbs Z1).length d1).setR2 a2 (limbs Z2).length d2; refine bodyPost_ret (v := .tuple #[.agg #[.slice a1 (limbs Z1).length d1], .agg #[.slice a2 (limbs Z2).length d2]]) (by have f1 := FIN.r1; have f2 := FIN.r2; simp [results, Tryz.results195, go_sem, *]) rfl ?_; exact red_fin FIN hr1 hr2 (by omega) (by omega) (by omega) HG.out)
          | (have FIN := (NW.setR2 a2 (limbs Z2).length d2).setR1 a1 (limbs Z1).length d1; refine bodyPost_ret (v := .tuple #[.agg #[.slice a1 (limbs Z1).length d1], .agg #[.slice a2 (limbs Z2).length d2]]) (by have f1 := FIN.r1; have f2 := FIN.r2; simp [results, Tryz.results195, go_sem, *]) rfl ?_; exact red_fin FIN hr1 hr2 (by omega) (by omega) (by omega) HG.out)
end Go.Proofs.YtjobmkdaaionlaaGreatDoor
