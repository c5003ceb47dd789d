import Derived.Test.YtipnnmbjkpidoaaGreatDoorBase5
import Derived.Test.YtipnnmbjkpidoaaGreatDoorBase19
import Derived.Test.YtipnnmbjkpidoaaGreatDoorDiv

set_option linter.unusedVariables false
/-
  Floored division of integers, by magnitudes.
-/
namespace Go.Proofs.YtipnnmbjkpidoaaGreatDoor
open Go Go.Proofs

/-- What is missing from x to the next multiple of y. -/
def missN (x y : Nat) : Nat := if x % y = 0 then 0 else y - x % y

theorem negE_div (n y : Nat) (hy : 0 < y) : (-(n : Int)) / (y : Int) = -(((n + y - 1) / y : Nat) : Int) := by
  have h1 := Nat.div_add_mod (n + y - 1) y
  have h2 := Nat.mod_lt (n + y - 1) hy
  generalize (n + y - 1) / y = q at *
  generalize (n + y - 1) % y = r at *
  have e : -(n : Int) = ((y : Int) - 1 - r) + (y : Int) * (-(q : Int)) := by
    have : (n : Int) + y - 1 = y * q + r := by
      have := congrArg (Nat.cast (R := Int)) h1
      rw [Int.natCast_add, Int.natCast_mul] at this
      omega
    rw [Int.mul_neg]
    omega
  rw [e, Int.add_mul_ediv_left _ _ (by omega), Int.ediv_eq_zero_of_lt (by omega) (by omega)]
  omega
theorem negE_mod (n y : Nat) (hy : 0 < y) : (-(n : Int)) % (y : Int) = ((missN n y : Nat) : Int) := by
  have h1 := Nat.div_add_mod n y
  have h2 := Nat.mod_lt n hy
  unfold missN
  generalize n / y = q at *
  generalize n % y = r at *
  have e0 : (n : Int) = (y : Int) * (q : Int) + r := by
    have := congrArg (Nat.cast (R := Int)) h1
    rw [Int.natCast_add, Int.natCast_mul] at this
    omega
  by_cases hr : r = 0
  · subst hr
    rw [if_pos rfl]
    have e : -(n : Int) = 0 + (y : Int) * (-(q : Int)) := by rw [Int.mul_neg]; omega
    rw [e, Int.add_mul_emod_self_left, Int.zero_emod]; rfl
  · rw [if_neg hr]
    have e : -(n : Int) = ((y : Int) - r) + (y : Int) * (-(q : Int) - 1) := by rw [Int.mul_sub, Int.mul_neg]; omega
    rw [e, Int.add_mul_emod_self_left, Int.emod_eq_of_lt (by omega) (by omega)]
    omega

theorem fdiv_same (x y : Int) (hy : y ≠ 0) (h : (x < 0) = (y < 0)) : x.fdiv y = ((x.natAbs / y.natAbs : Nat) : Int) := by
  by_cases h0 : y < 0
  · have hx : x < 0 := by rw [h]; exact h0
    rw [← Int.neg_fdiv_neg, Int.fdiv_eq_ediv_of_nonneg _ (by omega)]
    rw [show -x = (x.natAbs : Int) by omega, show -y = (y.natAbs : Int) by omega]; rfl
  · have hx : ¬ x < 0 := by rw [h]; exact h0
    rw [Int.fdiv_eq_ediv_of_nonneg _ (by omega)]
    conv => lhs; rw [show x = (x.natAbs : Int) by omega, show y = (y.natAbs : Int) by omega]
    rfl
theorem fdiv_opp (x y : Int) (hy : y ≠ 0) (h : (x < 0) ≠ (y < 0)) : x.fdiv y = -(((x.natAbs + y.natAbs - 1) / y.natAbs : Nat) : Int) := by
  have hp : 0 < y.natAbs := by omega
  rw [← negE_div _ _ hp]
  by_cases h0 : y < 0
  · have hx : ¬ x < 0 := fun hx => h (propext ⟨fun _ => h0, fun _ => hx⟩)
    rw [← Int.neg_fdiv_neg, Int.fdiv_eq_ediv_of_nonneg _ (by omega)]
    congr 1 <;> omega
  · have hx : x < 0 := Decidable.byContradiction fun hx => h (propext ⟨fun k => absurd k hx, fun k => absurd k h0⟩)
    rw [Int.fdiv_eq_ediv_of_nonneg _ (by omega)]
    congr 1 <;> omega
theorem fmod_pp (x y : Int) (hx : ¬ x < 0) (hy : ¬ y < 0) : x.fmod y = ((x.natAbs % y.natAbs : Nat) : Int) := by
  rw [Int.fmod_eq_emod_of_nonneg _ (by omega)]
  conv => lhs; rw [show x = (x.natAbs : Int) by omega, show y = (y.natAbs : Int) by omega]
  rfl
theorem fmod_np (x y : Int) (hy0 : y ≠ 0) (hx : x < 0) (hy : ¬ y < 0) : x.fmod y = ((missN x.natAbs y.natAbs : Nat) : Int) := by
  rw [Int.fmod_eq_emod_of_nonneg _ (by omega), ← negE_mod _ _ (by omega)]
  congr 1 <;> omega
theorem neg_fmod (x y : Int) : x.fmod y = -((-x).fmod (-y)) := by
  rw [Int.fmod_def, Int.fmod_def, Int.neg_fdiv_neg, Int.neg_mul]; omega
theorem fmod_nn (x y : Int) (hx : x < 0) (hy : y < 0) : x.fmod y = -((x.natAbs % y.natAbs : Nat) : Int) := by
  rw [neg_fmod, fmod_pp (-x) (-y) (by omega) (by omega), Int.natAbs_neg, Int.natAbs_neg]
theorem fmod_pn (x y : Int) (hy0 : y ≠ 0) (hx : ¬ x < 0) (hy : y < 0) : x.fmod y = -((missN x.natAbs y.natAbs : Nat) : Int) := by
  by_cases h0 : x = 0
  · subst h0; simp [missN]
  · rw [neg_fmod, fmod_np (-x) (-y) (by omega) (by omega) (by omega), Int.natAbs_neg, Int.natAbs_neg]
end Go.Proofs.YtipnnmbjkpidoaaGreatDoor

/-
  bigint: over, missing.
-/
namespace Go.Proofs.YtipnnmbjkpidoaaGreatDoor
open Go Go.Proofs Go.RowKit

/-- A box for a result of type natural.Number, behind two of parameters. -/
structure NRes (w W : World) (vx vy : Value) : Prop where
  lt : w.heap.size + 1 + 1 < W.heap.size
  x : W.cell? ⟨w.heap.size, 0, none⟩ = some vx
  y : W.cell? ⟨w.heap.size + 1, 0, none⟩ = some vy
  r : W.cell? ⟨w.heap.size + 1 + 1, 0, none⟩ = some (.slice none 0 0)
  f : W.frozen? ⟨w.heap.size + 1 + 1, 0, none⟩ = false
  below : Below w.heap.size w W
theorem NRes.mono {w W W' : World} {vx vy : Value} (h : NRes w W vx vy) (k : Below W.heap.size W W') : NRes w W' vx vy := by
  have hl := h.lt
  exact ⟨Nat.lt_of_lt_of_le hl k.size, (k.cell (p := ⟨w.heap.size, 0, none⟩) (by simp; omega)).trans h.x, (k.cell (p := ⟨w.heap.size + 1, 0, none⟩) (by simp; omega)).trans h.y,
    (k.cell (p := ⟨w.heap.size + 1 + 1, 0, none⟩) hl).trans h.r, (k.frozen (p := ⟨w.heap.size + 1 + 1, 0, none⟩) hl).trans h.f, Below.chain h.below k⟩
theorem nres_new (w : World) (a1 a2 : Option Addr) (n1 c1 n2 c2 : Nat) (t1 t2 t3 : TypeId) : NRes w (((w.alloc (Obj.cells #[Value.slice a1 n1 c1] t1)).alloc (Obj.cells #[Value.slice a2 n2 c2] t2)).alloc (Obj.cells #[Value.slice none 0 0] t3)) (Value.slice a1 n1 c1) (Value.slice a2 n2 c2) :=
  ⟨by simp, by go_cell, by go_cell, by go_cell, by go_cell, by go_grown⟩
theorem NRes.stored {w W : World} {vx vy : Value} (h : NRes w W vx vy) {ao : Option Addr} {c x : Nat} (hr : RowAt W ao c (limbs x)) :
    NumAt (W.setCell ⟨w.heap.size + 1 + 1, 0, none⟩ (.slice ao (limbs x).length c)) (.agg #[.slice ao (limbs x).length c]) x ∧ (W.setCell ⟨w.heap.size + 1 + 1, 0, none⟩ (.slice ao (limbs x).length c)).cell? ⟨w.heap.size + 1 + 1, 0, none⟩ = some (.slice ao (limbs x).length c) ∧ Below w.heap.size w (W.setCell ⟨w.heap.size + 1 + 1, 0, none⟩ (.slice ao (limbs x).length c)) :=
  ⟨⟨ao, c, rfl, hr.boxV (fun k => by rw [h.r]; simp) _⟩, cellSet h.r _, h.below.setCell (by simp; omega) _⟩

set_option maxHeartbeats 1000000 in
theorem over_any (x y : Nat) (vx vy : Value) (w : World) (hx : NumAt w vx x) (hy : NumAt w vy y) (hlx : (limbs x).length ≤ 100000000000) :
    Calls Tryz.prog 143 #[vx, vy] w (RetN (x % y) w) := by
  have C : ∀ W : World, Below w.heap.size w W → Calls Tryz.prog 136 #[vx, vy] W (Divided x y W) := fun W hW => div_any x y vx vy W (hx.mono hW) (hy.mono hW) hlx
  have HC := Lib.hid C
  obtain ⟨ao, c, rfl, -⟩ := hx
  obtain ⟨ap, d, rfl, -⟩ := hy
  clear C hlx
  generalize (limbs x).length = n at *
  generalize (limbs y).length = m at *
  have R0 := nres_new w ao ap n c m d 79 79 79
  go_enter Tryz.func143, Tryz.ntmps143
  go_wp2_with (go_at_call 136; refine (HC.out _ R0.below).mono ?_; rintro e w1 ⟨v1, v2, rfl, hv1, hv2, hb1⟩; refine Hid.out ?_)
  have R1 := R0.mono hb1
  clear R0 hb1 HC
  obtain ⟨a1, c1, rfl, -⟩ := hv1
  obtain ⟨a2, c2, rfl, hr2⟩ := hv2
  have R2 := R1.mono (show Below w1.heap.size w1 ((w1.alloc (Obj.cells #[Value.slice a1 (limbs (x / y)).length c1] 79)).alloc (Obj.cells #[Value.slice a2 (limbs (x % y)).length c2] 79)) by go_grown)
  obtain ⟨hN, q0, hbF⟩ := R2.stored (hr2.mono (show Below w1.heap.size w1 ((w1.alloc (Obj.cells #[Value.slice a1 (limbs (x / y)).length c1] 79)).alloc (Obj.cells #[Value.slice a2 (limbs (x % y)).length c2] 79)) by go_grown))
  have k1 := R2.r; have k2 := R2.f; have k3 := R1.lt
  have HN := Lib.hid hN; have HB := Lib.hid hbF; have HQ := Lib.hid q0
  clear hN hbF q0 hr2 R2
  generalize hl1 : (limbs (x / y)).length = l1 at *
  generalize hl2 : (limbs (x % y)).length = l2 at *
  clear hl1
  have HL := Lib.hid hl2; clear hl2
  refine Lib.hid ?_
  go_wp2
  refine bodyPost_ret (v := .agg #[.slice a2 l2 c2]) (by simp [results, Tryz.results143, go_sem, HQ.out]) rfl ?_
  exact ⟨_, rfl, HN.out, HB.out⟩

set_option maxHeartbeats 1000000 in
theorem missing_any (x y : Nat) (vx vy : Value) (w : World) (hx : NumAt w vx x) (hy : NumAt w vy y) (hlx : (limbs x).length ≤ 100000000000) (hly : (limbs y).length ≤ 100000000000) (hy0 : 0 < y) :
    Calls Tryz.prog 145 #[vx, vy] w (RetN (missN x y) w) := by
  have hm := Nat.mod_lt x hy0
  have hmy : (limbs (x % y)).length ≤ 100000000000 := Nat.le_trans (limbs_length_le (Nat.lt_trans hm (lt_pow_limbs y))) hly
  have CO : ∀ W : World, Below w.heap.size w W → Calls Tryz.prog 143 #[vx, vy] W (RetN (x % y) W) := fun W hW => over_any x y vx vy W (hx.mono hW) (hy.mono hW) hlx
  have CZ : ∀ (W : World) (v : Value), NumAt W v (x % y) → Calls Tryz.prog 150 #[v] W fun e w' => e = .returned (.bool (decide (x % y = 0))) ∧ Below W.heap.size W w' := fun W v hv => isZero_any _ v W hv
  have CD : ∀ (W : World) (v : Value), Below w.heap.size w W → NumAt W v (x % y) → Calls Tryz.prog 138 #[vy, v] W (RetN (y - x % y) W) := fun W v hW hv => by
    have := dist_any y (x % y) vy v W (hy.mono hW) hv (by omega) (by omega)
    rwa [if_neg (by omega)] at this
  unfold missN
  generalize x % y = r at *
  have HO := Lib.hid CO; have HZ := Lib.hid CZ; have HD := Lib.hid CD
  obtain ⟨ao, c, rfl, -⟩ := hx
  obtain ⟨ap, d, rfl, -⟩ := hy
  clear CO CZ CD hlx hly hm hmy hy0
  generalize (limbs x).length = n at *
  generalize (limbs y).length = m at *
  have R0 := nres_new w ao ap n c m d 79 79 79
  go_enter Tryz.func145, Tryz.ntmps145
  go_wp2_with (go_at_call 143; refine (HO.out _ R0.below).mono ?_; rintro e w1 ⟨v1, rfl, hv1, hb1⟩; refine Hid.out ?_)
  have R1 := R0.mono hb1
  clear R0 hb1 HO
  have Z1 : ∀ W : World, Below w1.heap.size w1 W → Calls Tryz.prog 150 #[v1] W fun e w' => e = .returned (.bool (decide (r = 0))) ∧ Below W.heap.size W w' := fun W hW => HZ.out W _ (hv1.mono hW)
  have D1 : ∀ W : World, Below w1.heap.size w1 W → Calls Tryz.prog 138 #[.agg #[.slice ap m d], v1] W (RetN (y - r) W) := fun W hW => HD.out W _ (Below.chain R1.below hW) (hv1.mono hW)
  obtain ⟨a1, c1, rfl, hr1⟩ := hv1
  have HZ1 := Lib.hid Z1; have HD1 := Lib.hid D1; have HR := Lib.hid hr1
  clear Z1 D1 hr1 HZ HD
  generalize hl1 : (limbs r).length = l1 at *
  have HL := Lib.hid hl1; clear hl1
  have R2 := R1.mono (show Below w1.heap.size w1 (w1.alloc (Obj.cells #[Value.slice a1 l1 c1] 79)) by go_grown)
  have e1 : (w1.alloc (Obj.cells #[Value.slice a1 l1 c1] 79)).cell? ⟨w1.heap.size, 0, none⟩ = some (.slice a1 l1 c1) := by go_cell
  have e2 : w1.heap.size < (w1.alloc (Obj.cells #[Value.slice a1 l1 c1] 79)).heap.size := by simp
  have hB1 : Below w1.heap.size w1 (w1.alloc (Obj.cells #[Value.slice a1 l1 c1] 79)) := by go_grown
  have hlt := R1.lt
  refine Lib.hid ?_
  go_wp2_with (go_at_call 150; refine (HZ1.out _ hB1).mono ?_; rintro e w2 ⟨rfl, hb2⟩; refine Hid.out ?_)
  have R3 := R2.mono hb2
  have e3 := (hb2.cell (p := ⟨w1.heap.size, 0, none⟩) e2).trans e1
  have hB3 := Below.chain hB1 hb2
  have e4 := Nat.lt_of_lt_of_le e2 hb2.size
  clear R1 R2 e1 e2 hB1 hb2
  have k1 := R3.r; have k2 := R3.f; have k3 := R3.y; have k4 := R3.lt
  refine Lib.hid ?_
  by_cases h0 : r = 0
  · have hd : decide (r = 0) = true := by simp [h0]
    obtain ⟨hN, q0, hbF⟩ := R3.stored (c := c1) (ao := a1) (x := r) (HR.out.mono hB3)
    rw [HL.out] at hN q0 hbF
    have HN := Lib.hid hN; have HB := Lib.hid hbF; have HQ := Lib.hid q0
    clear hN hbF q0 hB3
    rw [hd]
    have H0 := Lib.hid h0; clear h0 hd
    go_wp2
    refine bodyPost_ret (v := .agg #[.slice a1 l1 c1]) (by simp [results, Tryz.results145, go_sem, HQ.out]) rfl ?_
    refine ⟨_, rfl, ?_, HB.out⟩
    exact H0.out ▸ HN.out
  · have hd : decide (r = 0) = false := by simp [h0]
    rw [hd]
    have H0 := Lib.hid h0; clear h0 hd
    generalize hs : y - r = s at *
    have HS := Lib.hid hs; clear hs
    go_wp2_with (go_at_call 138; refine (HD1.out _ hB3).mono ?_; rintro e w4 ⟨v4, rfl, hv4, hb4⟩; refine Hid.out ?_)
    have R4 := R3.mono hb4
    obtain ⟨a2, c2, rfl, hr4⟩ := hv4
    obtain ⟨hN, q0, hbF⟩ := R4.stored (c := c2) (ao := a2) (x := s) hr4
    have k1 := R4.r; have k2 := R4.f
    have HN := Lib.hid hN; have HB := Lib.hid hbF; have HQ := Lib.hid q0
    clear hN hbF q0 hr4 hb4 hB3
    generalize hl2 : (limbs s).length = l2 at *
    clear hl2
    refine Lib.hid ?_
    go_wp2
    refine bodyPost_ret (v := .agg #[.slice a2 l2 c2]) (by simp [results, Tryz.results145, go_sem, HQ.out]) rfl ?_
    refine ⟨_, rfl, ?_, HB.out⟩
    exact HN.out
end Go.Proofs.YtipnnmbjkpidoaaGreatDoor
