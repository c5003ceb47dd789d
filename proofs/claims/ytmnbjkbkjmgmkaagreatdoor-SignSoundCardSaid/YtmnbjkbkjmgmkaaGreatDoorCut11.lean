import Derived.Test.YtmnbjkbkjmgmkaaGreatDoorCut4
import Derived.Test.YtmnbjkbkjmgmkaaGreatDoorCut7
import Derived.Test.YtmnbjkbkjmgmkaaGreatDoorOwnDiv
import Derived.Test.YtmnbjkbkjmgmkaaGreatDoorCut5
import Derived.Deep.RegionHeld3
import Derived.Test.YtmnbjkbkjmgmkaaGreatDoorCut8

set_option linter.unusedVariables false
/-
  Floored division of integers, by magnitudes.
-/
set_option linter.unusedSimpArgs false
set_option linter.unusedVariables false
namespace Go.Proofs.YtmnbjkbkjmgmkaaGreatDoor
open Go Go.Proofs
def missN (x y : Nat) : Nat := if x % y = 0 then 0 else y - x % y
theorem negE_div (n y : Nat) (hy : 0 < y) : (-(n : Int)) / (y : Int) = -(((n + y - 1) / y : Nat) : Int) := by
  have h1 := Nat.div_add_mod (n + y - 1) y
  have h2 := Nat.mod_lt (n + y - 1) hy
  generalize (n + y - 1) / y = q at *
  generalize (n + y - 1) % y = r at *
  have e : -(n : Int) = ((y : Int) - 1 - r) + (y : Int) * (-(q : Int)) := by
    have : (n : Int) + y - 1 = y * q + r := by
      have := congrArg (Nat.cast (R := Int)) h1
      rw [Int.natCast_add, Int.natCast_mul] at this
      omega
    rw [Int.mul_neg]
    omega
  rw [e, Int.add_mul_ediv_left _ _ (by omega), Int.ediv_eq_zero_of_lt (by omega) (by omega)]
  omega
theorem negE_mod (n y : Nat) (hy : 0 < y) : (-(n : Int)) % (y : Int) = ((missN n y : Nat) : Int) := by
  have h1 := Nat.div_add_mod n y
  have h2 := Nat.mod_lt n hy
  unfold missN
  generalize n / y = q at *
  generalize n % y = r at *
  have e0 : (n : Int) = (y : Int) * (q : Int) + r := by
    have := congrArg (Nat.cast (R := Int)) h1
    rw [Int.natCast_add, Int.natCast_mul] at this
    omega
  by_cases hr : r = 0
  · subst hr
    rw [if_pos rfl]
    have e : -(n : Int) = 0 + (y : Int) * (-(q : Int)) := by rw [Int.mul_neg]; omega
    rw [e, Int.add_mul_emod_self_left, Int.zero_emod]; rfl
  · rw [if_neg hr]
    have e : -(n : Int) = ((y : Int) - r) + (y : Int) * (-(q : Int) - 1) := by rw [Int.mul_sub, Int.mul_neg]; omega
    rw [e, Int.add_mul_emod_self_left, Int.emod_eq_of_lt (by omega) (by omega)]
    omega
theorem fdiv_same (x y : Int) (hy : y ≠ 0) (h : (x < 0) = (y < 0)) : x.fdiv y = ((x.natAbs / y.natAbs : Nat) : Int) := by
  by_cases h0 : y < 0
  · have hx : x < 0 := by rw [h]; exact h0
    rw [← Int.neg_fdiv_neg, Int.fdiv_eq_ediv_of_nonneg _ (by omega)]
    rw [show -x = (x.natAbs : Int) by omega, show -y = (y.natAbs : Int) by omega]; rfl
  · have hx : ¬ x < 0 := by rw [h]; exact h0
    rw [Int.fdiv_eq_ediv_of_nonneg _ (by omega)]
    conv => lhs; rw [show x = (x.natAbs : Int) by omega, show y = (y.natAbs : Int) by omega]
    rfl
theorem fdiv_opp (x y : Int) (hy : y ≠ 0) (h : (x < 0) ≠ (y < 0)) : x.fdiv y = -(((x.natAbs + y.natAbs - 1) / y.natAbs : Nat) : Int) := by
  have hp : 0 < y.natAbs := by omega
  rw [← negE_div _ _ hp]
  by_cases h0 : y < 0
  · have hx : ¬ x < 0 := fun hx => h (propext ⟨fun _ => h0, fun _ => hx⟩)
    rw [← Int.neg_fdiv_neg, Int.fdiv_eq_ediv_of_nonneg _ (by omega)]
    congr 1 <;> omega
  · have hx : x < 0 := Decidable.byContradiction fun hx => h (propext ⟨fun k => absurd k hx, fun k => absurd k h0⟩)
    rw [Int.fdiv_eq_ediv_of_nonneg _ (by omega)]
    congr 1 <;> omega
theorem fmod_pp (x y : Int) (hx : ¬ x < 0) (hy : ¬ y < 0) : x.fmod y = ((x.natAbs % y.natAbs : Nat) : Int) := by
  rw [Int.fmod_eq_emod_of_nonneg _ (by omega)]
  conv => lhs; rw [show x = (x.natAbs : Int) by omega, show y = (y.natAbs : Int) by omega]
  rfl
theorem fmod_np (x y : Int) (hy0 : y ≠ 0) (hx : x < 0) (hy : ¬ y < 0) : x.fmod y = ((missN x.natAbs y.natAbs : Nat) : Int) := by
  rw [Int.fmod_eq_emod_of_nonneg _ (by omega), ← negE_mod _ _ (by omega)]
  congr 1 <;> omega
theorem neg_fmod (x y : Int) : x.fmod y = -((-x).fmod (-y)) := by
  rw [Int.fmod_def, Int.fmod_def, Int.neg_fdiv_neg, Int.neg_mul]; omega
theorem fmod_nn (x y : Int) (hx : x < 0) (hy : y < 0) : x.fmod y = -((x.natAbs % y.natAbs : Nat) : Int) := by
  rw [neg_fmod, fmod_pp (-x) (-y) (by omega) (by omega), Int.natAbs_neg, Int.natAbs_neg]
theorem fmod_pn (x y : Int) (hy0 : y ≠ 0) (hx : ¬ x < 0) (hy : y < 0) : x.fmod y = -((missN x.natAbs y.natAbs : Nat) : Int) := by
  by_cases h0 : x = 0
  · subst h0; simp [missN]
  · rw [neg_fmod, fmod_np (-x) (-y) (by omega) (by omega) (by omega), Int.natAbs_neg, Int.natAbs_neg]
end Go.Proofs.YtmnbjkbkjmgmkaaGreatDoor

set_option linter.unusedSimpArgs false
set_option linter.unusedVariables false
namespace Go.Proofs.YtmnbjkbkjmgmkaaGreatDoor
open Go Go.Proofs Go.RowKit
structure NRes (w W : World) (vx vy : Value) : Prop where
  lt : w.heap.size + 1 + 1 < W.heap.size
  x : W.cell? ⟨w.heap.size, 0, none⟩ = some vx
  y : W.cell? ⟨w.heap.size + 1, 0, none⟩ = some vy
  r : W.cell? ⟨w.heap.size + 1 + 1, 0, none⟩ = some (.slice none 0 0)
  f : W.frozen? ⟨w.heap.size + 1 + 1, 0, none⟩ = false
  below : Below w.heap.size w W
theorem NRes.mono {w W W' : World} {vx vy : Value} (h : NRes w W vx vy) (k : Below W.heap.size W W') : NRes w W' vx vy := by
  have hl := h.lt
  exact ⟨Nat.lt_of_lt_of_le hl k.size, (k.cell (p := ⟨w.heap.size, 0, none⟩) (by simp; omega)).trans h.x, (k.cell (p := ⟨w.heap.size + 1, 0, none⟩) (by simp; omega)).trans h.y,
    (k.cell (p := ⟨w.heap.size + 1 + 1, 0, none⟩) hl).trans h.r, (k.frozen (p := ⟨w.heap.size + 1 + 1, 0, none⟩) hl).trans h.f, Below.chain h.below k⟩
theorem nres_new (w : World) (a1 a2 : Option Addr) (n1 c1 n2 c2 : Nat) (t1 t2 t3 : TypeId) : NRes w (((w.alloc (Obj.cells #[Value.slice a1 n1 c1] t1)).alloc (Obj.cells #[Value.slice a2 n2 c2] t2)).alloc (Obj.cells #[Value.slice none 0 0] t3)) (Value.slice a1 n1 c1) (Value.slice a2 n2 c2) :=
  ⟨by simp, by go_cell, by go_cell, by go_cell, by go_cell, by go_grown⟩
theorem NRes.stored {w W : World} {vx vy : Value} (h : NRes w W vx vy) {ao : Option Addr} {c x : Nat} (hr : RowAt W ao c (limbs x)) :
    NumAt (W.setCell ⟨w.heap.size + 1 + 1, 0, none⟩ (.slice ao (limbs x).length c)) (.agg #[.slice ao (limbs x).length c]) x ∧ (W.setCell ⟨w.heap.size + 1 + 1, 0, none⟩ (.slice ao (limbs x).length c)).cell? ⟨w.heap.size + 1 + 1, 0, none⟩ = some (.slice ao (limbs x).length c) ∧ Below w.heap.size w (W.setCell ⟨w.heap.size + 1 + 1, 0, none⟩ (.slice ao (limbs x).length c)) :=
  ⟨⟨ao, c, rfl, hr.boxV (fun k => by rw [h.r]; simp) _⟩, cellSet h.r _, h.below.setCell (by simp; omega) _⟩
set_option maxHeartbeats 1000000 in
theorem over_any (x y : Nat) (vx vy : Value) (w : World) (hx : NumAt w vx x) (hy : NumAt w vy y) (hlx : (limbs x).length ≤ 100000000000) :
    Calls Tryz.prog 77 #[vx, vy] w (RetN (x % y) w) := by
  have C : ∀ W : World, Below w.heap.size w W → Calls Tryz.prog 72 #[vx, vy] W (Divided x y W) := fun W hW => div_any x y vx vy W (hx.mono hW) (hy.mono hW) hlx
  have HC := Lib.hid C
  obtain ⟨ao, c, rfl, -⟩ := hx
  obtain ⟨ap, d, rfl, -⟩ := hy
  clear C hlx
  generalize (limbs x).length = n at *
  generalize (limbs y).length = m at *
  have R0 := nres_new w ao ap n c m d 71 71 71
  go_enter Tryz.func77, Tryz.ntmps77
  go_wp2_with (go_at_call 72; refine (HC.out _ R0.below).mono ?_; rintro e w1 ⟨v1, v2, rfl, hv1, hv2, hb1⟩; refine Hid.out ?_)
  have R1 := R0.mono hb1
  clear R0 hb1 HC
  obtain ⟨a1, c1, rfl, -⟩ := hv1
  obtain ⟨a2, c2, rfl, hr2⟩ := hv2
  have R2 := R1.mono (show Below w1.heap.size w1 ((w1.alloc (Obj.cells #[Value.slice a1 (limbs (x / y)).length c1] 71)).alloc (Obj.cells #[Value.slice a2 (limbs (x % y)).length c2] 71)) by go_grown)
  obtain ⟨hN, q0, hbF⟩ := R2.stored (hr2.mono (show Below w1.heap.size w1 ((w1.alloc (Obj.cells #[Value.slice a1 (limbs (x / y)).length c1] 71)).alloc (Obj.cells #[Value.slice a2 (limbs (x % y)).length c2] 71)) by go_grown))
  have k1 := R2.r; have k2 := R2.f; have k3 := R1.lt
  have HN := Lib.hid hN; have HB := Lib.hid hbF; have HQ := Lib.hid q0
  clear hN hbF q0 hr2 R2
  generalize hl1 : (limbs (x / y)).length = l1 at *
  generalize hl2 : (limbs (x % y)).length = l2 at *
  clear hl1
  have HL := Lib.hid hl2; clear hl2
  refine Lib.hid ?_
  go_wp2
  refine bodyPost_ret (v := .agg #[.slice a2 l2 c2]) (by simp [results, Tryz.results77, go_sem, HQ.out]) rfl ?_
  exact ⟨_, rfl, HN.out, HB.out⟩
set_option maxHeartbeats 1000000 in
theorem missing_any (x y : Nat) (vx vy : Value) (w : World) (hx : NumAt w vx x) (hy : NumAt w vy y) (hlx : (limbs x).length ≤ 100000000000) (hly : (limbs y).length ≤ 100000000000) (hy0 : 0 < y) :
    Calls Tryz.prog 79 #[vx, vy] w (RetN (missN x y) w) := by
  have hm := Nat.mod_lt x hy0
  have hmy : (limbs (x % y)).length ≤ 100000000000 := Nat.le_trans (limbs_length_le (Nat.lt_trans hm (lt_pow_limbs y))) hly
  have CO : ∀ W : World, Below w.heap.size w W → Calls Tryz.prog 77 #[vx, vy] W (RetN (x % y) W) := fun W hW => over_any x y vx vy W (hx.mono hW) (hy.mono hW) hlx
  have CZ : ∀ (W : World) (v : Value), NumAt W v (x % y) → Calls Tryz.prog 90 #[v] W fun e w' => e = .returned (.bool (decide (x % y = 0))) ∧ Below W.heap.size W w' := fun W v hv => isZero_any _ v W hv
  have CD : ∀ (W : World) (v : Value), Below w.heap.size w W → NumAt W v (x % y) → Calls Tryz.prog 74 #[vy, v] W (RetN (y - x % y) W) := fun W v hW hv => by
    have := dist_any y (x % y) vy v W (hy.mono hW) hv (by omega) (by omega)
    rwa [if_neg (by omega)] at this
  unfold missN
  generalize x % y = r at *
  have HO := Lib.hid CO; have HZ := Lib.hid CZ; have HD := Lib.hid CD
  obtain ⟨ao, c, rfl, -⟩ := hx
  obtain ⟨ap, d, rfl, -⟩ := hy
  clear CO CZ CD hlx hly hm hmy hy0
  generalize (limbs x).length = n at *
  generalize (limbs y).length = m at *
  have R0 := nres_new w ao ap n c m d 71 71 71
  go_enter Tryz.func79, Tryz.ntmps79
  go_wp2_with (go_at_call 77; refine (HO.out _ R0.below).mono ?_; rintro e w1 ⟨v1, rfl, hv1, hb1⟩; refine Hid.out ?_)
  have R1 := R0.mono hb1
  clear R0 hb1 HO
  have Z1 : ∀ W : World, Below w1.heap.size w1 W → Calls Tryz.prog 90 #[v1] W fun e w' => e = .returned (.bool (decide (r = 0))) ∧ Below W.heap.size W w' := fun W hW => HZ.out W _ (hv1.mono hW)
  have D1 : ∀ W : World, Below w1.heap.size w1 W → Calls Tryz.prog 74 #[.agg #[.slice ap m d], v1] W (RetN (y - r) W) := fun W hW => HD.out W _ (Below.chain R1.below hW) (hv1.mono hW)
  obtain ⟨a1, c1, rfl, hr1⟩ := hv1
  have HZ1 := Lib.hid Z1; have HD1 := Lib.hid D1; have HR := Lib.hid hr1
  clear Z1 D1 hr1 HZ HD
  generalize hl1 : (limbs r).length = l1 at *
  have HL := Lib.hid hl1; clear hl1
  have R2 := R1.mono (show Below w1.heap.size w1 (w1.alloc (Obj.cells #[Value.slice a1 l1 c1] 71)) by go_grown)
  have e1 : (w1.alloc (Obj.cells #[Value.slice a1 l1 c1] 71)).cell? ⟨w1.heap.size, 0, none⟩ = some (.slice a1 l1 c1) := by go_cell
  have e2 : w1.heap.size < (w1.alloc (Obj.cells #[Value.slice a1 l1 c1] 71)).heap.size := by simp
  have hB1 : Below w1.heap.size w1 (w1.alloc (Obj.cells #[Value.slice a1 l1 c1] 71)) := by go_grown
  have hlt := R1.lt
  refine Lib.hid ?_
  go_wp2_with (go_at_call 90; refine (HZ1.out _ hB1).mono ?_; rintro e w2 ⟨rfl, hb2⟩; refine Hid.out ?_)
  have R3 := R2.mono hb2
  have e3 := (hb2.cell (p := ⟨w1.heap.size, 0, none⟩) e2).trans e1
  have hB3 := Below.chain hB1 hb2
  have e4 := Nat.lt_of_lt_of_le e2 hb2.size
  clear R1 R2 e1 e2 hB1 hb2
  have k1 := R3.r; have k2 := R3.f; have k3 := R3.y; have k4 := R3.lt
  refine Lib.hid ?_
  by_cases h0 : r = 0
  · have hd : decide (r = 0) = true := by simp [h0]
    obtain ⟨hN, q0, hbF⟩ := R3.stored (c := c1) (ao := a1) (x := r) (HR.out.mono hB3)
    rw [HL.out] at hN q0 hbF
    have HN := Lib.hid hN; have HB := Lib.hid hbF; have HQ := Lib.hid q0
    clear hN hbF q0 hB3
    rw [hd]
    have H0 := Lib.hid h0; clear h0 hd
    go_wp2
    refine bodyPost_ret (v := .agg #[.slice a1 l1 c1]) (by simp [results, Tryz.results79, go_sem, HQ.out]) rfl ?_
    refine ⟨_, rfl, ?_, HB.out⟩
    exact H0.out ▸ HN.out
  · have hd : decide (r = 0) = false := by simp [h0]
    rw [hd]
    have H0 := Lib.hid h0; clear h0 hd
    generalize hs : y - r = s at *
    have HS := Lib.hid hs; clear hs
    go_wp2_with (go_at_call 74; refine (HD1.out _ hB3).mono ?_; rintro e w4 ⟨v4, rfl, hv4, hb4⟩; refine Hid.out ?_)
    have R4 := R3.mono hb4
    obtain ⟨a2, c2, rfl, hr4⟩ := hv4
    obtain ⟨hN, q0, hbF⟩ := R4.stored (c := c2) (ao := a2) (x := s) hr4
    have k1 := R4.r; have k2 := R4.f
    have HN := Lib.hid hN; have HB := Lib.hid hbF; have HQ := Lib.hid q0
    clear hN hbF q0 hr4 hb4 hB3
    generalize hl2 : (limbs s).length = l2 at *
    clear hl2
    refine Lib.hid ?_
    go_wp2
    refine bodyPost_ret (v := .agg #[.slice a2 l2 c2]) (by simp [results, Tryz.results79, go_sem, HQ.out]) rfl ?_
    refine ⟨_, rfl, ?_, HB.out⟩
    exact HN.out
end Go.Proofs.YtmnbjkbkjmgmkaaGreatDoor

set_option linter.unusedSimpArgs false
set_option linter.unusedVariables false
namespace Go.Proofs.YtmnbjkbkjmgmkaaGreatDoor
open Go Go.Proofs Go.RowKit Go.Sort
set_option maxHeartbeats 4000000 in
theorem compMul_short (s t : ByteArray) (x y r : Int) (w : World) (hs : Str s x) (ht : Str t y) (hx : x.natAbs < 1000000000) (hy : y.natAbs < 1000000000) (hr0 : -9223372036854775808 ≤ r) (hr1 : r ≤ 9223372036854775807)
    (HS : ∀ W : World, Calls Tryz.prog 40 #[.int .i64 x, .int .i64 y] W fun e w' => e = .returned (.int .i64 r) ∧ Below W.heap.size W w')
    (htab : Lib.TabIs Tryz.prog w "internal/strconv.uint64pow10" .u64 Lib.pow10Tab) :
    Calls Tryz.prog 35 #[opV 40 41, .string s, .string t] w fun e w' => e = .returned (.tuple #[.string (str (Lib.itoa r)), .int .i64 0]) ∧ Below w.heap.size w w' := by
  have hsz := hs.size
  have htz := ht.size
  have CB := fun W => checkBoth_any s t W (by omega) (by omega)
  have hb : errBoth (bytes s) (bytes t) = 0 := by unfold errBoth; rw [if_pos hs.err, ht.err]
  rw [hb] at CB
  have IS := fun W => isShort_any s W (by omega)
  have IT := fun W => isShort_any t W (by omega)
  rw [hs.short hx] at IS
  rw [ht.short hy] at IT
  have WS := fun W => wordZ_any s x W hs.text (by omega) (by omega)
  have WT := fun W => wordZ_any t y W ht.text (by omega) (by omega)
  have FI : ∀ W : World, Below w.heap.size w W → Calls Tryz.prog 53 #[.int .i64 r, .int .i64 10] W fun e w' => e = .returned (.string (str (Lib.itoa r))) ∧ Below W.heap.size W w' := fun W hW =>
    (Tryz.strconv_FormatInt_10 r hr0 hr1 W ((Lib.tabBelow_of_tabIs htab).on hW).here).mono fun e w' ⟨h1, k, os, h2⟩ => ⟨h1, by rw [h2]; exact Lib.below_grow _ W (Nat.le_refl _) k os⟩
  have HCB := Lib.hid CB; have HIS := Lib.hid IS; have HIT := Lib.hid IT; have HWS := Lib.hid WS; have HWT := Lib.hid WT; have HFI := Lib.hid FI; have HHS := Lib.hid HS
  clear CB IS IT WS WT FI HS hb htab hs ht hx hy hr0 hr1
  generalize str (Lib.itoa r) = rs at *
  unfold opV
  have B0 : Below w.heap.size w (w.alloc (Obj.cells #[.func (.func 40) #[] #[], .func (.func 41) #[] #[]] 62)) := (Below.refl _ _).alloc (Nat.le_refl _) _
  have c0 : (w.alloc (Obj.cells #[.func (.func 40) #[] #[], .func (.func 41) #[] #[]] 62)).cell? ⟨w.heap.size, 0, none⟩ = some (.func (.func 40) #[] #[]) := by go_cell
  go_enter Tryz.func35, Tryz.ntmps35
  go_wp2_with (go_at_call 51; refine (HCB.out _).mono ?_; rintro e w1 ⟨rfl, rfl⟩; refine Hid.out ?_)
  refine Lib.hid ?_
  go_wp2_with (go_at_call 52; refine (HIS.out _).mono ?_; rintro e w1 ⟨rfl, rfl⟩; refine Hid.out ?_)
  refine Lib.hid ?_
  go_wp2_with (go_at_call 52; refine (HIT.out _).mono ?_; rintro e w1 ⟨rfl, rfl⟩; refine Hid.out ?_)
  refine Lib.hid ?_
  go_wp2_with fail
  generalize w.alloc (Obj.cells #[.func (.func 40) #[] #[], .func (.func 41) #[] #[]] 62) = W at *
  have HB := Lib.hid B0; clear B0
  have hcell : ∀ d os, (grow (redrawn W d) os).cell? ⟨w.heap.size, 0, none⟩ = some (.func (.func 40) #[] #[]) := fun d os => cell_regrown c0 d os
  have cS : ∀ d os, Calls Tryz.prog 54 #[.string s] (grow (redrawn W d) os) fun e w'' => e = .returned (.int .i64 x) ∧ ∃ p : Regrown, w'' = grow (redrawn W p.d) p.os := fun d os => Calls.regrown_of (HWS.out _)
  have cT : ∀ d os, Calls Tryz.prog 54 #[.string t] (grow (redrawn W d) os) fun e w'' => e = .returned (.int .i64 y) ∧ ∃ p : Regrown, w'' = grow (redrawn W p.d) p.os := fun d os => Calls.regrown_of (HWT.out _)
  have cF : ∀ d os, Calls Tryz.prog 53 #[.int .i64 r, .int .i64 10] (grow (redrawn W d) os) fun e w'' => e = .returned (.string rs) ∧ ∃ p : Regrown, w'' = grow (redrawn W p.d) p.os := fun d os => Calls.regrown_of (HFI.out _ (Below.chain HB.out (below_regrown W d os)))
  have cH : ∀ d os, Calls Tryz.prog 40 #[.int .i64 x, .int .i64 y] (grow (redrawn W d) os) fun e w'' => e = .returned (.int .i64 r) ∧ ∃ p : Regrown, w'' = grow (redrawn W p.d) p.os := fun d os => Calls.regrown_of (HHS.out _)
  have KS := Lib.hid cS; have KT := Lib.hid cT; have KF := Lib.hid cF; have KH := Lib.hid cH
  clear cS cT cF cH
  refine wp_region_quiet_below (by kernel_rfl) (by kernel_rfl) ?_
  quiet_step (fail)
  quiet_step (fail)
  quiet_step (fail)
  quiet_step (exact KS.out _ _)
  quiet_step (fail)
  quiet_step (exact KT.out _ _)
  quiet_step (exact KH.out _ _)
  quiet_step (exact KF.out _ _)
  quiet_step (fail)
  quiet_step (fail)
  refine wpQuiet_nil ?_
  intro _ hw'
  obtain ⟨⟨dq, osq⟩, hw''⟩ := hw'
  subst hw''
  go_wp2
  refine bodyPost_ret (by simp [results, Tryz.results35, go_sem]; rfl) rfl ?_
  exact ⟨rfl, Below.chain HB.out (below_regrown W dq osq)⟩
theorem keepSMul {W w1 w2 : World} {a : Addr} {v : Value} (hlt : a.block < W.heap.size) (h : w1.cell? a = some v ∧ Below W.heap.size W w1) (hb : Below w1.heap.size w1 w2) : w2.cell? a = some v ∧ Below W.heap.size W w2 :=
  ⟨(hb.cell (Nat.lt_of_lt_of_le hlt h.2.size)).trans h.1, Below.chain h.2 hb⟩
set_option maxHeartbeats 4000000 in
theorem compMul_long (s t : ByteArray) (x y r : Int) (w : World) (hs : Str s x) (ht : Str t y) (hxy : ¬ (x.natAbs < 1000000000 ∧ y.natAbs < 1000000000)) (hr : (limbs r.natAbs).length ≤ 1000000000000)
    (HL : ∀ (W : World) (v1 v2 : Value), IntAt W v1 x → IntAt W v2 y → Calls Tryz.prog 41 #[v1, v2] W fun e w' => ∃ v, e = .returned v ∧ IntAt w' v r ∧ Below W.heap.size W w')
    (htab : Lib.TabIs Tryz.prog w "internal/strconv.uint64pow10" .u64 Lib.pow10Tab) :
    Calls Tryz.prog 35 #[opV 40 41, .string s, .string t] w fun e w' =>
      e = .returned (if 4096 < (Lib.decDigits r.natAbs).length then .tuple #[.string ⟨#[]⟩, .int .i64 10] else .tuple #[.string (str (Lib.itoa r)), .int .i64 0]) ∧ Below w.heap.size w w' := by
  have hsz := hs.size
  have htz := ht.size
  have CB := fun W => checkBoth_any s t W (by omega) (by omega)
  have hb : errBoth (bytes s) (bytes t) = 0 := by unfold errBoth; rw [if_pos hs.err, ht.err]
  rw [hb] at CB
  obtain ⟨bs, bt, hbs, hbt, hbb⟩ : ∃ bs bt : Bool, decide ((digL (bytes s)).length ≤ 9) = bs ∧ decide ((digL (bytes t)).length ≤ 9) = bt ∧ ¬ (bs = true ∧ bt = true) := by
    refine ⟨_, _, rfl, rfl, fun ⟨h1, h2⟩ => hxy ⟨?_, ?_⟩⟩
    · exact Decidable.byContradiction fun h => by rw [hs.notShort h] at h1; cases h1
    · exact Decidable.byContradiction fun h => by rw [ht.notShort h] at h2; cases h2
  have IS := fun W => isShort_any s W (by omega)
  have IT := fun W => isShort_any t W (by omega)
  rw [hbs] at IS
  rw [hbt] at IT
  have PS := fun W => parseZ_any s x W hs.text (by omega)
  have PT := fun W => parseZ_any t y W ht.text (by omega)
  have TX : ∀ (W : World) (v : Value), Below w.heap.size w W → IntAt W v r → Calls Tryz.prog 56 #[v] W fun e w' => e = .returned (.string (str (Lib.itoa r))) ∧ Below W.heap.size W w' := fun W v hW hv =>
    textZ_any r v W hv hr ((Lib.tabBelow_of_tabIs htab).on hW).here
  have LG := fun W => isLong_any (str (Lib.itoa r)) W (by
    rw [str_size]
    have h1 := decDigits_limbs r.natAbs
    by_cases hz : r < 0
    · rw [itoa_neg hz]; simp; omega
    · rw [itoa_nonneg hz]; omega)
  rw [bytes_str, digL_itoa] at LG
  have HCB := Lib.hid CB; have HIS := Lib.hid IS; have HIT := Lib.hid IT; have HPS := Lib.hid PS; have HPT := Lib.hid PT; have HTX := Lib.hid TX; have HHL := Lib.hid HL; have HLG := Lib.hid LG
  clear CB IS IT PS PT TX HL LG hb htab hs ht hxy hr hbs hbt
  generalize str (Lib.itoa r) = rs at *
  generalize hlong : decide (4096 < (Lib.decDigits r.natAbs).length) = lg at *
  have hres : (if 4096 < (Lib.decDigits r.natAbs).length then Value.tuple #[.string ⟨#[]⟩, .int .i64 10] else .tuple #[.string rs, .int .i64 0]) = if lg = true then .tuple #[.string ⟨#[]⟩, .int .i64 10] else .tuple #[.string rs, .int .i64 0] := by
    rw [← hlong]; simp
  rw [hres]
  clear hres hlong
  unfold opV
  have B0 : Below w.heap.size w (w.alloc (Obj.cells #[.func (.func 40) #[] #[], .func (.func 41) #[] #[]] 62)) := (Below.refl _ _).alloc (Nat.le_refl _) _
  have c0 : (w.alloc (Obj.cells #[.func (.func 40) #[] #[], .func (.func 41) #[] #[]] 62)).cell? ⟨w.heap.size, 1, none⟩ = some (.func (.func 41) #[] #[]) := by go_cell
  have s0 : w.heap.size < (w.alloc (Obj.cells #[.func (.func 40) #[] #[], .func (.func 41) #[] #[]] 62)).heap.size := by simp
  have key : ∀ W : World, Below w.heap.size w W → W.cell? ⟨w.heap.size, 1, none⟩ = some (.func (.func 41) #[] #[]) → w.heap.size < W.heap.size → True := fun _ _ _ _ => trivial
  clear key
  cases bs
  · go_enter Tryz.func35, Tryz.ntmps35
    go_wp2_with (go_at_call 51; refine (HCB.out _).mono ?_; rintro e w1 ⟨rfl, rfl⟩; refine Hid.out ?_)
    refine Lib.hid ?_
    go_wp2_with (go_at_call 52; refine (HIS.out _).mono ?_; rintro e w1 ⟨rfl, rfl⟩; refine Hid.out ?_)
    refine Lib.hid ?_
    go_wp2_with fail
    generalize w.alloc (Obj.cells #[.func (.func 40) #[] #[], .func (.func 41) #[] #[]] 62) = W at *
    have HB := Lib.hid B0; clear B0
    go_region_held3 (fun w' => w'.cell? ⟨w.heap.size, 1, none⟩ = some (.func (.func 41) #[] #[]) ∧ Below W.heap.size W w') (first | exact keepSMul (a := ⟨w.heap.size, 1, none⟩) s0 ⟨c0, Below.refl _ _⟩ ((Below.refl _ _).drew) | (refine keepSMul (a := ⟨w.heap.size, 1, none⟩) s0 ?_ (by assumption); assumption)) (first
      | (go_at_call_of 55 s; refine (HPS.out _).mono ?_; rintro e w4 ⟨v4, rfl, hv4, hb4⟩)
      | (go_at_call_of 55 t; refine (HPT.out _).mono ?_; rintro e w5 ⟨v5, rfl, hv5, hb5⟩)
      | (go_at_call 41; refine (HHL.out _ _ _ (hv4.mono hb5) hv5).mono ?_; rintro e w6 ⟨v6, rfl, hv6, hb6⟩)
      | (go_at_call 56; refine (HTX.out _ _ (Below.chain HB.out (Below.chain (Below.chain ((Below.refl _ _).drew) hb4) (Below.chain hb5 hb6))) hv6).mono ?_; rintro e w7 ⟨rfl, hb7⟩))
    all_goals
      have hbF := Below.chain HB.out (Below.chain (Below.chain ((Below.refl W.heap.size W).drew) hb4) (Below.chain hb5 (Below.chain hb6 hb7)))
      clear hb4 hb5 hb6 hb7 hv4 hv5 hv6 c0 s0
      go_wp2_with (go_at_call 57; refine (HLG.out _).mono ?_; rintro e w8 ⟨rfl, rfl⟩; refine Hid.out ?_)
      refine Lib.hid ?_
      cases lg
      · go_wp2
        refine bodyPost_ret (by simp [results, Tryz.results35, go_sem]; rfl) rfl ?_
        exact ⟨rfl, hbF⟩
      · go_wp2
        refine bodyPost_ret (by simp [results, Tryz.results35, go_sem]; rfl) rfl ?_
        exact ⟨rfl, hbF⟩
  · have hbt : bt = false := by cases bt <;> simp_all
    subst hbt
    clear hbb
    go_enter Tryz.func35, Tryz.ntmps35
    go_wp2_with (go_at_call 51; refine (HCB.out _).mono ?_; rintro e w1 ⟨rfl, rfl⟩; refine Hid.out ?_)
    refine Lib.hid ?_
    go_wp2_with (go_at_call 52; refine (HIS.out _).mono ?_; rintro e w1 ⟨rfl, rfl⟩; refine Hid.out ?_)
    refine Lib.hid ?_
    go_wp2_with (go_at_call 52; refine (HIT.out _).mono ?_; rintro e w1 ⟨rfl, rfl⟩; refine Hid.out ?_)
    refine Lib.hid ?_
    go_wp2_with fail
    generalize w.alloc (Obj.cells #[.func (.func 40) #[] #[], .func (.func 41) #[] #[]] 62) = W at *
    have HB := Lib.hid B0; clear B0
    go_region_held3 (fun w' => w'.cell? ⟨w.heap.size, 1, none⟩ = some (.func (.func 41) #[] #[]) ∧ Below W.heap.size W w') (first | exact keepSMul (a := ⟨w.heap.size, 1, none⟩) s0 ⟨c0, Below.refl _ _⟩ ((Below.refl _ _).drew) | (refine keepSMul (a := ⟨w.heap.size, 1, none⟩) s0 ?_ (by assumption); assumption)) (first
      | (go_at_call_of 55 s; refine (HPS.out _).mono ?_; rintro e w4 ⟨v4, rfl, hv4, hb4⟩)
      | (go_at_call_of 55 t; refine (HPT.out _).mono ?_; rintro e w5 ⟨v5, rfl, hv5, hb5⟩)
      | (go_at_call 41; refine (HHL.out _ _ _ (hv4.mono hb5) hv5).mono ?_; rintro e w6 ⟨v6, rfl, hv6, hb6⟩)
      | (go_at_call 56; refine (HTX.out _ _ (Below.chain HB.out (Below.chain (Below.chain ((Below.refl _ _).drew) hb4) (Below.chain hb5 hb6))) hv6).mono ?_; rintro e w7 ⟨rfl, hb7⟩))
    all_goals
      have hbF := Below.chain HB.out (Below.chain (Below.chain ((Below.refl W.heap.size W).drew) hb4) (Below.chain hb5 (Below.chain hb6 hb7)))
      clear hb4 hb5 hb6 hb7 hv4 hv5 hv6 c0 s0
      go_wp2_with (go_at_call 57; refine (HLG.out _).mono ?_; rintro e w8 ⟨rfl, rfl⟩; refine Hid.out ?_)
      refine Lib.hid ?_
      cases lg
      · go_wp2
        refine bodyPost_ret (by simp [results, Tryz.results35, go_sem]; rfl) rfl ?_
        exact ⟨rfl, hbF⟩
      · go_wp2
        refine bodyPost_ret (by simp [results, Tryz.results35, go_sem]; rfl) rfl ?_
        exact ⟨rfl, hbF⟩
end Go.Proofs.YtmnbjkbkjmgmkaaGreatDoor

set_option linter.unusedSimpArgs false
set_option linter.unusedVariables false
namespace Go.Proofs.YtmnbjkbkjmgmkaaGreatDoor
open Go Go.Proofs Go.RowKit
set_option maxHeartbeats 1000000 in
theorem same_any (x y : Nat) (vx vy : Value) (w : World) (hx : NumAt w vx x) (hy : NumAt w vy y) (hlx : (limbs x).length ≤ 1000000000000) (hly : (limbs y).length ≤ 1000000000000) :
    Calls Tryz.prog 67 #[vx, vy] w fun e w' => ∃ v', e = .returned v' ∧ IntAt w' v' ((x * y : Nat) : Int) ∧ Below w.heap.size w w' := by
  have C : ∀ W : World, Below w.heap.size w W → Calls Tryz.prog 68 #[vx, vy] W (RetN (x * y) W) := fun W hW => mul_any x y vx vy W (hx.mono hW) (hy.mono hW) hlx hly
  have P : ∀ (W : World) (v : Value), NumAt W v (x * y) → Calls Tryz.prog 59 #[v] W fun e w' => ∃ v', e = .returned v' ∧ IntAt w' v' ((x * y : Nat) : Int) ∧ Below W.heap.size W w' := fun W v h => plus_any _ v W h
  generalize ((x * y : Nat) : Int) = z at *
  generalize x * y = s at *
  have HC := Lib.hid C; have HP := Lib.hid P
  obtain ⟨ao, c, rfl, -⟩ := hx
  obtain ⟨ap, d, rfl, -⟩ := hy
  clear C P hlx hly
  generalize (limbs x).length = n at *
  generalize (limbs y).length = m at *
  have R0 := rbox_new w (Value.slice ao n c) (Value.slice ap m d) 71 71
  go_enter Tryz.func67, Tryz.ntmps67
  go_wp2_with (go_at_call 68; refine (HC.out _ R0.below).mono ?_; rintro e w1 ⟨v1, rfl, hv1, hb1⟩; refine Hid.out ?_)
  have R1 := R0.mono hb1
  refine Lib.hid ?_
  go_wp2_with (go_at_call 59; refine (HP.out _ _ hv1).mono ?_; rintro e w2 ⟨v2, rfl, hv2, hb2⟩; refine Hid.out ?_)
  have R2 := R1.mono hb2
  obtain ⟨a2, c2, rfl, hr2⟩ := hv2.open
  clear R0 R1 hb1 hb2 hv1 hv2
  have k1 := R2.r0; have k2 := R2.r1; have k3 := R2.f0; have k4 := R2.f1
  obtain ⟨hI, hS⟩ := IntAt.stored (w := w) (by omega : w.heap.size ≤ w.heap.size + 1 + 1) R2 hr2
  have q0 := hS.q0; have q1 := hS.q1; have hbF := hS.below
  have HI := Lib.hid hI
  clear hI hS hr2
  refine Lib.hid ?_
  go_wp2
  refine bodyPost_ret (v := .agg #[.bool (sgn z), .slice a2 (lenZ z) c2]) (by simp [results, Tryz.results67, go_sem, q0, q1]) rfl ?_
  exact ⟨_, rfl, HI.out, hbF⟩
set_option maxHeartbeats 1000000 in
theorem opposite_any (x y : Nat) (vx vy : Value) (w : World) (hx : NumAt w vx x) (hy : NumAt w vy y) (hlx : (limbs x).length ≤ 1000000000000) (hly : (limbs y).length ≤ 1000000000000) :
    Calls Tryz.prog 69 #[vx, vy] w fun e w' => ∃ v', e = .returned v' ∧ IntAt w' v' (-((x * y : Nat) : Int)) ∧ Below w.heap.size w w' := by
  have C : ∀ W : World, Below w.heap.size w W → Calls Tryz.prog 68 #[vx, vy] W (RetN (x * y) W) := fun W hW => mul_any x y vx vy W (hx.mono hW) (hy.mono hW) hlx hly
  have P : ∀ (W : World) (v : Value), NumAt W v (x * y) → Calls Tryz.prog 62 #[v] W fun e w' => ∃ v', e = .returned v' ∧ IntAt w' v' (-((x * y : Nat) : Int)) ∧ Below W.heap.size W w' := fun W v h => minus_any _ v W h
  generalize (-((x * y : Nat) : Int)) = z at *
  generalize x * y = s at *
  have HC := Lib.hid C; have HP := Lib.hid P
  obtain ⟨ao, c, rfl, -⟩ := hx
  obtain ⟨ap, d, rfl, -⟩ := hy
  clear C P hlx hly
  generalize (limbs x).length = n at *
  generalize (limbs y).length = m at *
  have R0 := rbox_new w (Value.slice ao n c) (Value.slice ap m d) 71 71
  go_enter Tryz.func69, Tryz.ntmps69
  go_wp2_with (go_at_call 68; refine (HC.out _ R0.below).mono ?_; rintro e w1 ⟨v1, rfl, hv1, hb1⟩; refine Hid.out ?_)
  have R1 := R0.mono hb1
  refine Lib.hid ?_
  go_wp2_with (go_at_call 62; refine (HP.out _ _ hv1).mono ?_; rintro e w2 ⟨v2, rfl, hv2, hb2⟩; refine Hid.out ?_)
  have R2 := R1.mono hb2
  obtain ⟨a2, c2, rfl, hr2⟩ := hv2.open
  clear R0 R1 hb1 hb2 hv1 hv2
  have k1 := R2.r0; have k2 := R2.r1; have k3 := R2.f0; have k4 := R2.f1
  obtain ⟨hI, hS⟩ := IntAt.stored (w := w) (by omega : w.heap.size ≤ w.heap.size + 1 + 1) R2 hr2
  have q0 := hS.q0; have q1 := hS.q1; have hbF := hS.below
  have HI := Lib.hid hI
  clear hI hS hr2
  refine Lib.hid ?_
  go_wp2
  refine bodyPost_ret (v := .agg #[.bool (sgn z), .slice a2 (lenZ z) c2]) (by simp [results, Tryz.results69, go_sem, q0, q1]) rfl ?_
  exact ⟨_, rfl, HI.out, hbF⟩
theorem productTab (x y : Int) (va vb : Value) (w : World) (ha : IntAt w va x) (hb : IntAt w vb y) (hlx : (limbs x.natAbs).length ≤ 1000000000000) (hly : (limbs y.natAbs).length ≤ 1000000000000) :
    Calls Tryz.prog 65 #[tabV 67 69 69 67, va, vb] w fun e w' => ∃ v', e = .returned v' ∧ IntAt w' v' (x * y) ∧ Below w.heap.size w w' := by
  have e1 : ∀ args w, (callFunc 67 args).run Tryz.prog w = .ok (.enter 67 args) w := enters_of Tryz.func67 (by kernel_rfl) rfl
  have e2 : ∀ args w, (callFunc 69 args).run Tryz.prog w = .ok (.enter 69 args) w := enters_of Tryz.func69 (by kernel_rfl) rfl
  by_cases hx : x < 0 <;> by_cases hy : y < 0
  · refine apply11 _ _ _ _ x y (x * y) va vb w ha hb hx hy e1 fun W v1 v2 h1 h2 => ?_
    have := same_any x.natAbs y.natAbs v1 v2 W h1 h2 hlx hly
    have e : ((x.natAbs * y.natAbs : Nat) : Int) = x * y := by
      rw [Int.natCast_mul, show (x.natAbs : Int) = -x by omega, show (y.natAbs : Int) = -y by omega, Int.neg_mul_neg]
    rwa [e] at this
  · refine apply10 _ _ _ _ x y (x * y) va vb w ha hb hx hy e2 fun W v1 v2 h1 h2 => ?_
    have := opposite_any x.natAbs y.natAbs v1 v2 W h1 h2 hlx hly
    have e : (-((x.natAbs * y.natAbs : Nat) : Int)) = x * y := by
      rw [Int.natCast_mul, show (x.natAbs : Int) = -x by omega, show (y.natAbs : Int) = y by omega, Int.neg_mul, Int.neg_neg]
    rwa [e] at this
  · refine apply01 _ _ _ _ x y (x * y) va vb w ha hb hx hy e2 fun W v1 v2 h1 h2 => ?_
    have := opposite_any x.natAbs y.natAbs v1 v2 W h1 h2 hlx hly
    have e : (-((x.natAbs * y.natAbs : Nat) : Int)) = x * y := by
      rw [Int.natCast_mul, show (x.natAbs : Int) = x by omega, show (y.natAbs : Int) = -y by omega, Int.mul_neg, Int.neg_neg]
    rwa [e] at this
  · refine apply00 _ _ _ _ x y (x * y) va vb w ha hb hx hy e1 fun W v1 v2 h1 h2 => ?_
    have := same_any x.natAbs y.natAbs v1 v2 W h1 h2 hlx hly
    have e : ((x.natAbs * y.natAbs : Nat) : Int) = x * y := by
      rw [Int.natCast_mul, show (x.natAbs : Int) = x by omega, show (y.natAbs : Int) = y by omega]
    rwa [e] at this
set_option maxHeartbeats 2000000 in
theorem productZ (x y : Int) (va vb : Value) (w : World) (ha : IntAt w va x) (hb : IntAt w vb y) (hlx : (limbs x.natAbs).length ≤ 1000000000000) (hly : (limbs y.natAbs).length ≤ 1000000000000) :
    Calls Tryz.prog 41 #[va, vb] w fun e w' => ∃ v', e = .returned v' ∧ IntAt w' v' (x * y) ∧ Below w.heap.size w w' := by
  have C : ∀ W : World, Below w.heap.size w W → Calls Tryz.prog 65 #[tabV 67 69 69 67, va, vb] W fun e w' => ∃ v', e = .returned v' ∧ IntAt w' v' (x * y) ∧ Below W.heap.size W w' := fun W hW => productTab x y va vb W (ha.mono hW) (hb.mono hW) hlx hly
  have HC := Lib.hid C
  obtain ⟨ao, c, rfl, -⟩ := ha
  obtain ⟨ap, d, rfl, -⟩ := hb
  clear C hlx hly
  generalize (limbs x.natAbs).length = n at *
  generalize (limbs y.natAbs).length = m at *
  generalize decide (x < 0) = ba at *
  generalize decide (y < 0) = bb at *
  generalize x * y = z at *
  have R0 := rbox3_new w ba bb ao ap n c m d
  go_enter Tryz.func41, Tryz.ntmps41
  go_wp2_with (go_at_call 65; refine (HC.out _ R0.below).mono ?_; rintro e w2 ⟨v2, rfl, hv2, hb2⟩; refine Hid.out ?_)
  have R2 := R0.mono hb2
  obtain ⟨a2, c2, rfl, hr2⟩ := hv2.open
  clear R0 hb2 hv2
  have k1 := R2.r0; have k2 := R2.r1; have k3 := R2.f0; have k4 := R2.f1
  obtain ⟨hI, hS⟩ := IntAt.stored (w := w) (by omega : w.heap.size ≤ w.heap.size + 1 + 1) R2 hr2
  have q0 := hS.q0; have q1 := hS.q1; have hbF := hS.below
  have HI := Lib.hid hI
  clear hI hS hr2
  refine Lib.hid ?_
  go_wp2
  refine bodyPost_ret (v := .agg #[.bool (sgn z), .slice a2 (lenZ z) c2]) (by simp [results, Tryz.results41, go_sem, q0, q1]) rfl ?_
  exact ⟨_, rfl, HI.out, hbF⟩
theorem product_limbs {s t : ByteArray} {x y : Int} (hs : Str s x) (ht : Str t y) : (limbs (x * y).natAbs).length ≤ 911 := by
  obtain ⟨k, hk⟩ : ∃ k : Nat, k = 4096 := ⟨_, rfl⟩
  refine limbs_of_pow (k := k + k) ?_ (by omega)
  rw [Nat.pow_add, Int.natAbs_mul]
  exact Nat.mul_lt_mul'' (hs.lt (by omega)) (ht.lt (by omega))
theorem compMul (s t : ByteArray) (x y : Int) (w : World) (hs : Str s x) (ht : Str t y) (htab : Lib.TabIs Tryz.prog w "internal/strconv.uint64pow10" .u64 Lib.pow10Tab) :
    Calls Tryz.prog 35 #[opV 40 41, .string s, .string t] w fun e w' => e = .returned (resV (x * y)) ∧ Below w.heap.size w w' := by
  by_cases h : x.natAbs < 1000000000 ∧ y.natAbs < 1000000000
  · have := compMul_short s t x y (x * y) w hs ht h.1 h.2 (by have := mul_bound x y h.1 h.2; omega) (by have := mul_bound x y h.1 h.2; omega) (fun W => mulS x y W h.1 h.2) htab
    rwa [← resV_small (r := x * y) (mul_bound x y h.1 h.2)] at this
  · exact compMul_long s t x y (x * y) w hs ht h (by have := product_limbs hs ht; omega) (fun W v1 v2 h1 h2 => productZ x y v1 v2 W h1 h2 (by have := hs.limbs; omega) (by have := ht.limbs; omega)) htab
set_option maxHeartbeats 1000000 in
theorem mulZ (s t : ByteArray) (x y : Int) (w : World) (hs : Str s x) (ht : Str t y) (htab : Lib.TabIs Tryz.prog w "internal/strconv.uint64pow10" .u64 Lib.pow10Tab) :
    Calls Tryz.prog 24 #[.string s, .string t] w fun e w' => e = .returned (resV (x * y)) ∧ Below w.heap.size w w' := by
  have C := compMul s t x y w hs ht htab
  obtain ⟨a, e0, hr⟩ := resV_parts (x * y)
  rw [hr] at C ⊢
  clear hr hs ht htab
  unfold opV at C
  have HC := Lib.hid C; clear C
  go_enter Tryz.func24, Tryz.ntmps24
  go_wp2_with (go_at_call 35; refine HC.out.mono ?_; rintro e w2 ⟨rfl, hb2⟩; refine Hid.out ?_)
  refine Lib.hid ?_
  go_wp2
  refine bodyPost_ret (by simp [results, Tryz.results24, go_sem]; rfl) rfl ?_
  exact ⟨rfl, hb2⟩
end Go.Proofs.YtmnbjkbkjmgmkaaGreatDoor

set_option linter.unusedSimpArgs false
set_option linter.unusedVariables false
namespace Go.Proofs.YtmnbjkbkjmgmkaaGreatDoor
open Go Go.Proofs Go.RowKit Go.Sort
set_option maxHeartbeats 4000000 in
theorem compQuo_short (s t : ByteArray) (x y r : Int) (w : World) (hs : Str s x) (ht : Str t y) (hx : x.natAbs < 1000000000) (hy : y.natAbs < 1000000000) (hr0 : -9223372036854775808 ≤ r) (hr1 : r ≤ 9223372036854775807)
    (HS : ∀ W : World, Calls Tryz.prog 43 #[.int .i64 x, .int .i64 y] W fun e w' => e = .returned (.int .i64 r) ∧ Below W.heap.size W w')
    (htab : Lib.TabIs Tryz.prog w "internal/strconv.uint64pow10" .u64 Lib.pow10Tab) :
    Calls Tryz.prog 35 #[opV 43 44, .string s, .string t] w fun e w' => e = .returned (.tuple #[.string (str (Lib.itoa r)), .int .i64 0]) ∧ Below w.heap.size w w' := by
  have hsz := hs.size
  have htz := ht.size
  have CB := fun W => checkBoth_any s t W (by omega) (by omega)
  have hb : errBoth (bytes s) (bytes t) = 0 := by unfold errBoth; rw [if_pos hs.err, ht.err]
  rw [hb] at CB
  have IS := fun W => isShort_any s W (by omega)
  have IT := fun W => isShort_any t W (by omega)
  rw [hs.short hx] at IS
  rw [ht.short hy] at IT
  have WS := fun W => wordZ_any s x W hs.text (by omega) (by omega)
  have WT := fun W => wordZ_any t y W ht.text (by omega) (by omega)
  have FI : ∀ W : World, Below w.heap.size w W → Calls Tryz.prog 53 #[.int .i64 r, .int .i64 10] W fun e w' => e = .returned (.string (str (Lib.itoa r))) ∧ Below W.heap.size W w' := fun W hW =>
    (Tryz.strconv_FormatInt_10 r hr0 hr1 W ((Lib.tabBelow_of_tabIs htab).on hW).here).mono fun e w' ⟨h1, k, os, h2⟩ => ⟨h1, by rw [h2]; exact Lib.below_grow _ W (Nat.le_refl _) k os⟩
  have HCB := Lib.hid CB; have HIS := Lib.hid IS; have HIT := Lib.hid IT; have HWS := Lib.hid WS; have HWT := Lib.hid WT; have HFI := Lib.hid FI; have HHS := Lib.hid HS
  clear CB IS IT WS WT FI HS hb htab hs ht hx hy hr0 hr1
  generalize str (Lib.itoa r) = rs at *
  unfold opV
  have B0 : Below w.heap.size w (w.alloc (Obj.cells #[.func (.func 43) #[] #[], .func (.func 44) #[] #[]] 62)) := (Below.refl _ _).alloc (Nat.le_refl _) _
  have c0 : (w.alloc (Obj.cells #[.func (.func 43) #[] #[], .func (.func 44) #[] #[]] 62)).cell? ⟨w.heap.size, 0, none⟩ = some (.func (.func 43) #[] #[]) := by go_cell
  go_enter Tryz.func35, Tryz.ntmps35
  go_wp2_with (go_at_call 51; refine (HCB.out _).mono ?_; rintro e w1 ⟨rfl, rfl⟩; refine Hid.out ?_)
  refine Lib.hid ?_
  go_wp2_with (go_at_call 52; refine (HIS.out _).mono ?_; rintro e w1 ⟨rfl, rfl⟩; refine Hid.out ?_)
  refine Lib.hid ?_
  go_wp2_with (go_at_call 52; refine (HIT.out _).mono ?_; rintro e w1 ⟨rfl, rfl⟩; refine Hid.out ?_)
  refine Lib.hid ?_
  go_wp2_with fail
  generalize w.alloc (Obj.cells #[.func (.func 43) #[] #[], .func (.func 44) #[] #[]] 62) = W at *
  have HB := Lib.hid B0; clear B0
  have hcell : ∀ d os, (grow (redrawn W d) os).cell? ⟨w.heap.size, 0, none⟩ = some (.func (.func 43) #[] #[]) := fun d os => cell_regrown c0 d os
  have cS : ∀ d os, Calls Tryz.prog 54 #[.string s] (grow (redrawn W d) os) fun e w'' => e = .returned (.int .i64 x) ∧ ∃ p : Regrown, w'' = grow (redrawn W p.d) p.os := fun d os => Calls.regrown_of (HWS.out _)
  have cT : ∀ d os, Calls Tryz.prog 54 #[.string t] (grow (redrawn W d) os) fun e w'' => e = .returned (.int .i64 y) ∧ ∃ p : Regrown, w'' = grow (redrawn W p.d) p.os := fun d os => Calls.regrown_of (HWT.out _)
  have cF : ∀ d os, Calls Tryz.prog 53 #[.int .i64 r, .int .i64 10] (grow (redrawn W d) os) fun e w'' => e = .returned (.string rs) ∧ ∃ p : Regrown, w'' = grow (redrawn W p.d) p.os := fun d os => Calls.regrown_of (HFI.out _ (Below.chain HB.out (below_regrown W d os)))
  have cH : ∀ d os, Calls Tryz.prog 43 #[.int .i64 x, .int .i64 y] (grow (redrawn W d) os) fun e w'' => e = .returned (.int .i64 r) ∧ ∃ p : Regrown, w'' = grow (redrawn W p.d) p.os := fun d os => Calls.regrown_of (HHS.out _)
  have KS := Lib.hid cS; have KT := Lib.hid cT; have KF := Lib.hid cF; have KH := Lib.hid cH
  clear cS cT cF cH
  refine wp_region_quiet_below (by kernel_rfl) (by kernel_rfl) ?_
  quiet_step (fail)
  quiet_step (fail)
  quiet_step (fail)
  quiet_step (exact KS.out _ _)
  quiet_step (fail)
  quiet_step (exact KT.out _ _)
  quiet_step (exact KH.out _ _)
  quiet_step (exact KF.out _ _)
  quiet_step (fail)
  quiet_step (fail)
  refine wpQuiet_nil ?_
  intro _ hw'
  obtain ⟨⟨dq, osq⟩, hw''⟩ := hw'
  subst hw''
  go_wp2
  refine bodyPost_ret (by simp [results, Tryz.results35, go_sem]; rfl) rfl ?_
  exact ⟨rfl, Below.chain HB.out (below_regrown W dq osq)⟩
theorem keepSQuo {W w1 w2 : World} {a : Addr} {v : Value} (hlt : a.block < W.heap.size) (h : w1.cell? a = some v ∧ Below W.heap.size W w1) (hb : Below w1.heap.size w1 w2) : w2.cell? a = some v ∧ Below W.heap.size W w2 :=
  ⟨(hb.cell (Nat.lt_of_lt_of_le hlt h.2.size)).trans h.1, Below.chain h.2 hb⟩
set_option maxHeartbeats 4000000 in
theorem compQuo_long (s t : ByteArray) (x y r : Int) (w : World) (hs : Str s x) (ht : Str t y) (hxy : ¬ (x.natAbs < 1000000000 ∧ y.natAbs < 1000000000)) (hr : (limbs r.natAbs).length ≤ 1000000000000)
    (HL : ∀ (W : World) (v1 v2 : Value), IntAt W v1 x → IntAt W v2 y → Calls Tryz.prog 44 #[v1, v2] W fun e w' => ∃ v, e = .returned v ∧ IntAt w' v r ∧ Below W.heap.size W w')
    (htab : Lib.TabIs Tryz.prog w "internal/strconv.uint64pow10" .u64 Lib.pow10Tab) :
    Calls Tryz.prog 35 #[opV 43 44, .string s, .string t] w fun e w' =>
      e = .returned (if 4096 < (Lib.decDigits r.natAbs).length then .tuple #[.string ⟨#[]⟩, .int .i64 10] else .tuple #[.string (str (Lib.itoa r)), .int .i64 0]) ∧ Below w.heap.size w w' := by
  have hsz := hs.size
  have htz := ht.size
  have CB := fun W => checkBoth_any s t W (by omega) (by omega)
  have hb : errBoth (bytes s) (bytes t) = 0 := by unfold errBoth; rw [if_pos hs.err, ht.err]
  rw [hb] at CB
  obtain ⟨bs, bt, hbs, hbt, hbb⟩ : ∃ bs bt : Bool, decide ((digL (bytes s)).length ≤ 9) = bs ∧ decide ((digL (bytes t)).length ≤ 9) = bt ∧ ¬ (bs = true ∧ bt = true) := by
    refine ⟨_, _, rfl, rfl, fun ⟨h1, h2⟩ => hxy ⟨?_, ?_⟩⟩
    · exact Decidable.byContradiction fun h => by rw [hs.notShort h] at h1; cases h1
    · exact Decidable.byContradiction fun h => by rw [ht.notShort h] at h2; cases h2
  have IS := fun W => isShort_any s W (by omega)
  have IT := fun W => isShort_any t W (by omega)
  rw [hbs] at IS
  rw [hbt] at IT
  have PS := fun W => parseZ_any s x W hs.text (by omega)
  have PT := fun W => parseZ_any t y W ht.text (by omega)
  have TX : ∀ (W : World) (v : Value), Below w.heap.size w W → IntAt W v r → Calls Tryz.prog 56 #[v] W fun e w' => e = .returned (.string (str (Lib.itoa r))) ∧ Below W.heap.size W w' := fun W v hW hv =>
    textZ_any r v W hv hr ((Lib.tabBelow_of_tabIs htab).on hW).here
  have LG := fun W => isLong_any (str (Lib.itoa r)) W (by
    rw [str_size]
    have h1 := decDigits_limbs r.natAbs
    by_cases hz : r < 0
    · rw [itoa_neg hz]; simp; omega
    · rw [itoa_nonneg hz]; omega)
  rw [bytes_str, digL_itoa] at LG
  have HCB := Lib.hid CB; have HIS := Lib.hid IS; have HIT := Lib.hid IT; have HPS := Lib.hid PS; have HPT := Lib.hid PT; have HTX := Lib.hid TX; have HHL := Lib.hid HL; have HLG := Lib.hid LG
  clear CB IS IT PS PT TX HL LG hb htab hs ht hxy hr hbs hbt
  generalize str (Lib.itoa r) = rs at *
  generalize hlong : decide (4096 < (Lib.decDigits r.natAbs).length) = lg at *
  have hres : (if 4096 < (Lib.decDigits r.natAbs).length then Value.tuple #[.string ⟨#[]⟩, .int .i64 10] else .tuple #[.string rs, .int .i64 0]) = if lg = true then .tuple #[.string ⟨#[]⟩, .int .i64 10] else .tuple #[.string rs, .int .i64 0] := by
    rw [← hlong]; simp
  rw [hres]
  clear hres hlong
  unfold opV
  have B0 : Below w.heap.size w (w.alloc (Obj.cells #[.func (.func 43) #[] #[], .func (.func 44) #[] #[]] 62)) := (Below.refl _ _).alloc (Nat.le_refl _) _
  have c0 : (w.alloc (Obj.cells #[.func (.func 43) #[] #[], .func (.func 44) #[] #[]] 62)).cell? ⟨w.heap.size, 1, none⟩ = some (.func (.func 44) #[] #[]) := by go_cell
  have s0 : w.heap.size < (w.alloc (Obj.cells #[.func (.func 43) #[] #[], .func (.func 44) #[] #[]] 62)).heap.size := by simp
  have key : ∀ W : World, Below w.heap.size w W → W.cell? ⟨w.heap.size, 1, none⟩ = some (.func (.func 44) #[] #[]) → w.heap.size < W.heap.size → True := fun _ _ _ _ => trivial
  clear key
  cases bs
  · go_enter Tryz.func35, Tryz.ntmps35
    go_wp2_with (go_at_call 51; refine (HCB.out _).mono ?_; rintro e w1 ⟨rfl, rfl⟩; refine Hid.out ?_)
    refine Lib.hid ?_
    go_wp2_with (go_at_call 52; refine (HIS.out _).mono ?_; rintro e w1 ⟨rfl, rfl⟩; refine Hid.out ?_)
    refine Lib.hid ?_
    go_wp2_with fail
    generalize w.alloc (Obj.cells #[.func (.func 43) #[] #[], .func (.func 44) #[] #[]] 62) = W at *
    have HB := Lib.hid B0; clear B0
    go_region_held3 (fun w' => w'.cell? ⟨w.heap.size, 1, none⟩ = some (.func (.func 44) #[] #[]) ∧ Below W.heap.size W w') (first | exact keepSQuo (a := ⟨w.heap.size, 1, none⟩) s0 ⟨c0, Below.refl _ _⟩ ((Below.refl _ _).drew) | (refine keepSQuo (a := ⟨w.heap.size, 1, none⟩) s0 ?_ (by assumption); assumption)) (first
      | (go_at_call_of 55 s; refine (HPS.out _).mono ?_; rintro e w4 ⟨v4, rfl, hv4, hb4⟩)
      | (go_at_call_of 55 t; refine (HPT.out _).mono ?_; rintro e w5 ⟨v5, rfl, hv5, hb5⟩)
      | (go_at_call 44; refine (HHL.out _ _ _ (hv4.mono hb5) hv5).mono ?_; rintro e w6 ⟨v6, rfl, hv6, hb6⟩)
      | (go_at_call 56; refine (HTX.out _ _ (Below.chain HB.out (Below.chain (Below.chain ((Below.refl _ _).drew) hb4) (Below.chain hb5 hb6))) hv6).mono ?_; rintro e w7 ⟨rfl, hb7⟩))
    all_goals
      have hbF := Below.chain HB.out (Below.chain (Below.chain ((Below.refl W.heap.size W).drew) hb4) (Below.chain hb5 (Below.chain hb6 hb7)))
      clear hb4 hb5 hb6 hb7 hv4 hv5 hv6 c0 s0
      go_wp2_with (go_at_call 57; refine (HLG.out _).mono ?_; rintro e w8 ⟨rfl, rfl⟩; refine Hid.out ?_)
      refine Lib.hid ?_
      cases lg
      · go_wp2
        refine bodyPost_ret (by simp [results, Tryz.results35, go_sem]; rfl) rfl ?_
        exact ⟨rfl, hbF⟩
      · go_wp2
        refine bodyPost_ret (by simp [results, Tryz.results35, go_sem]; rfl) rfl ?_
        exact ⟨rfl, hbF⟩
  · have hbt : bt = false := by cases bt <;> simp_all
    subst hbt
    clear hbb
    go_enter Tryz.func35, Tryz.ntmps35
    go_wp2_with (go_at_call 51; refine (HCB.out _).mono ?_; rintro e w1 ⟨rfl, rfl⟩; refine Hid.out ?_)
    refine Lib.hid ?_
    go_wp2_with (go_at_call 52; refine (HIS.out _).mono ?_; rintro e w1 ⟨rfl, rfl⟩; refine Hid.out ?_)
    refine Lib.hid ?_
    go_wp2_with (go_at_call 52; refine (HIT.out _).mono ?_; rintro e w1 ⟨rfl, rfl⟩; refine Hid.out ?_)
    refine Lib.hid ?_
    go_wp2_with fail
    generalize w.alloc (Obj.cells #[.func (.func 43) #[] #[], .func (.func 44) #[] #[]] 62) = W at *
    have HB := Lib.hid B0; clear B0
    go_region_held3 (fun w' => w'.cell? ⟨w.heap.size, 1, none⟩ = some (.func (.func 44) #[] #[]) ∧ Below W.heap.size W w') (first | exact keepSQuo (a := ⟨w.heap.size, 1, none⟩) s0 ⟨c0, Below.refl _ _⟩ ((Below.refl _ _).drew) | (refine keepSQuo (a := ⟨w.heap.size, 1, none⟩) s0 ?_ (by assumption); assumption)) (first
      | (go_at_call_of 55 s; refine (HPS.out _).mono ?_; rintro e w4 ⟨v4, rfl, hv4, hb4⟩)
      | (go_at_call_of 55 t; refine (HPT.out _).mono ?_; rintro e w5 ⟨v5, rfl, hv5, hb5⟩)
      | (go_at_call 44; refine (HHL.out _ _ _ (hv4.mono hb5) hv5).mono ?_; rintro e w6 ⟨v6, rfl, hv6, hb6⟩)
      | (go_at_call 56; refine (HTX.out _ _ (Below.chain HB.out (Below.chain (Below.chain ((Below.refl _ _).drew) hb4) (Below.chain hb5 hb6))) hv6).mono ?_; rintro e w7 ⟨rfl, hb7⟩))
    all_goals
      have hbF := Below.chain HB.out (Below.chain (Below.chain ((Below.refl W.heap.size W).drew) hb4) (Below.chain hb5 (Below.chain hb6 hb7)))
      clear hb4 hb5 hb6 hb7 hv4 hv5 hv6 c0 s0
      go_wp2_with (go_at_call 57; refine (HLG.out _).mono ?_; rintro e w8 ⟨rfl, rfl⟩; refine Hid.out ?_)
      refine Lib.hid ?_
      cases lg
      · go_wp2
        refine bodyPost_ret (by simp [results, Tryz.results35, go_sem]; rfl) rfl ?_
        exact ⟨rfl, hbF⟩
      · go_wp2
        refine bodyPost_ret (by simp [results, Tryz.results35, go_sem]; rfl) rfl ?_
        exact ⟨rfl, hbF⟩
set_option maxHeartbeats 4000000 in
theorem compRem_short (s t : ByteArray) (x y r : Int) (w : World) (hs : Str s x) (ht : Str t y) (hx : x.natAbs < 1000000000) (hy : y.natAbs < 1000000000) (hr0 : -9223372036854775808 ≤ r) (hr1 : r ≤ 9223372036854775807)
    (HS : ∀ W : World, Calls Tryz.prog 45 #[.int .i64 x, .int .i64 y] W fun e w' => e = .returned (.int .i64 r) ∧ Below W.heap.size W w')
    (htab : Lib.TabIs Tryz.prog w "internal/strconv.uint64pow10" .u64 Lib.pow10Tab) :
    Calls Tryz.prog 35 #[opV 45 46, .string s, .string t] w fun e w' => e = .returned (.tuple #[.string (str (Lib.itoa r)), .int .i64 0]) ∧ Below w.heap.size w w' := by
  have hsz := hs.size
  have htz := ht.size
  have CB := fun W => checkBoth_any s t W (by omega) (by omega)
  have hb : errBoth (bytes s) (bytes t) = 0 := by unfold errBoth; rw [if_pos hs.err, ht.err]
  rw [hb] at CB
  have IS := fun W => isShort_any s W (by omega)
  have IT := fun W => isShort_any t W (by omega)
  rw [hs.short hx] at IS
  rw [ht.short hy] at IT
  have WS := fun W => wordZ_any s x W hs.text (by omega) (by omega)
  have WT := fun W => wordZ_any t y W ht.text (by omega) (by omega)
  have FI : ∀ W : World, Below w.heap.size w W → Calls Tryz.prog 53 #[.int .i64 r, .int .i64 10] W fun e w' => e = .returned (.string (str (Lib.itoa r))) ∧ Below W.heap.size W w' := fun W hW =>
    (Tryz.strconv_FormatInt_10 r hr0 hr1 W ((Lib.tabBelow_of_tabIs htab).on hW).here).mono fun e w' ⟨h1, k, os, h2⟩ => ⟨h1, by rw [h2]; exact Lib.below_grow _ W (Nat.le_refl _) k os⟩
  have HCB := Lib.hid CB; have HIS := Lib.hid IS; have HIT := Lib.hid IT; have HWS := Lib.hid WS; have HWT := Lib.hid WT; have HFI := Lib.hid FI; have HHS := Lib.hid HS
  clear CB IS IT WS WT FI HS hb htab hs ht hx hy hr0 hr1
  generalize str (Lib.itoa r) = rs at *
  unfold opV
  have B0 : Below w.heap.size w (w.alloc (Obj.cells #[.func (.func 45) #[] #[], .func (.func 46) #[] #[]] 62)) := (Below.refl _ _).alloc (Nat.le_refl _) _
  have c0 : (w.alloc (Obj.cells #[.func (.func 45) #[] #[], .func (.func 46) #[] #[]] 62)).cell? ⟨w.heap.size, 0, none⟩ = some (.func (.func 45) #[] #[]) := by go_cell
  go_enter Tryz.func35, Tryz.ntmps35
  go_wp2_with (go_at_call 51; refine (HCB.out _).mono ?_; rintro e w1 ⟨rfl, rfl⟩; refine Hid.out ?_)
  refine Lib.hid ?_
  go_wp2_with (go_at_call 52; refine (HIS.out _).mono ?_; rintro e w1 ⟨rfl, rfl⟩; refine Hid.out ?_)
  refine Lib.hid ?_
  go_wp2_with (go_at_call 52; refine (HIT.out _).mono ?_; rintro e w1 ⟨rfl, rfl⟩; refine Hid.out ?_)
  refine Lib.hid ?_
  go_wp2_with fail
  generalize w.alloc (Obj.cells #[.func (.func 45) #[] #[], .func (.func 46) #[] #[]] 62) = W at *
  have HB := Lib.hid B0; clear B0
  have hcell : ∀ d os, (grow (redrawn W d) os).cell? ⟨w.heap.size, 0, none⟩ = some (.func (.func 45) #[] #[]) := fun d os => cell_regrown c0 d os
  have cS : ∀ d os, Calls Tryz.prog 54 #[.string s] (grow (redrawn W d) os) fun e w'' => e = .returned (.int .i64 x) ∧ ∃ p : Regrown, w'' = grow (redrawn W p.d) p.os := fun d os => Calls.regrown_of (HWS.out _)
  have cT : ∀ d os, Calls Tryz.prog 54 #[.string t] (grow (redrawn W d) os) fun e w'' => e = .returned (.int .i64 y) ∧ ∃ p : Regrown, w'' = grow (redrawn W p.d) p.os := fun d os => Calls.regrown_of (HWT.out _)
  have cF : ∀ d os, Calls Tryz.prog 53 #[.int .i64 r, .int .i64 10] (grow (redrawn W d) os) fun e w'' => e = .returned (.string rs) ∧ ∃ p : Regrown, w'' = grow (redrawn W p.d) p.os := fun d os => Calls.regrown_of (HFI.out _ (Below.chain HB.out (below_regrown W d os)))
  have cH : ∀ d os, Calls Tryz.prog 45 #[.int .i64 x, .int .i64 y] (grow (redrawn W d) os) fun e w'' => e = .returned (.int .i64 r) ∧ ∃ p : Regrown, w'' = grow (redrawn W p.d) p.os := fun d os => Calls.regrown_of (HHS.out _)
  have KS := Lib.hid cS; have KT := Lib.hid cT; have KF := Lib.hid cF; have KH := Lib.hid cH
  clear cS cT cF cH
  refine wp_region_quiet_below (by kernel_rfl) (by kernel_rfl) ?_
  quiet_step (fail)
  quiet_step (fail)
  quiet_step (fail)
  quiet_step (exact KS.out _ _)
  quiet_step (fail)
  quiet_step (exact KT.out _ _)
  quiet_step (exact KH.out _ _)
  quiet_step (exact KF.out _ _)
  quiet_step (fail)
  quiet_step (fail)
  refine wpQuiet_nil ?_
  intro _ hw'
  obtain ⟨⟨dq, osq⟩, hw''⟩ := hw'
  subst hw''
  go_wp2
  refine bodyPost_ret (by simp [results, Tryz.results35, go_sem]; rfl) rfl ?_
  exact ⟨rfl, Below.chain HB.out (below_regrown W dq osq)⟩
end Go.Proofs.YtmnbjkbkjmgmkaaGreatDoor
