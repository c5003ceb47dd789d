import Derived.Test.YtipnnmbjkpidoaaGreatDoorBase17
import Derived.Test.YtipnnmbjkpidoaaGreatDoorBase20
import Derived.Test.YtipnnmbjkpidoaaGreatDoorBase28
import Derived.Test.YtipnnmbjkpidoaaGreatDoorBase10

set_option linter.unusedVariables false
/-
  bigint: product, Mul.
-/
namespace Go.Proofs.YtipnnmbjkpidoaaGreatDoor
open Go Go.Proofs Go.RowKit

set_option maxHeartbeats 1000000 in
theorem same_any (x y : Nat) (vx vy : Value) (w : World) (hx : NumAt w vx x) (hy : NumAt w vy y) (hlx : (limbs x).length ≤ 1000000000000) (hly : (limbs y).length ≤ 1000000000000) :
    Calls Tryz.prog 131 #[vx, vy] w fun e w' => ∃ v', e = .returned v' ∧ IntAt w' v' ((x * y : Nat) : Int) ∧ Below w.heap.size w w' := by
  have C : ∀ W : World, Below w.heap.size w W → Calls Tryz.prog 132 #[vx, vy] W (RetN (x * y) W) := fun W hW => mul_any x y vx vy W (hx.mono hW) (hy.mono hW) hlx hly
  have P : ∀ (W : World) (v : Value), NumAt W v (x * y) → Calls Tryz.prog 120 #[v] W fun e w' => ∃ v', e = .returned v' ∧ IntAt w' v' ((x * y : Nat) : Int) ∧ Below W.heap.size W w' := fun W v h => plus_any _ v W h
  generalize ((x * y : Nat) : Int) = z at *
  generalize x * y = s at *
  have HC := Lib.hid C; have HP := Lib.hid P
  obtain ⟨ao, c, rfl, -⟩ := hx
  obtain ⟨ap, d, rfl, -⟩ := hy
  clear C P hlx hly
  generalize (limbs x).length = n at *
  generalize (limbs y).length = m at *
  have R0 := rbox_new w (Value.slice ao n c) (Value.slice ap m d) 79 79
  go_enter Tryz.func131, Tryz.ntmps131
  go_wp2_with (go_at_call 132; refine (HC.out _ R0.below).mono ?_; rintro e w1 ⟨v1, rfl, hv1, hb1⟩; refine Hid.out ?_)
  have R1 := R0.mono hb1
  refine Lib.hid ?_
  go_wp2_with (go_at_call 120; refine (HP.out _ _ hv1).mono ?_; rintro e w2 ⟨v2, rfl, hv2, hb2⟩; refine Hid.out ?_)
  have R2 := R1.mono hb2
  obtain ⟨a2, c2, rfl, hr2⟩ := hv2.open
  clear R0 R1 hb1 hb2 hv1 hv2
  have k1 := R2.r0; have k2 := R2.r1; have k3 := R2.f0; have k4 := R2.f1
  obtain ⟨hI, hS⟩ := IntAt.stored (w := w) (by omega : w.heap.size ≤ w.heap.size + 1 + 1) R2 hr2
  have q0 := hS.q0; have q1 := hS.q1; have hbF := hS.below
  have HI := Lib.hid hI
  clear hI hS hr2
  refine Lib.hid ?_
  go_wp2
  refine bodyPost_ret (v := .agg #[.bool (sgn z), .slice a2 (lenZ z) c2]) (by simp [results, Tryz.results131, go_sem, q0, q1]) rfl ?_
  exact ⟨_, rfl, HI.out, hbF⟩

set_option maxHeartbeats 1000000 in
theorem opposite_any (x y : Nat) (vx vy : Value) (w : World) (hx : NumAt w vx x) (hy : NumAt w vy y) (hlx : (limbs x).length ≤ 1000000000000) (hly : (limbs y).length ≤ 1000000000000) :
    Calls Tryz.prog 133 #[vx, vy] w fun e w' => ∃ v', e = .returned v' ∧ IntAt w' v' (-((x * y : Nat) : Int)) ∧ Below w.heap.size w w' := by
  have C : ∀ W : World, Below w.heap.size w W → Calls Tryz.prog 132 #[vx, vy] W (RetN (x * y) W) := fun W hW => mul_any x y vx vy W (hx.mono hW) (hy.mono hW) hlx hly
  have P : ∀ (W : World) (v : Value), NumAt W v (x * y) → Calls Tryz.prog 123 #[v] W fun e w' => ∃ v', e = .returned v' ∧ IntAt w' v' (-((x * y : Nat) : Int)) ∧ Below W.heap.size W w' := fun W v h => minus_any _ v W h
  generalize (-((x * y : Nat) : Int)) = z at *
  generalize x * y = s at *
  have HC := Lib.hid C; have HP := Lib.hid P
  obtain ⟨ao, c, rfl, -⟩ := hx
  obtain ⟨ap, d, rfl, -⟩ := hy
  clear C P hlx hly
  generalize (limbs x).length = n at *
  generalize (limbs y).length = m at *
  have R0 := rbox_new w (Value.slice ao n c) (Value.slice ap m d) 79 79
  go_enter Tryz.func133, Tryz.ntmps133
  go_wp2_with (go_at_call 132; refine (HC.out _ R0.below).mono ?_; rintro e w1 ⟨v1, rfl, hv1, hb1⟩; refine Hid.out ?_)
  have R1 := R0.mono hb1
  refine Lib.hid ?_
  go_wp2_with (go_at_call 123; refine (HP.out _ _ hv1).mono ?_; rintro e w2 ⟨v2, rfl, hv2, hb2⟩; refine Hid.out ?_)
  have R2 := R1.mono hb2
  obtain ⟨a2, c2, rfl, hr2⟩ := hv2.open
  clear R0 R1 hb1 hb2 hv1 hv2
  have k1 := R2.r0; have k2 := R2.r1; have k3 := R2.f0; have k4 := R2.f1
  obtain ⟨hI, hS⟩ := IntAt.stored (w := w) (by omega : w.heap.size ≤ w.heap.size + 1 + 1) R2 hr2
  have q0 := hS.q0; have q1 := hS.q1; have hbF := hS.below
  have HI := Lib.hid hI
  clear hI hS hr2
  refine Lib.hid ?_
  go_wp2
  refine bodyPost_ret (v := .agg #[.bool (sgn z), .slice a2 (lenZ z) c2]) (by simp [results, Tryz.results133, go_sem, q0, q1]) rfl ?_
  exact ⟨_, rfl, HI.out, hbF⟩


theorem productTab (x y : Int) (va vb : Value) (w : World) (ha : IntAt w va x) (hb : IntAt w vb y) (hlx : (limbs x.natAbs).length ≤ 1000000000000) (hly : (limbs y.natAbs).length ≤ 1000000000000) :
    Calls Tryz.prog 126 #[tabV 131 133 133 131, va, vb] w fun e w' => ∃ v', e = .returned v' ∧ IntAt w' v' (x * y) ∧ Below w.heap.size w w' := by
  have e1 : ∀ args w, (callFunc 131 args).run Tryz.prog w = .ok (.enter 131 args) w := enters_of Tryz.func131 (by kernel_rfl) rfl
  have e2 : ∀ args w, (callFunc 133 args).run Tryz.prog w = .ok (.enter 133 args) w := enters_of Tryz.func133 (by kernel_rfl) rfl
  by_cases hx : x < 0 <;> by_cases hy : y < 0
  · refine apply11 _ _ _ _ x y (x * y) va vb w ha hb hx hy e1 fun W v1 v2 h1 h2 => ?_
    have := same_any x.natAbs y.natAbs v1 v2 W h1 h2 hlx hly
    have e : ((x.natAbs * y.natAbs : Nat) : Int) = x * y := by
      rw [Int.natCast_mul, show (x.natAbs : Int) = -x by omega, show (y.natAbs : Int) = -y by omega, Int.neg_mul_neg]
    rwa [e] at this
  · refine apply10 _ _ _ _ x y (x * y) va vb w ha hb hx hy e2 fun W v1 v2 h1 h2 => ?_
    have := opposite_any x.natAbs y.natAbs v1 v2 W h1 h2 hlx hly
    have e : (-((x.natAbs * y.natAbs : Nat) : Int)) = x * y := by
      rw [Int.natCast_mul, show (x.natAbs : Int) = -x by omega, show (y.natAbs : Int) = y by omega, Int.neg_mul, Int.neg_neg]
    rwa [e] at this
  · refine apply01 _ _ _ _ x y (x * y) va vb w ha hb hx hy e2 fun W v1 v2 h1 h2 => ?_
    have := opposite_any x.natAbs y.natAbs v1 v2 W h1 h2 hlx hly
    have e : (-((x.natAbs * y.natAbs : Nat) : Int)) = x * y := by
      rw [Int.natCast_mul, show (x.natAbs : Int) = x by omega, show (y.natAbs : Int) = -y by omega, Int.mul_neg, Int.neg_neg]
    rwa [e] at this
  · refine apply00 _ _ _ _ x y (x * y) va vb w ha hb hx hy e1 fun W v1 v2 h1 h2 => ?_
    have := same_any x.natAbs y.natAbs v1 v2 W h1 h2 hlx hly
    have e : ((x.natAbs * y.natAbs : Nat) : Int) = x * y := by
      rw [Int.natCast_mul, show (x.natAbs : Int) = x by omega, show (y.natAbs : Int) = y by omega]
    rwa [e] at this

set_option maxHeartbeats 2000000 in
theorem productZ (x y : Int) (va vb : Value) (w : World) (ha : IntAt w va x) (hb : IntAt w vb y) (hlx : (limbs x.natAbs).length ≤ 1000000000000) (hly : (limbs y.natAbs).length ≤ 1000000000000) :
    Calls Tryz.prog 86 #[va, vb] w fun e w' => ∃ v', e = .returned v' ∧ IntAt w' v' (x * y) ∧ Below w.heap.size w w' := by
  have C : ∀ W : World, Below w.heap.size w W → Calls Tryz.prog 126 #[tabV 131 133 133 131, va, vb] W fun e w' => ∃ v', e = .returned v' ∧ IntAt w' v' (x * y) ∧ Below W.heap.size W w' := fun W hW => productTab x y va vb W (ha.mono hW) (hb.mono hW) hlx hly
  have HC := Lib.hid C
  obtain ⟨ao, c, rfl, -⟩ := ha
  obtain ⟨ap, d, rfl, -⟩ := hb
  clear C hlx hly
  generalize (limbs x.natAbs).length = n at *
  generalize (limbs y.natAbs).length = m at *
  generalize decide (x < 0) = ba at *
  generalize decide (y < 0) = bb at *
  generalize x * y = z at *
  have R0 := rbox3_new w ba bb ao ap n c m d
  go_enter Tryz.func86, Tryz.ntmps86
  go_wp2_with (go_at_call 126; refine (HC.out _ R0.below).mono ?_; rintro e w2 ⟨v2, rfl, hv2, hb2⟩; refine Hid.out ?_)
  have R2 := R0.mono hb2
  obtain ⟨a2, c2, rfl, hr2⟩ := hv2.open
  clear R0 hb2 hv2
  have k1 := R2.r0; have k2 := R2.r1; have k3 := R2.f0; have k4 := R2.f1
  obtain ⟨hI, hS⟩ := IntAt.stored (w := w) (by omega : w.heap.size ≤ w.heap.size + 1 + 1) R2 hr2
  have q0 := hS.q0; have q1 := hS.q1; have hbF := hS.below
  have HI := Lib.hid hI
  clear hI hS hr2
  refine Lib.hid ?_
  go_wp2
  refine bodyPost_ret (v := .agg #[.bool (sgn z), .slice a2 (lenZ z) c2]) (by simp [results, Tryz.results86, go_sem, q0, q1]) rfl ?_
  exact ⟨_, rfl, HI.out, hbF⟩

theorem product_limbs {s t : ByteArray} {x y : Int} (hs : Str s x) (ht : Str t y) : (limbs (x * y).natAbs).length ≤ 911 := by
  obtain ⟨k, hk⟩ : ∃ k : Nat, k = 4096 := ⟨_, rfl⟩
  refine limbs_of_pow (k := k + k) ?_ (by omega)
  rw [Nat.pow_add, Int.natAbs_mul]
  exact Nat.mul_lt_mul'' (hs.lt (by omega)) (ht.lt (by omega))

theorem compMul (s t : ByteArray) (x y : Int) (w : World) (hs : Str s x) (ht : Str t y) (htab : Lib.TabIs Tryz.prog w "internal/strconv.uint64pow10" .u64 Lib.pow10Tab) :
    Calls Tryz.prog 77 #[opV 85 86, .string s, .string t] w fun e w' => e = .returned (resV (x * y)) ∧ Below w.heap.size w w' := by
  by_cases h : x.natAbs < 1000000000 ∧ y.natAbs < 1000000000
  · have := compMul_short s t x y (x * y) w hs ht h.1 h.2 (by have := mul_bound x y h.1 h.2; omega) (by have := mul_bound x y h.1 h.2; omega) (fun W => mulS x y W h.1 h.2) htab
    rwa [← resV_small (r := x * y) (mul_bound x y h.1 h.2)] at this
  · exact compMul_long s t x y (x * y) w hs ht h (by have := product_limbs hs ht; omega) (fun W v1 v2 h1 h2 => productZ x y v1 v2 W h1 h2 (by have := hs.limbs; omega) (by have := ht.limbs; omega)) htab

set_option maxHeartbeats 1000000 in
theorem mulZ (s t : ByteArray) (x y : Int) (w : World) (hs : Str s x) (ht : Str t y) (htab : Lib.TabIs Tryz.prog w "internal/strconv.uint64pow10" .u64 Lib.pow10Tab) :
    Calls Tryz.prog 38 #[.string s, .string t] w fun e w' => e = .returned (resV (x * y)) ∧ Below w.heap.size w w' := by
  have C := compMul s t x y w hs ht htab
  obtain ⟨a, e0, hr⟩ := resV_parts (x * y)
  rw [hr] at C ⊢
  clear hr hs ht htab
  unfold opV at C
  have HC := Lib.hid C; clear C
  go_enter Tryz.func38, Tryz.ntmps38
  go_wp2_with (go_at_call 77; refine HC.out.mono ?_; rintro e w2 ⟨rfl, hb2⟩; refine Hid.out ?_)
  refine Lib.hid ?_
  go_wp2
  refine bodyPost_ret (by simp [results, Tryz.results38, go_sem]; rfl) rfl ?_
  exact ⟨rfl, hb2⟩
end Go.Proofs.YtipnnmbjkpidoaaGreatDoor

/-
  bigint.compute of Quo, for short integers. (made by tools/comp.py)
-/
namespace Go.Proofs.YtipnnmbjkpidoaaGreatDoor
open Go Go.Proofs Go.RowKit Go.Sort

set_option maxHeartbeats 4000000 in
theorem compQuo_short (s t : ByteArray) (x y r : Int) (w : World) (hs : Str s x) (ht : Str t y) (hx : x.natAbs < 1000000000) (hy : y.natAbs < 1000000000) (hr0 : -9223372036854775808 ≤ r) (hr1 : r ≤ 9223372036854775807)
    (HS : ∀ W : World, Calls Tryz.prog 89 #[.int .i64 x, .int .i64 y] W fun e w' => e = .returned (.int .i64 r) ∧ Below W.heap.size W w')
    (htab : Lib.TabIs Tryz.prog w "internal/strconv.uint64pow10" .u64 Lib.pow10Tab) :
    Calls Tryz.prog 77 #[opV 89 90, .string s, .string t] w fun e w' => e = .returned (.tuple #[.string (str (Lib.itoa r)), .int .i64 0]) ∧ Below w.heap.size w w' := by
  have hsz := hs.size
  have htz := ht.size
  have CB := fun W => checkBoth_any s t W (by omega) (by omega)
  have hb : errBoth (bytes s) (bytes t) = 0 := by unfold errBoth; rw [if_pos hs.err, ht.err]
  rw [hb] at CB
  have IS := fun W => isShort_any s W (by omega)
  have IT := fun W => isShort_any t W (by omega)
  rw [hs.short hx] at IS
  rw [ht.short hy] at IT
  have WS := fun W => wordZ_any s x W hs.text (by omega) (by omega)
  have WT := fun W => wordZ_any t y W ht.text (by omega) (by omega)
  have FI : ∀ W : World, Below w.heap.size w W → Calls Tryz.prog 117 #[.int .i64 r, .int .i64 10] W fun e w' => e = .returned (.string (str (Lib.itoa r))) ∧ Below W.heap.size W w' := fun W hW =>
    (Tryz.strconv_FormatInt_10 r hr0 hr1 W ((Lib.tabBelow_of_tabIs htab).on hW).here).mono fun e w' ⟨h1, k, os, h2⟩ => ⟨h1, by rw [h2]; exact Lib.below_grow _ W (Nat.le_refl _) k os⟩
  have HCB := Lib.hid CB; have HIS := Lib.hid IS; have HIT := Lib.hid IT; have HWS := Lib.hid WS; have HWT := Lib.hid WT; have HFI := Lib.hid FI; have HHS := Lib.hid HS
  clear CB IS IT WS WT FI HS hb htab hs ht hx hy hr0 hr1
  generalize str (Lib.itoa r) = rs at *
  unfold opV
  have B0 : Below w.heap.size w (w.alloc (Obj.cells #[.func (.func 89) #[] #[], .func (.func 90) #[] #[]] 75)) := (Below.refl _ _).alloc (Nat.le_refl _) _
  have c0 : (w.alloc (Obj.cells #[.func (.func 89) #[] #[], .func (.func 90) #[] #[]] 75)).cell? ⟨w.heap.size, 0, none⟩ = some (.func (.func 89) #[] #[]) := by go_cell
  go_enter Tryz.func77, Tryz.ntmps77
  go_wp2_with (go_at_call 73; refine (HCB.out _).mono ?_; rintro e w1 ⟨rfl, rfl⟩; refine Hid.out ?_)
  refine Lib.hid ?_
  go_wp2_with (go_at_call 116; refine (HIS.out _).mono ?_; rintro e w1 ⟨rfl, rfl⟩; refine Hid.out ?_)
  refine Lib.hid ?_
  go_wp2_with (go_at_call 116; refine (HIT.out _).mono ?_; rintro e w1 ⟨rfl, rfl⟩; refine Hid.out ?_)
  refine Lib.hid ?_
  go_wp2_with fail
  generalize w.alloc (Obj.cells #[.func (.func 89) #[] #[], .func (.func 90) #[] #[]] 75) = W at *
  have HB := Lib.hid B0; clear B0
  have hcell : ∀ d os, (grow (redrawn W d) os).cell? ⟨w.heap.size, 0, none⟩ = some (.func (.func 89) #[] #[]) := fun d os => cell_regrown c0 d os
  have cS : ∀ d os, Calls Tryz.prog 118 #[.string s] (grow (redrawn W d) os) fun e w'' => e = .returned (.int .i64 x) ∧ ∃ p : Regrown, w'' = grow (redrawn W p.d) p.os := fun d os => Calls.regrown_of (HWS.out _)
  have cT : ∀ d os, Calls Tryz.prog 118 #[.string t] (grow (redrawn W d) os) fun e w'' => e = .returned (.int .i64 y) ∧ ∃ p : Regrown, w'' = grow (redrawn W p.d) p.os := fun d os => Calls.regrown_of (HWT.out _)
  have cF : ∀ d os, Calls Tryz.prog 117 #[.int .i64 r, .int .i64 10] (grow (redrawn W d) os) fun e w'' => e = .returned (.string rs) ∧ ∃ p : Regrown, w'' = grow (redrawn W p.d) p.os := fun d os => Calls.regrown_of (HFI.out _ (Below.chain HB.out (below_regrown W d os)))
  have cH : ∀ d os, Calls Tryz.prog 89 #[.int .i64 x, .int .i64 y] (grow (redrawn W d) os) fun e w'' => e = .returned (.int .i64 r) ∧ ∃ p : Regrown, w'' = grow (redrawn W p.d) p.os := fun d os => Calls.regrown_of (HHS.out _)
  have KS := Lib.hid cS; have KT := Lib.hid cT; have KF := Lib.hid cF; have KH := Lib.hid cH
  clear cS cT cF cH
  refine wp_region_quiet_below (by kernel_rfl) (by kernel_rfl) ?_
  quiet_step (fail)
  quiet_step (fail)
  quiet_step (fail)
  quiet_step (exact KS.out _ _)
  quiet_step (fail)
  quiet_step (exact KT.out _ _)
  quiet_step (exact KH.out _ _)
  quiet_step (exact KF.out _ _)
  quiet_step (fail)
  quiet_step (fail)
  refine wpQuiet_nil ?_
  intro _ hw'
  obtain ⟨⟨dq, osq⟩, hw''⟩ := hw'
  subst hw''
  go_wp2
  refine bodyPost_ret (by simp [results, Tryz.results77, go_sem]; rfl) rfl ?_
  exact ⟨rfl, Below.chain HB.out (below_regrown W dq osq)⟩
end Go.Proofs.YtipnnmbjkpidoaaGreatDoor
