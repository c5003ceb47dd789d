import Derived.Test.YtipnnmbjkpidoaaGreatDoorBase9
import Derived.Test.YtipnnmbjkpidoaaGreatDoorBase11
import Derived.Test.YtipnnmbjkpidoaaGreatDoorBase15
import Derived.Test.YtipnnmbjkpidoaaGreatDoorBase5
import Derived.Deep.RegionHeld3

set_option linter.unusedVariables false
/-
  bigint: product, Mul.
-/
namespace Go.Proofs.YtipnnmbjkpidoaaGreatDoor
open Go Go.Proofs Go.RowKit

set_option maxHeartbeats 1000000 in
theorem same_any (x y : Nat) (vx vy : Value) (w : World) (hx : NumAt w vx x) (hy : NumAt w vy y) (hlx : (limbs x).length ≤ 1000000000000) (hly : (limbs y).length ≤ 1000000000000) :
    Calls Tryz.prog 131 #[vx, vy] w fun e w' => ∃ v', e = .returned v' ∧ IntAt w' v' ((x * y : Nat) : Int) ∧ Below w.heap.size w w' := by
  have C : ∀ W : World, Below w.heap.size w W → Calls Tryz.prog 132 #[vx, vy] W (RetN (x * y) W) := fun W hW => mul_any x y vx vy W (hx.mono hW) (hy.mono hW) hlx hly
  have P : ∀ (W : World) (v : Value), NumAt W v (x * y) → Calls Tryz.prog 120 #[v] W fun e w' => ∃ v', e = .returned v' ∧ IntAt w' v' ((x * y : Nat) : Int) ∧ Below W.heap.size W w' := fun W v h => plus_any _ v W h
  generalize ((x * y : Nat) : Int) = z at *
  generalize x * y = s at *
  have HC := Lib.hid C; have HP := Lib.hid P
  obtain ⟨ao, c, rfl, -⟩ := hx
  obtain ⟨ap, d, rfl, -⟩ := hy
  clear C P hlx hly
  generalize (limbs x).length = n at *
  generalize (limbs y).length = m at *
  have R0 := rbox_new w (Value.slice ao n c) (Value.slice ap m d) 79 79
  go_enter Tryz.func131, Tryz.ntmps131
  go_wp2_with (go_at_call 132; refine (HC.out _ R0.below).mono ?_; rintro e w1 ⟨v1, rfl, hv1, hb1⟩; refine Hid.out ?_)
  have R1 := R0.mono hb1
  refine Lib.hid ?_
  go_wp2_with (go_at_call 120; refine (HP.out _ _ hv1).mono ?_; rintro e w2 ⟨v2, rfl, hv2, hb2⟩; refine Hid.out ?_)
  have R2 := R1.mono hb2
  obtain ⟨a2, c2, rfl, hr2⟩ := hv2.open
  clear R0 R1 hb1 hb2 hv1 hv2
  have k1 := R2.r0; have k2 := R2.r1; have k3 := R2.f0; have k4 := R2.f1
  obtain ⟨hI, hS⟩ := IntAt.stored (w := w) (by omega : w.heap.size ≤ w.heap.size + 1 + 1) R2 hr2
  have q0 := hS.q0; have q1 := hS.q1; have hbF := hS.below
  have HI := Lib.hid hI
  clear hI hS hr2
  refine Lib.hid ?_
  go_wp2
  refine bodyPost_ret (v := .agg #[.bool (sgn z), .slice a2 (lenZ z) c2]) (by simp [results, Tryz.results131, go_sem, q0, q1]) rfl ?_
  exact ⟨_, rfl, HI.out, hbF⟩

set_option maxHeartbeats 1000000 in
theorem opposite_any (x y : Nat) (vx vy : Value) (w : World) (hx : NumAt w vx x) (hy : NumAt w vy y) (hlx : (limbs x).length ≤ 1000000000000) (hly : (limbs y).length ≤ 1000000000000) :
    Calls Tryz.prog 133 #[vx, vy] w fun e w' => ∃ v', e = .returned v' ∧ IntAt w' v' (-((x * y : Nat) : Int)) ∧ Below w.heap.size w w' := by
  have C : ∀ W : World, Below w.heap.size w W → Calls Tryz.prog 132 #[vx, vy] W (RetN (x * y) W) := fun W hW => mul_any x y vx vy W (hx.mono hW) (hy.mono hW) hlx hly
  have P : ∀ (W : World) (v : Value), NumAt W v (x * y) → Calls Tryz.prog 123 #[v] W fun e w' => ∃ v', e = .returned v' ∧ IntAt w' v' (-((x * y : Nat) : Int)) ∧ Below W.heap.size W w' := fun W v h => minus_any _ v W h
  generalize (-((x * y : Nat) : Int)) = z at *
  generalize x * y = s at *
  have HC := Lib.hid C; have HP := Lib.hid P
  obtain ⟨ao, c, rfl, -⟩ := hx
  obtain ⟨ap, d, rfl, -⟩ := hy
  clear C P hlx hly
  generalize (limbs x).length = n at *
  generalize (limbs y).length = m at *
  have R0 := rbox_new w (Value.slice ao n c) (Value.slice ap m d) 79 79
  go_enter Tryz.func133, Tryz.ntmps133
  go_wp2_with (go_at_call 132; refine (HC.out _ R0.below).mono ?_; rintro e w1 ⟨v1, rfl, hv1, hb1⟩; refine Hid.out ?_)
  have R1 := R0.mono hb1
  refine Lib.hid ?_
  go_wp2_with (go_at_call 123; refine (HP.out _ _ hv1).mono ?_; rintro e w2 ⟨v2, rfl, hv2, hb2⟩; refine Hid.out ?_)
  have R2 := R1.mono hb2
  obtain ⟨a2, c2, rfl, hr2⟩ := hv2.open
  clear R0 R1 hb1 hb2 hv1 hv2
  have k1 := R2.r0; have k2 := R2.r1; have k3 := R2.f0; have k4 := R2.f1
  obtain ⟨hI, hS⟩ := IntAt.stored (w := w) (by omega : w.heap.size ≤ w.heap.size + 1 + 1) R2 hr2
  have q0 := hS.q0; have q1 := hS.q1; have hbF := hS.below
  have HI := Lib.hid hI
  clear hI hS hr2
  refine Lib.hid ?_
  go_wp2
  refine bodyPost_ret (v := .agg #[.bool (sgn z), .slice a2 (lenZ z) c2]) (by simp [results, Tryz.results133, go_sem, q0, q1]) rfl ?_
  exact ⟨_, rfl, HI.out, hbF⟩


theorem productTab (x y : Int) (va vb : Value) (w : World) (ha : IntAt w va x) (hb : IntAt w vb y) (hlx : (limbs x.natAbs).length ≤ 1000000000000) (hly : (limbs y.natAbs).length ≤ 1000000000000) :
    Calls Tryz.prog 126 #[tabV 131 133 133 131, va, vb] w fun e w' => ∃ v', e = .returned v' ∧ IntAt w' v' (x * y) ∧ Below w.heap.size w w' := by
  have e1 : ∀ args w, (callFunc 131 args).run Tryz.prog w = .ok (.enter 131 args) w := enters_of Tryz.func131 (by kernel_rfl) rfl
  have e2 : ∀ args w, (callFunc 133 args).run Tryz.prog w = .ok (.enter 133 args) w := enters_of Tryz.func133 (by kernel_rfl) rfl
  by_cases hx : x < 0 <;> by_cases hy : y < 0
  · refine apply11 _ _ _ _ x y (x * y) va vb w ha hb hx hy e1 fun W v1 v2 h1 h2 => ?_
    have := same_any x.natAbs y.natAbs v1 v2 W h1 h2 hlx hly
    have e : ((x.natAbs * y.natAbs : Nat) : Int) = x * y := by
      rw [Int.natCast_mul, show (x.natAbs : Int) = -x by omega, show (y.natAbs : Int) = -y by omega, Int.neg_mul_neg]
    rwa [e] at this
  · refine apply10 _ _ _ _ x y (x * y) va vb w ha hb hx hy e2 fun W v1 v2 h1 h2 => ?_
    have := opposite_any x.natAbs y.natAbs v1 v2 W h1 h2 hlx hly
    have e : (-((x.natAbs * y.natAbs : Nat) : Int)) = x * y := by
      rw [Int.natCast_mul, show (x.natAbs : Int) = -x by omega, show (y.natAbs : Int) = y by omega, Int.neg_mul, Int.neg_neg]
    rwa [e] at this
  · refine apply01 _ _ _ _ x y (x * y) va vb w ha hb hx hy e2 fun W v1 v2 h1 h2 => ?_
    have := opposite_any x.natAbs y.natAbs v1 v2 W h1 h2 hlx hly
    have e : (-((x.natAbs * y.natAbs : Nat) : Int)) = x * y := by
      rw [Int.natCast_mul, show (x.natAbs : Int) = x by omega, show (y.natAbs : Int) = -y by omega, Int.mul_neg, Int.neg_neg]
    rwa [e] at this
  · refine apply00 _ _ _ _ x y (x * y) va vb w ha hb hx hy e1 fun W v1 v2 h1 h2 => ?_
    have := same_any x.natAbs y.natAbs v1 v2 W h1 h2 hlx hly
    have e : ((x.natAbs * y.natAbs : Nat) : Int) = x * y := by
      rw [Int.natCast_mul, show (x.natAbs : Int) = x by omega, show (y.natAbs : Int) = y by omega]
    rwa [e] at this

set_option maxHeartbeats 2000000 in
theorem productZ (x y : Int) (va vb : Value) (w : World) (ha : IntAt w va x) (hb : IntAt w vb y) (hlx : (limbs x.natAbs).length ≤ 1000000000000) (hly : (limbs y.natAbs).length ≤ 1000000000000) :
    Calls Tryz.prog 86 #[va, vb] w fun e w' => ∃ v', e = .returned v' ∧ IntAt w' v' (x * y) ∧ Below w.heap.size w w' := by
  have C : ∀ W : World, Below w.heap.size w W → Calls Tryz.prog 126 #[tabV 131 133 133 131, va, vb] W fun e w' => ∃ v', e = .returned v' ∧ IntAt w' v' (x * y) ∧ Below W.heap.size W w' := fun W hW => productTab x y va vb W (ha.mono hW) (hb.mono hW) hlx hly
  have HC := Lib.hid C
  obtain ⟨ao, c, rfl, -⟩ := ha
  obtain ⟨ap, d, rfl, -⟩ := hb
  clear C hlx hly
  generalize (limbs x.natAbs).length = n at *
  generalize (limbs y.natAbs).length = m at *
  generalize decide (x < 0) = ba at *
  generalize decide (y < 0) = bb at *
  generalize x * y = z at *
  have R0 := rbox3_new w ba bb ao ap n c m d
  go_enter Tryz.func86, Tryz.ntmps86
  go_wp2_with (go_at_call 126; refine (HC.out _ R0.below).mono ?_; rintro e w2 ⟨v2, rfl, hv2, hb2⟩; refine Hid.out ?_)
  have R2 := R0.mono hb2
  obtain ⟨a2, c2, rfl, hr2⟩ := hv2.open
  clear R0 hb2 hv2
  have k1 := R2.r0; have k2 := R2.r1; have k3 := R2.f0; have k4 := R2.f1
  obtain ⟨hI, hS⟩ := IntAt.stored (w := w) (by omega : w.heap.size ≤ w.heap.size + 1 + 1) R2 hr2
  have q0 := hS.q0; have q1 := hS.q1; have hbF := hS.below
  have HI := Lib.hid hI
  clear hI hS hr2
  refine Lib.hid ?_
  go_wp2
  refine bodyPost_ret (v := .agg #[.bool (sgn z), .slice a2 (lenZ z) c2]) (by simp [results, Tryz.results86, go_sem, q0, q1]) rfl ?_
  exact ⟨_, rfl, HI.out, hbF⟩

theorem product_limbs {s t : ByteArray} {x y : Int} (hs : Str s x) (ht : Str t y) : (limbs (x * y).natAbs).length ≤ 911 := by
  obtain ⟨k, hk⟩ : ∃ k : Nat, k = 4096 := ⟨_, rfl⟩
  refine limbs_of_pow (k := k + k) ?_ (by omega)
  rw [Nat.pow_add, Int.natAbs_mul]
  exact Nat.mul_lt_mul'' (hs.lt (by omega)) (ht.lt (by omega))

theorem compMul (s t : ByteArray) (x y : Int) (w : World) (hs : Str s x) (ht : Str t y) (htab : Lib.TabIs Tryz.prog w "internal/strconv.uint64pow10" .u64 Lib.pow10Tab) :
    Calls Tryz.prog 77 #[opV 85 86, .string s, .string t] w fun e w' => e = .returned (resV (x * y)) ∧ Below w.heap.size w w' := by
  by_cases h : x.natAbs < 1000000000 ∧ y.natAbs < 1000000000
  · have := compMul_short s t x y (x * y) w hs ht h.1 h.2 (by have := mul_bound x y h.1 h.2; omega) (by have := mul_bound x y h.1 h.2; omega) (fun W => mulS x y W h.1 h.2) htab
    rwa [← resV_small (r := x * y) (mul_bound x y h.1 h.2)] at this
  · exact compMul_long s t x y (x * y) w hs ht h (by have := product_limbs hs ht; omega) (fun W v1 v2 h1 h2 => productZ x y v1 v2 W h1 h2 (by have := hs.limbs; omega) (by have := ht.limbs; omega)) htab

set_option maxHeartbeats 1000000 in
theorem mulZ (s t : ByteArray) (x y : Int) (w : World) (hs : Str s x) (ht : Str t y) (htab : Lib.TabIs Tryz.prog w "internal/strconv.uint64pow10" .u64 Lib.pow10Tab) :
    Calls Tryz.prog 38 #[.string s, .string t] w fun e w' => e = .returned (resV (x * y)) ∧ Below w.heap.size w w' := by
  have C := compMul s t x y w hs ht htab
  obtain ⟨a, e0, hr⟩ := resV_parts (x * y)
  rw [hr] at C ⊢
  clear hr hs ht htab
  unfold opV at C
  have HC := Lib.hid C; clear C
  go_enter Tryz.func38, Tryz.ntmps38
  go_wp2_with (go_at_call 77; refine HC.out.mono ?_; rintro e w2 ⟨rfl, hb2⟩; refine Hid.out ?_)
  refine Lib.hid ?_
  go_wp2
  refine bodyPost_ret (by simp [results, Tryz.results38, go_sem]; rfl) rfl ?_
  exact ⟨rfl, hb2⟩
end Go.Proofs.YtipnnmbjkpidoaaGreatDoor

/-
  bigint.compute of Quo, for short integers. (made by tools/comp.py)
-/
namespace Go.Proofs.YtipnnmbjkpidoaaGreatDoor
open Go Go.Proofs Go.RowKit Go.Sort

set_option maxHeartbeats 4000000 in
theorem compQuo_short (s t : ByteArray) (x y r : Int) (w : World) (hs : Str s x) (ht : Str t y) (hx : x.natAbs < 1000000000) (hy : y.natAbs < 1000000000) (hr0 : -9223372036854775808 ≤ r) (hr1 : r ≤ 9223372036854775807)
    (HS : ∀ W : World, Calls Tryz.prog 89 #[.int .i64 x, .int .i64 y] W fun e w' => e = .returned (.int .i64 r) ∧ Below W.heap.size W w')
    (htab : Lib.TabIs Tryz.prog w "internal/strconv.uint64pow10" .u64 Lib.pow10Tab) :
    Calls Tryz.prog 77 #[opV 89 90, .string s, .string t] w fun e w' => e = .returned (.tuple #[.string (str (Lib.itoa r)), .int .i64 0]) ∧ Below w.heap.size w w' := by
  have hsz := hs.size
  have htz := ht.size
  have CB := fun W => checkBoth_any s t W (by omega) (by omega)
  have hb : errBoth (bytes s) (bytes t) = 0 := by unfold errBoth; rw [if_pos hs.err, ht.err]
  rw [hb] at CB
  have IS := fun W => isShort_any s W (by omega)
  have IT := fun W => isShort_any t W (by omega)
  rw [hs.short hx] at IS
  rw [ht.short hy] at IT
  have WS := fun W => wordZ_any s x W hs.text (by omega) (by omega)
  have WT := fun W => wordZ_any t y W ht.text (by omega) (by omega)
  have FI : ∀ W : World, Below w.heap.size w W → Calls Tryz.prog 117 #[.int .i64 r, .int .i64 10] W fun e w' => e = .returned (.string (str (Lib.itoa r))) ∧ Below W.heap.size W w' := fun W hW =>
    (Tryz.strconv_FormatInt_10 r hr0 hr1 W ((Lib.tabBelow_of_tabIs htab).on hW).here).mono fun e w' ⟨h1, k, os, h2⟩ => ⟨h1, by rw [h2]; exact Lib.below_grow _ W (Nat.le_refl _) k os⟩
  have HCB := Lib.hid CB; have HIS := Lib.hid IS; have HIT := Lib.hid IT; have HWS := Lib.hid WS; have HWT := Lib.hid WT; have HFI := Lib.hid FI; have HHS := Lib.hid HS
  clear CB IS IT WS WT FI HS hb htab hs ht hx hy hr0 hr1
  generalize str (Lib.itoa r) = rs at *
  unfold opV
  have B0 : Below w.heap.size w (w.alloc (Obj.cells #[.func (.func 89) #[] #[], .func (.func 90) #[] #[]] 75)) := (Below.refl _ _).alloc (Nat.le_refl _) _
  have c0 : (w.alloc (Obj.cells #[.func (.func 89) #[] #[], .func (.func 90) #[] #[]] 75)).cell? ⟨w.heap.size, 0, none⟩ = some (.func (.func 89) #[] #[]) := by go_cell
  go_enter Tryz.func77, Tryz.ntmps77
  go_wp2_with (go_at_call 73; refine (HCB.out _).mono ?_; rintro e w1 ⟨rfl, rfl⟩; refine Hid.out ?_)
  refine Lib.hid ?_
  go_wp2_with (go_at_call 116; refine (HIS.out _).mono ?_; rintro e w1 ⟨rfl, rfl⟩; refine Hid.out ?_)
  refine Lib.hid ?_
  go_wp2_with (go_at_call 116; refine (HIT.out _).mono ?_; rintro e w1 ⟨rfl, rfl⟩; refine Hid.out ?_)
  refine Lib.hid ?_
  go_wp2_with fail
  generalize w.alloc (Obj.cells #[.func (.func 89) #[] #[], .func (.func 90) #[] #[]] 75) = W at *
  have HB := Lib.hid B0; clear B0
  have hcell : ∀ d os, (grow (redrawn W d) os).cell? ⟨w.heap.size, 0, none⟩ = some (.func (.func 89) #[] #[]) := fun d os => cell_regrown c0 d os
  have cS : ∀ d os, Calls Tryz.prog 118 #[.string s] (grow (redrawn W d) os) fun e w'' => e = .returned (.int .i64 x) ∧ ∃ p : Regrown, w'' = grow (redrawn W p.d) p.os := fun d os => Calls.regrown_of (HWS.out _)
  have cT : ∀ d os, Calls Tryz.prog 118 #[.string t] (grow (redrawn W d) os) fun e w'' => e = .returned (.int .i64 y) ∧ ∃ p : Regrown, w'' = grow (redrawn W p.d) p.os := fun d os => Calls.regrown_of (HWT.out _)
  have cF : ∀ d os, Calls Tryz.prog 117 #[.int .i64 r, .int .i64 10] (grow (redrawn W d) os) fun e w'' => e = .returned (.string rs) ∧ ∃ p : Regrown, w'' = grow (redrawn W p.d) p.os := fun d os => Calls.regrown_of (HFI.out _ (Below.chain HB.out (below_regrown W d os)))
  have cH : ∀ d os, Calls Tryz.prog 89 #[.int .i64 x, .int .i64 y] (grow (redrawn W d) os) fun e w'' => e = .returned (.int .i64 r) ∧ ∃ p : Regrown, w'' = grow (redrawn W p.d) p.os := fun d os => Calls.regrown_of (HHS.out _)
  have KS := Lib.hid cS; have KT := Lib.hid cT; have KF := Lib.hid cF; have KH := Lib.hid cH
  clear cS cT cF cH
  refine wp_region_quiet_below (by kernel_rfl) (by kernel_rfl) ?_
  quiet_step (fail)
  quiet_step (fail)
  quiet_step (fail)
  quiet_step (exact KS.out _ _)
  quiet_step (fail)
  quiet_step (exact KT.out _ _)
  quiet_step (exact KH.out _ _)
  quiet_step (exact KF.out _ _)
  quiet_step (fail)
  quiet_step (fail)
  refine wpQuiet_nil ?_
  intro _ hw'
  obtain ⟨⟨dq, osq⟩, hw''⟩ := hw'
  subst hw''
  go_wp2
  refine bodyPost_ret (by simp [results, Tryz.results77, go_sem]; rfl) rfl ?_
  exact ⟨rfl, Below.chain HB.out (below_regrown W dq osq)⟩
end Go.Proofs.YtipnnmbjkpidoaaGreatDoor

/-
  bigint.compute of Quo, for long integers. (made by tools/comp.py)
-/
namespace Go.Proofs.YtipnnmbjkpidoaaGreatDoor
open Go Go.Proofs Go.RowKit Go.Sort

theorem keepSQuo {W w1 w2 : World} {a : Addr} {v : Value} (hlt : a.block < W.heap.size) (h : w1.cell? a = some v ∧ Below W.heap.size W w1) (hb : Below w1.heap.size w1 w2) : w2.cell? a = some v ∧ Below W.heap.size W w2 :=
  ⟨(hb.cell (Nat.lt_of_lt_of_le hlt h.2.size)).trans h.1, Below.chain h.2 hb⟩

set_option maxHeartbeats 4000000 in
theorem compQuo_long (s t : ByteArray) (x y r : Int) (w : World) (hs : Str s x) (ht : Str t y) (hxy : ¬ (x.natAbs < 1000000000 ∧ y.natAbs < 1000000000)) (hr : (limbs r.natAbs).length ≤ 1000000000000)
    (HL : ∀ (W : World) (v1 v2 : Value), IntAt W v1 x → IntAt W v2 y → Calls Tryz.prog 90 #[v1, v2] W fun e w' => ∃ v, e = .returned v ∧ IntAt w' v r ∧ Below W.heap.size W w')
    (htab : Lib.TabIs Tryz.prog w "internal/strconv.uint64pow10" .u64 Lib.pow10Tab) :
    Calls Tryz.prog 77 #[opV 89 90, .string s, .string t] w fun e w' =>
      e = .returned (if 4096 < (Lib.decDigits r.natAbs).length then .tuple #[.string ⟨#[]⟩, .int .i64 10] else .tuple #[.string (str (Lib.itoa r)), .int .i64 0]) ∧ Below w.heap.size w w' := by
  have hsz := hs.size
  have htz := ht.size
  have CB := fun W => checkBoth_any s t W (by omega) (by omega)
  have hb : errBoth (bytes s) (bytes t) = 0 := by unfold errBoth; rw [if_pos hs.err, ht.err]
  rw [hb] at CB
  obtain ⟨bs, bt, hbs, hbt, hbb⟩ : ∃ bs bt : Bool, decide ((digL (bytes s)).length ≤ 9) = bs ∧ decide ((digL (bytes t)).length ≤ 9) = bt ∧ ¬ (bs = true ∧ bt = true) := by
    refine ⟨_, _, rfl, rfl, fun ⟨h1, h2⟩ => hxy ⟨?_, ?_⟩⟩
    · exact Decidable.byContradiction fun h => by rw [hs.notShort h] at h1; cases h1
    · exact Decidable.byContradiction fun h => by rw [ht.notShort h] at h2; cases h2
  have IS := fun W => isShort_any s W (by omega)
  have IT := fun W => isShort_any t W (by omega)
  rw [hbs] at IS
  rw [hbt] at IT
  have PS := fun W => parseZ_any s x W hs.text (by omega)
  have PT := fun W => parseZ_any t y W ht.text (by omega)
  have TX : ∀ (W : World) (v : Value), Below w.heap.size w W → IntAt W v r → Calls Tryz.prog 100 #[v] W fun e w' => e = .returned (.string (str (Lib.itoa r))) ∧ Below W.heap.size W w' := fun W v hW hv =>
    textZ_any r v W hv hr ((Lib.tabBelow_of_tabIs htab).on hW).here
  have LG := fun W => isLong_any (str (Lib.itoa r)) W (by
    rw [str_size]
    have h1 := decDigits_limbs r.natAbs
    by_cases hz : r < 0
    · rw [itoa_neg hz]; simp; omega
    · rw [itoa_nonneg hz]; omega)
  rw [bytes_str, digL_itoa] at LG
  have HCB := Lib.hid CB; have HIS := Lib.hid IS; have HIT := Lib.hid IT; have HPS := Lib.hid PS; have HPT := Lib.hid PT; have HTX := Lib.hid TX; have HHL := Lib.hid HL; have HLG := Lib.hid LG
  clear CB IS IT PS PT TX HL LG hb htab hs ht hxy hr hbs hbt
  generalize str (Lib.itoa r) = rs at *
  generalize hlong : decide (4096 < (Lib.decDigits r.natAbs).length) = lg at *
  have hres : (if 4096 < (Lib.decDigits r.natAbs).length then Value.tuple #[.string ⟨#[]⟩, .int .i64 10] else .tuple #[.string rs, .int .i64 0]) = if lg = true then .tuple #[.string ⟨#[]⟩, .int .i64 10] else .tuple #[.string rs, .int .i64 0] := by
    rw [← hlong]; simp
  rw [hres]
  clear hres hlong
  unfold opV
  have B0 : Below w.heap.size w (w.alloc (Obj.cells #[.func (.func 89) #[] #[], .func (.func 90) #[] #[]] 75)) := (Below.refl _ _).alloc (Nat.le_refl _) _
  have c0 : (w.alloc (Obj.cells #[.func (.func 89) #[] #[], .func (.func 90) #[] #[]] 75)).cell? ⟨w.heap.size, 1, none⟩ = some (.func (.func 90) #[] #[]) := by go_cell
  have s0 : w.heap.size < (w.alloc (Obj.cells #[.func (.func 89) #[] #[], .func (.func 90) #[] #[]] 75)).heap.size := by simp
  have key : ∀ W : World, Below w.heap.size w W → W.cell? ⟨w.heap.size, 1, none⟩ = some (.func (.func 90) #[] #[]) → w.heap.size < W.heap.size → True := fun _ _ _ _ => trivial
  clear key
  cases bs
  · go_enter Tryz.func77, Tryz.ntmps77
    go_wp2_with (go_at_call 73; refine (HCB.out _).mono ?_; rintro e w1 ⟨rfl, rfl⟩; refine Hid.out ?_)
    refine Lib.hid ?_
    go_wp2_with (go_at_call 116; refine (HIS.out _).mono ?_; rintro e w1 ⟨rfl, rfl⟩; refine Hid.out ?_)
    refine Lib.hid ?_
    go_wp2_with fail
    generalize w.alloc (Obj.cells #[.func (.func 89) #[] #[], .func (.func 90) #[] #[]] 75) = W at *
    have HB := Lib.hid B0; clear B0
    go_region_held3 (fun w' => w'.cell? ⟨w.heap.size, 1, none⟩ = some (.func (.func 90) #[] #[]) ∧ Below W.heap.size W w') (first | exact keepSQuo (a := ⟨w.heap.size, 1, none⟩) s0 ⟨c0, Below.refl _ _⟩ ((Below.refl _ _).drew) | (refine keepSQuo (a := ⟨w.heap.size, 1, none⟩) s0 ?_ (by assumption); assumption)) (first
      | (go_at_call_of 99 s; refine (HPS.out _).mono ?_; rintro e w4 ⟨v4, rfl, hv4, hb4⟩)
      | (go_at_call_of 99 t; refine (HPT.out _).mono ?_; rintro e w5 ⟨v5, rfl, hv5, hb5⟩)
      | (go_at_call 90; refine (HHL.out _ _ _ (hv4.mono hb5) hv5).mono ?_; rintro e w6 ⟨v6, rfl, hv6, hb6⟩)
      | (go_at_call 100; refine (HTX.out _ _ (Below.chain HB.out (Below.chain (Below.chain ((Below.refl _ _).drew) hb4) (Below.chain hb5 hb6))) hv6).mono ?_; rintro e w7 ⟨rfl, hb7⟩))
    all_goals
      have hbF := Below.chain HB.out (Below.chain (Below.chain ((Below.refl W.heap.size W).drew) hb4) (Below.chain hb5 (Below.chain hb6 hb7)))
      clear hb4 hb5 hb6 hb7 hv4 hv5 hv6 c0 s0
      go_wp2_with (go_at_call 71; refine (HLG.out _).mono ?_; rintro e w8 ⟨rfl, rfl⟩; refine Hid.out ?_)
      refine Lib.hid ?_
      cases lg
      · go_wp2
        refine bodyPost_ret (by simp [results, Tryz.results77, go_sem]; rfl) rfl ?_
        exact ⟨rfl, hbF⟩
      · go_wp2
        refine bodyPost_ret (by simp [results, Tryz.results77, go_sem]; rfl) rfl ?_
        exact ⟨rfl, hbF⟩
  · have hbt : bt = false := by cases bt <;> simp_all
    subst hbt
    clear hbb
    go_enter Tryz.func77, Tryz.ntmps77
    go_wp2_with (go_at_call 73; refine (HCB.out _).mono ?_; rintro e w1 ⟨rfl, rfl⟩; refine Hid.out ?_)
    refine Lib.hid ?_
    go_wp2_with (go_at_call 116; refine (HIS.out _).mono ?_; rintro e w1 ⟨rfl, rfl⟩; refine Hid.out ?_)
    refine Lib.hid ?_
    go_wp2_with (go_at_call 116; refine (HIT.out _).mono ?_; rintro e w1 ⟨rfl, rfl⟩; refine Hid.out ?_)
    refine Lib.hid ?_
    go_wp2_with fail
    generalize w.alloc (Obj.cells #[.func (.func 89) #[] #[], .func (.func 90) #[] #[]] 75) = W at *
    have HB := Lib.hid B0; clear B0
    go_region_held3 (fun w' => w'.cell? ⟨w.heap.size, 1, none⟩ = some (.func (.func 90) #[] #[]) ∧ Below W.heap.size W w') (first | exact keepSQuo (a := ⟨w.heap.size, 1, none⟩) s0 ⟨c0, Below.refl _ _⟩ ((Below.refl _ _).drew) | (refine keepSQuo (a := ⟨w.heap.size, 1, none⟩) s0 ?_ (by assumption); assumption)) (first
      | (go_at_call_of 99 s; refine (HPS.out _).mono ?_; rintro e w4 ⟨v4, rfl, hv4, hb4⟩)
      | (go_at_call_of 99 t; refine (HPT.out _).mono ?_; rintro e w5 ⟨v5, rfl, hv5, hb5⟩)
      | (go_at_call 90; refine (HHL.out _ _ _ (hv4.mono hb5) hv5).mono ?_; rintro e w6 ⟨v6, rfl, hv6, hb6⟩)
      | (go_at_call 100; refine (HTX.out _ _ (Below.chain HB.out (Below.chain (Below.chain ((Below.refl _ _).drew) hb4) (Below.chain hb5 hb6))) hv6).mono ?_; rintro e w7 ⟨rfl, hb7⟩))
    all_goals
      have hbF := Below.chain HB.out (Below.chain (Below.chain ((Below.refl W.heap.size W).drew) hb4) (Below.chain hb5 (Below.chain hb6 hb7)))
      clear hb4 hb5 hb6 hb7 hv4 hv5 hv6 c0 s0
      go_wp2_with (go_at_call 71; refine (HLG.out _).mono ?_; rintro e w8 ⟨rfl, rfl⟩; refine Hid.out ?_)
      refine Lib.hid ?_
      cases lg
      · go_wp2
        refine bodyPost_ret (by simp [results, Tryz.results77, go_sem]; rfl) rfl ?_
        exact ⟨rfl, hbF⟩
      · go_wp2
        refine bodyPost_ret (by simp [results, Tryz.results77, go_sem]; rfl) rfl ?_
        exact ⟨rfl, hbF⟩
end Go.Proofs.YtipnnmbjkpidoaaGreatDoor

/-
  bigint.compute of Rem, for short integers. (made by tools/comp.py)
-/
namespace Go.Proofs.YtipnnmbjkpidoaaGreatDoor
open Go Go.Proofs Go.RowKit Go.Sort

set_option maxHeartbeats 4000000 in
theorem compRem_short (s t : ByteArray) (x y r : Int) (w : World) (hs : Str s x) (ht : Str t y) (hx : x.natAbs < 1000000000) (hy : y.natAbs < 1000000000) (hr0 : -9223372036854775808 ≤ r) (hr1 : r ≤ 9223372036854775807)
    (HS : ∀ W : World, Calls Tryz.prog 92 #[.int .i64 x, .int .i64 y] W fun e w' => e = .returned (.int .i64 r) ∧ Below W.heap.size W w')
    (htab : Lib.TabIs Tryz.prog w "internal/strconv.uint64pow10" .u64 Lib.pow10Tab) :
    Calls Tryz.prog 77 #[opV 92 93, .string s, .string t] w fun e w' => e = .returned (.tuple #[.string (str (Lib.itoa r)), .int .i64 0]) ∧ Below w.heap.size w w' := by
  have hsz := hs.size
  have htz := ht.size
  have CB := fun W => checkBoth_any s t W (by omega) (by omega)
  have hb : errBoth (bytes s) (bytes t) = 0 := by unfold errBoth; rw [if_pos hs.err, ht.err]
  rw [hb] at CB
  have IS := fun W => isShort_any s W (by omega)
  have IT := fun W => isShort_any t W (by omega)
  rw [hs.short hx] at IS
  rw [ht.short hy] at IT
  have WS := fun W => wordZ_any s x W hs.text (by omega) (by omega)
  have WT := fun W => wordZ_any t y W ht.text (by omega) (by omega)
  have FI : ∀ W : World, Below w.heap.size w W → Calls Tryz.prog 117 #[.int .i64 r, .int .i64 10] W fun e w' => e = .returned (.string (str (Lib.itoa r))) ∧ Below W.heap.size W w' := fun W hW =>
    (Tryz.strconv_FormatInt_10 r hr0 hr1 W ((Lib.tabBelow_of_tabIs htab).on hW).here).mono fun e w' ⟨h1, k, os, h2⟩ => ⟨h1, by rw [h2]; exact Lib.below_grow _ W (Nat.le_refl _) k os⟩
  have HCB := Lib.hid CB; have HIS := Lib.hid IS; have HIT := Lib.hid IT; have HWS := Lib.hid WS; have HWT := Lib.hid WT; have HFI := Lib.hid FI; have HHS := Lib.hid HS
  clear CB IS IT WS WT FI HS hb htab hs ht hx hy hr0 hr1
  generalize str (Lib.itoa r) = rs at *
  unfold opV
  have B0 : Below w.heap.size w (w.alloc (Obj.cells #[.func (.func 92) #[] #[], .func (.func 93) #[] #[]] 75)) := (Below.refl _ _).alloc (Nat.le_refl _) _
  have c0 : (w.alloc (Obj.cells #[.func (.func 92) #[] #[], .func (.func 93) #[] #[]] 75)).cell? ⟨w.heap.size, 0, none⟩ = some (.func (.func 92) #[] #[]) := by go_cell
  go_enter Tryz.func77, Tryz.ntmps77
  go_wp2_with (go_at_call 73; refine (HCB.out _).mono ?_; rintro e w1 ⟨rfl, rfl⟩; refine Hid.out ?_)
  refine Lib.hid ?_
  go_wp2_with (go_at_call 116; refine (HIS.out _).mono ?_; rintro e w1 ⟨rfl, rfl⟩; refine Hid.out ?_)
  refine Lib.hid ?_
  go_wp2_with (go_at_call 116; refine (HIT.out _).mono ?_; rintro e w1 ⟨rfl, rfl⟩; refine Hid.out ?_)
  refine Lib.hid ?_
  go_wp2_with fail
  generalize w.alloc (Obj.cells #[.func (.func 92) #[] #[], .func (.func 93) #[] #[]] 75) = W at *
  have HB := Lib.hid B0; clear B0
  have hcell : ∀ d os, (grow (redrawn W d) os).cell? ⟨w.heap.size, 0, none⟩ = some (.func (.func 92) #[] #[]) := fun d os => cell_regrown c0 d os
  have cS : ∀ d os, Calls Tryz.prog 118 #[.string s] (grow (redrawn W d) os) fun e w'' => e = .returned (.int .i64 x) ∧ ∃ p : Regrown, w'' = grow (redrawn W p.d) p.os := fun d os => Calls.regrown_of (HWS.out _)
  have cT : ∀ d os, Calls Tryz.prog 118 #[.string t] (grow (redrawn W d) os) fun e w'' => e = .returned (.int .i64 y) ∧ ∃ p : Regrown, w'' = grow (redrawn W p.d) p.os := fun d os => Calls.regrown_of (HWT.out _)
  have cF : ∀ d os, Calls Tryz.prog 117 #[.int .i64 r, .int .i64 10] (grow (redrawn W d) os) fun e w'' => e = .returned (.string rs) ∧ ∃ p : Regrown, w'' = grow (redrawn W p.d) p.os := fun d os => Calls.regrown_of (HFI.out _ (Below.chain HB.out (below_regrown W d os)))
  have cH : ∀ d os, Calls Tryz.prog 92 #[.int .i64 x, .int .i64 y] (grow (redrawn W d) os) fun e w'' => e = .returned (.int .i64 r) ∧ ∃ p : Regrown, w'' = grow (redrawn W p.d) p.os := fun d os => Calls.regrown_of (HHS.out _)
  have KS := Lib.hid cS; have KT := Lib.hid cT; have KF := Lib.hid cF; have KH := Lib.hid cH
  clear cS cT cF cH
  refine wp_region_quiet_below (by kernel_rfl) (by kernel_rfl) ?_
  quiet_step (fail)
  quiet_step (fail)
  quiet_step (fail)
  quiet_step (exact KS.out _ _)
  quiet_step (fail)
  quiet_step (exact KT.out _ _)
  quiet_step (exact KH.out _ _)
  quiet_step (exact KF.out _ _)
  quiet_step (fail)
  quiet_step (fail)
  refine wpQuiet_nil ?_
  intro _ hw'
  obtain ⟨⟨dq, osq⟩, hw''⟩ := hw'
  subst hw''
  go_wp2
  refine bodyPost_ret (by simp [results, Tryz.results77, go_sem]; rfl) rfl ?_
  exact ⟨rfl, Below.chain HB.out (below_regrown W dq osq)⟩
end Go.Proofs.YtipnnmbjkpidoaaGreatDoor
