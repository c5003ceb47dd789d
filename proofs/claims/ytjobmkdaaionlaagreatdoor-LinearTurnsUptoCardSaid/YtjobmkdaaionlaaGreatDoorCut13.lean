import Derived.Test.YtjobmkdaaionlaaGreatDoorCut11
import Derived.Test.YtjobmkdaaionlaaGreatDoorOwnQuoB
import Derived.Test.YtjobmkdaaionlaaGreatDoorCut12
import Derived.Test.YtjobmkdaaionlaaGreatDoorCut4
import Derived.Test.YtjobmkdaaionlaaGreatDoorCut5
import Derived.Lib.BitFns
import Derived.Lib.RabinKarpLaws
import Derived.Deep.CutRange
import Derived.Test.YtjobmkdaaionlaaGreatDoorCut2
import Derived.OrdersHeld
import Derived.Deep.RegionHeld3
import Derived.Lib.Hide

set_option linter.unusedVariables false
/-
  bigint: remainder's closures; quotient, remainder; Quo, Rem.
-/
namespace Go.Proofs.YtjobmkdaaionlaaGreatDoor
open Go Go.Proofs Go.RowKit
theorem up_limbs (x y : Nat) (hx : (limbs x).length ≤ 1000000) (hy : (limbs y).length ≤ 1000000) (hy0 : 0 < y) : (limbs (x + (if y < 1 then 1 - y else y - 1))).length ≤ 100000000000 ∧ (limbs (if y < 1 then 1 - y else y - 1)).length ≤ 100000000000 := by
  rw [if_neg (by omega)]
  obtain ⟨k, hk⟩ : ∃ k : Nat, k = 1000000 := ⟨_, rfl⟩
  have h1 := Nat.lt_of_lt_of_le (lt_pow_limbs x) (Nat.pow_le_pow_right (by decide) (by omega : (limbs x).length ≤ k))
  have h2 := Nat.lt_of_lt_of_le (lt_pow_limbs y) (Nat.pow_le_pow_right (by decide) (by omega : (limbs y).length ≤ k))
  have e1 : x + (y - 1) < 1000000000 ^ (k + 1) := by
    rw [Nat.pow_succ]
    generalize (1000000000 : Nat) ^ k = r at *
    omega
  have e2 : y - 1 < 1000000000 ^ (k + 1) := by omega
  exact ⟨Nat.le_trans (limbs_length_le e1) (by omega), Nat.le_trans (limbs_length_le e2) (by omega)⟩
theorem quotientTab (x y : Int) (va vb : Value) (w : World) (ha : IntAt w va x) (hb : IntAt w vb y) (hlx : (limbs x.natAbs).length ≤ 1000000) (hly : (limbs y.natAbs).length ≤ 1000000) (hy0 : y ≠ 0) :
    Calls Tryz.prog 181 #[tabV 174 176 176 174, va, vb] w fun e w' => ∃ v', e = .returned v' ∧ IntAt w' v' (x.fdiv y) ∧ Below w.heap.size w w' := by
  have e1 : ∀ args w, (callFunc 174 args).run Tryz.prog w = .ok (.enter 174 args) w := enters_of Tryz.func174 (by kernel_rfl) rfl
  have e2 : ∀ args w, (callFunc 176 args).run Tryz.prog w = .ok (.enter 176 args) w := enters_of Tryz.func176 (by kernel_rfl) rfl
  obtain ⟨u1, u2⟩ := up_limbs x.natAbs y.natAbs hlx hly (by omega)
  by_cases hx : x < 0 <;> by_cases hy : y < 0
  · refine apply11 _ _ _ _ x y (x.fdiv y) va vb w ha hb hx hy e1 fun W v1 v2 h1 h2 => ?_
    rw [fdiv_same x y hy0 (propext ⟨fun _ => hy, fun _ => hx⟩)]
    exact quoSame_any x.natAbs y.natAbs v1 v2 W h1 h2 (by omega)
  · refine apply10 _ _ _ _ x y (x.fdiv y) va vb w ha hb hx hy e2 fun W v1 v2 h1 h2 => ?_
    rw [fdiv_opp x y hy0 (fun e => hy (e ▸ hx))]
    exact quoOpp_any x.natAbs y.natAbs v1 v2 W h1 h2 (by omega) (by omega) u1 u2
  · refine apply01 _ _ _ _ x y (x.fdiv y) va vb w ha hb hx hy e2 fun W v1 v2 h1 h2 => ?_
    rw [fdiv_opp x y hy0 (fun e => hx (e ▸ hy))]
    exact quoOpp_any x.natAbs y.natAbs v1 v2 W h1 h2 (by omega) (by omega) u1 u2
  · refine apply00 _ _ _ _ x y (x.fdiv y) va vb w ha hb hx hy e1 fun W v1 v2 h1 h2 => ?_
    rw [fdiv_same x y hy0 (propext ⟨fun h => absurd h hx, fun h => absurd h hy⟩)]
    exact quoSame_any x.natAbs y.natAbs v1 v2 W h1 h2 (by omega)
set_option maxHeartbeats 2000000 in
theorem quotientZ (x y : Int) (va vb : Value) (w : World) (ha : IntAt w va x) (hb : IntAt w vb y) (hlx : (limbs x.natAbs).length ≤ 1000000) (hly : (limbs y.natAbs).length ≤ 1000000) (hy0 : y ≠ 0) :
    Calls Tryz.prog 150 #[va, vb] w fun e w' => ∃ v', e = .returned v' ∧ IntAt w' v' (x.fdiv y) ∧ Below w.heap.size w w' := by
  have C : ∀ W : World, Below w.heap.size w W → Calls Tryz.prog 181 #[tabV 174 176 176 174, va, vb] W fun e w' => ∃ v', e = .returned v' ∧ IntAt w' v' (x.fdiv y) ∧ Below W.heap.size W w' := fun W hW => quotientTab x y va vb W (ha.mono hW) (hb.mono hW) hlx hly hy0
  have HC := Lib.hid C
  obtain ⟨ao, c, rfl, -⟩ := ha
  obtain ⟨ap, d, rfl, -⟩ := hb
  clear C hlx hly hy0
  generalize (limbs x.natAbs).length = n at *
  generalize (limbs y.natAbs).length = m at *
  generalize decide (x < 0) = ba at *
  generalize decide (y < 0) = bb at *
  generalize x.fdiv y = z at *
  have R0 := rbox3_new w ba bb ao ap n c m d
  go_enter Tryz.func150, Tryz.ntmps150
  go_wp2_with (go_at_call 181; refine (HC.out _ R0.below).mono ?_; rintro e w2 ⟨v2, rfl, hv2, hb2⟩; refine Hid.out ?_)
  have R2 := R0.mono hb2
  obtain ⟨a2, c2, rfl, hr2⟩ := hv2.open
  clear R0 hb2 hv2
  have k1 := R2.r0; have k2 := R2.r1; have k3 := R2.f0; have k4 := R2.f1
  obtain ⟨hI, hS⟩ := IntAt.stored (w := w) (by omega : w.heap.size ≤ w.heap.size + 1 + 1) R2 hr2
  have q0 := hS.q0; have q1 := hS.q1; have hbF := hS.below
  have HI := Lib.hid hI
  clear hI hS hr2
  refine Lib.hid ?_
  go_wp2
  refine bodyPost_ret (v := .agg #[.bool (sgn z), .slice a2 (lenZ z) c2]) (by simp [results, Tryz.results150, go_sem, q0, q1]) rfl ?_
  exact ⟨_, rfl, HI.out, hbF⟩
def errV (e : Nat) : Value := .tuple #[.string ⟨#[]⟩, .int .i64 (e : Nat)]
set_option maxHeartbeats 1000000 in
theorem compute_err (fs fl : Nat) (s t : ByteArray) (w : World) (hs : s.size ≤ 9223372036854775807) (ht : t.size ≤ 9223372036854775807) (h : errBoth (bytes s) (bytes t) ≠ 0) :
    Calls Tryz.prog 145 #[opV fs fl, .string s, .string t] w fun e w' => e = .returned (errV (errBoth (bytes s) (bytes t))) ∧ Below w.heap.size w w' := by
  have CB := fun W => checkBoth_any s t W hs ht
  rcases errBoth_cases (bytes s) (bytes t) with h0 | h0 | h0
  · exact absurd h0 h
  all_goals
    rw [h0] at CB ⊢
    have HCB := Lib.hid CB
    clear CB h h0 hs ht
    unfold opV errV
    go_enter Tryz.func145, Tryz.ntmps145
    go_wp2_with (go_at_call 166; refine (HCB.out _).mono ?_; rintro e w1 ⟨rfl, rfl⟩; refine Hid.out ?_)
    refine Lib.hid ?_
    go_wp2
    refine bodyPost_ret (by simp [results, Tryz.results145, go_sem]; rfl) rfl ?_
    exact ⟨rfl, by go_grown⟩
set_option maxHeartbeats 1000000 in
theorem divide_other (fs fl : Nat) (s t a : ByteArray) (e0 : Nat) (w : World) (hs : s.size ≤ 9223372036854775807) (hne : t ≠ ⟨#[48]⟩)
    (HC : ∀ W : World, Below w.heap.size w W → Calls Tryz.prog 145 #[opV fs fl, .string s, .string t] W fun e w' => e = .returned (.tuple #[.string a, .int .i64 e0]) ∧ Below W.heap.size W w') :
    Calls Tryz.prog 148 #[opV fs fl, .string s, .string t] w fun e w' => e = .returned (.tuple #[.string a, .int .i64 e0]) ∧ Below w.heap.size w w' := by
  have hd : (t.toList == [48]) = false := by
    rw [beq_eq_false_iff_ne]
    intro h
    have h2 : bytes t = [48] := h ▸ (ByteArray.toList_eq t).symm
    exact hne (ByteArray.ext (Array.ext' h2))
  have KC := Lib.hid HC; clear HC hne
  unfold opV at *
  go_enter Tryz.func148, Tryz.ntmps148
  go_wp2_with (go_at_call 145; refine (KC.out _ (by go_grown)).mono ?_; rintro e w1 ⟨rfl, hb1⟩; refine Hid.out ?_)
  have hbF : Below w.heap.size w w1 := by refine Below.chain ?_ hb1; go_grown
  clear hb1
  refine Lib.hid ?_
  go_wp2
  refine bodyPost_ret (by simp [results, Tryz.results148, go_sem]; rfl) rfl ?_
  exact ⟨rfl, hbF⟩
theorem fdiv_le (x y : Int) (hy : y ≠ 0) : (x.fdiv y).natAbs ≤ x.natAbs := by
  have hp : 0 < y.natAbs := by omega
  by_cases h : (x < 0) = (y < 0)
  · rw [fdiv_same x y hy h, Int.natAbs_natCast]
    exact Nat.div_le_self x.natAbs y.natAbs
  · rw [fdiv_opp x y hy h, Int.natAbs_neg, Int.natAbs_natCast]
    generalize x.natAbs = a at *
    generalize y.natAbs = b at *
    have : (a + b - 1) / b ≤ a := by
      clear h
      refine Nat.le_of_lt_succ ((Nat.div_lt_iff_lt_mul hp).2 ?_)
      rw [Nat.succ_mul]
      have := Nat.le_mul_of_pos_right a hp
      generalize a * b = q at *
      omega
    exact this
theorem compQuo (s t : ByteArray) (x y : Int) (w : World) (hs : Str s x) (ht : Str t y) (hy0 : y ≠ 0) (htab : Lib.TabIs Tryz.prog w "internal/strconv.uint64pow10" .u64 Lib.pow10Tab) :
    Calls Tryz.prog 145 #[opV 149 150, .string s, .string t] w fun e w' => e = .returned (resV (x.fdiv y)) ∧ Below w.heap.size w w' := by
  have hle := fdiv_le x y hy0
  by_cases h : x.natAbs < 1000000000 ∧ y.natAbs < 1000000000
  · have := compQuo_short s t x y (x.fdiv y) w hs ht h.1 h.2 (by omega) (by omega) (fun W => quoS x y W h.1 h.2 hy0) htab
    rwa [← resV_small (r := x.fdiv y) (by omega)] at this
  · exact compQuo_long s t x y (x.fdiv y) w hs ht h (Nat.le_trans (limbs_length_mono hle) (by have := hs.limbs; omega)) (fun W v1 v2 h1 h2 => quotientZ x y v1 v2 W h1 h2 (by have := hs.limbs; omega) (by have := ht.limbs; omega) hy0) htab
theorem Str.ne_zero {t : ByteArray} {y : Int} (h : Str t y) (hy : y ≠ 0) : t ≠ ⟨#[48]⟩ := by
  intro e
  subst e
  have h1 := h.text
  have h2 : bytes ⟨#[48]⟩ = Lib.itoa 0 := by rw [itoa_nonneg (by omega)]; exact dec0'.symm
  rw [h2] at h1
  exact hy (itoa_inj h1).symm
set_option maxHeartbeats 1000000 in
theorem quo_of (s t a : ByteArray) (e0 : Nat) (w : World)
    (C : Calls Tryz.prog 148 #[opV 149 150, .string s, .string t] w fun e w' => e = .returned (.tuple #[.string a, .int .i64 e0]) ∧ Below w.heap.size w w') :
    Calls Tryz.prog 107 #[.string s, .string t] w fun e w' => e = .returned (.tuple #[.string a, .int .i64 e0]) ∧ Below w.heap.size w w' := by
  unfold opV at C
  have HC := Lib.hid C; clear C
  go_enter Tryz.func107, Tryz.ntmps107
  go_wp2_with (go_at_call 148; refine HC.out.mono ?_; rintro e w2 ⟨rfl, hb2⟩; refine Hid.out ?_)
  refine Lib.hid ?_
  go_wp2
  refine bodyPost_ret (by simp [results, Tryz.results107, go_sem]; rfl) rfl ?_
  exact ⟨rfl, hb2⟩
theorem quoZ (s t : ByteArray) (x y : Int) (w : World) (hs : Str s x) (ht : Str t y) (hy0 : y ≠ 0) (htab : Lib.TabIs Tryz.prog w "internal/strconv.uint64pow10" .u64 Lib.pow10Tab) :
    Calls Tryz.prog 107 #[.string s, .string t] w fun e w' => e = .returned (resV (x.fdiv y)) ∧ Below w.heap.size w w' := by
  have C : ∀ W : World, Below w.heap.size w W → Calls Tryz.prog 145 #[opV 149 150, .string s, .string t] W fun e w' => e = .returned (resV (x.fdiv y)) ∧ Below W.heap.size W w' := fun W hW => compQuo s t x y W hs ht hy0 ((Lib.tabBelow_of_tabIs htab).on hW).here
  obtain ⟨a, e0, hr⟩ := resV_parts (x.fdiv y)
  rw [hr] at C ⊢
  have := hs.size
  exact quo_of s t a e0 w (divide_other _ _ s t a e0 w (by omega) (ht.ne_zero hy0) C)
theorem eq48 (s : ByteArray) (h : s ≠ ⟨#[48]⟩) : (s.toList == [48]) = false := by
  rw [beq_eq_false_iff_ne]
  intro h1
  have h2 : bytes s = [48] := h1 ▸ (ByteArray.toList_eq s).symm
  exact h (ByteArray.ext (Array.ext' h2))
theorem abs_any (s : ByteArray) (w : World) (hs : s.size ≤ 9223372036854775807) :
    Calls Tryz.prog 109 #[.string s] w fun e w' => e = .returned (if errOf (bytes s) = 0 then .tuple #[.string (str (digL (bytes s))), .int .i64 0] else errV (errOf (bytes s))) ∧ w' = w := by
  have C1 := fun W => check_any s W hs
  have C2 := fun W => digits_any s W
  have hc := errOf_cases (bytes s)
  unfold errV
  generalize errOf (bytes s) = c at *
  generalize str (digL (bytes s)) = r at *
  have K1 := Lib.hid C1; have K2 := Lib.hid C2; clear C1 C2 hs
  rcases hc with rfl | rfl | rfl
  · go_enter Tryz.func109, Tryz.ntmps109
    go_wp2_with (go_at_call 138; refine (K1.out _).mono ?_; rintro e w1 ⟨rfl, rfl⟩; refine Hid.out ?_)
    refine Lib.hid ?_
    go_wp2_with (go_at_call 153; refine (K2.out _).mono ?_; rintro e w1 ⟨rfl, rfl⟩; refine Hid.out ?_)
    refine Lib.hid ?_
    go_wp2
    refine bodyPost_ret (by simp [results, Tryz.results109, go_sem]; rfl) rfl ?_
    exact ⟨rfl, rfl⟩
  all_goals
    go_enter Tryz.func109, Tryz.ntmps109
    go_wp2_with (go_at_call 138; refine (K1.out _).mono ?_; rintro e w1 ⟨rfl, rfl⟩; refine Hid.out ?_)
    refine Lib.hid ?_
    go_wp2
    refine bodyPost_ret (by simp [results, Tryz.results109, go_sem]; rfl) rfl ?_
    exact ⟨rfl, rfl⟩
theorem absZ (s : ByteArray) (x : Int) (w : World) (hs : Str s x) :
    Calls Tryz.prog 109 #[.string s] w fun e w' => e = .returned (.tuple #[.string (str (Lib.itoa (x.natAbs : Int))), .int .i64 0]) ∧ w' = w := by
  have := abs_any s w (by have := hs.size; omega)
  rw [hs.err, if_pos rfl, hs.text, digL_itoa] at this
  rwa [itoa_nonneg (by omega), Int.natAbs_natCast]
theorem str_zero : Str ⟨#[48]⟩ 0 := ⟨by rw [itoa_nonneg (by omega)]; exact dec0'.symm, by rw [show ((0 : Int).natAbs) = 0 from rfl, dec0']; decide⟩
end Go.Proofs.YtjobmkdaaionlaaGreatDoor

namespace Go.Proofs.YtjobmkdaaionlaaGreatDoor
open Go Go.Proofs Go.RowKit Go.Sort
set_option maxHeartbeats 4000000 in
theorem compGcd_short (s t : ByteArray) (x y r : Int) (w : World) (hs : Str s x) (ht : Str t y) (hx : x.natAbs < 1000000000) (hy : y.natAbs < 1000000000) (hr0 : -9223372036854775808 ≤ r) (hr1 : r ≤ 9223372036854775807)
    (HS : ∀ W : World, Calls Tryz.prog 146 #[.int .i64 x, .int .i64 y] W fun e w' => e = .returned (.int .i64 r) ∧ Below W.heap.size W w')
    (htab : Lib.TabIs Tryz.prog w "internal/strconv.uint64pow10" .u64 Lib.pow10Tab) :
    Calls Tryz.prog 145 #[opV 146 147, .string s, .string t] w fun e w' => e = .returned (.tuple #[.string (str (Lib.itoa r)), .int .i64 0]) ∧ Below w.heap.size w w' := by
  have hsz := hs.size
  have htz := ht.size
  have CB := fun W => checkBoth_any s t W (by omega) (by omega)
  have hb : errBoth (bytes s) (bytes t) = 0 := by unfold errBoth; rw [if_pos hs.err, ht.err]
  rw [hb] at CB
  have IS := fun W => isShort_any s W (by omega)
  have IT := fun W => isShort_any t W (by omega)
  rw [hs.short hx] at IS
  rw [ht.short hy] at IT
  have WS := fun W => wordZ_any s x W hs.text (by omega) (by omega)
  have WT := fun W => wordZ_any t y W ht.text (by omega) (by omega)
  have FI : ∀ W : World, Below w.heap.size w W → Calls Tryz.prog 168 #[.int .i64 r, .int .i64 10] W fun e w' => e = .returned (.string (str (Lib.itoa r))) ∧ Below W.heap.size W w' := fun W hW =>
    (Tryz.strconv_FormatInt_10 r hr0 hr1 W ((Lib.tabBelow_of_tabIs htab).on hW).here).mono fun e w' ⟨h1, k, os, h2⟩ => ⟨h1, by rw [h2]; exact Lib.below_grow _ W (Nat.le_refl _) k os⟩
  have HCB := Lib.hid CB; have HIS := Lib.hid IS; have HIT := Lib.hid IT; have HWS := Lib.hid WS; have HWT := Lib.hid WT; have HFI := Lib.hid FI; have HHS := Lib.hid HS
  clear CB IS IT WS WT FI HS hb htab hs ht hx hy hr0 hr1
  generalize str (Lib.itoa r) = rs at *
  unfold opV
  have B0 : Below w.heap.size w (w.alloc (Obj.cells #[.func (.func 146) #[] #[], .func (.func 147) #[] #[]] 166)) := (Below.refl _ _).alloc (Nat.le_refl _) _
  have c0 : (w.alloc (Obj.cells #[.func (.func 146) #[] #[], .func (.func 147) #[] #[]] 166)).cell? ⟨w.heap.size, 0, none⟩ = some (.func (.func 146) #[] #[]) := by go_cell
  go_enter Tryz.func145, Tryz.ntmps145
  go_wp2_with (go_at_call 166; refine (HCB.out _).mono ?_; rintro e w1 ⟨rfl, rfl⟩; refine Hid.out ?_)
  refine Lib.hid ?_
  go_wp2_with (go_at_call 167; refine (HIS.out _).mono ?_; rintro e w1 ⟨rfl, rfl⟩; refine Hid.out ?_)
  refine Lib.hid ?_
  go_wp2_with (go_at_call 167; refine (HIT.out _).mono ?_; rintro e w1 ⟨rfl, rfl⟩; refine Hid.out ?_)
  refine Lib.hid ?_
  go_wp2_with fail
  generalize w.alloc (Obj.cells #[.func (.func 146) #[] #[], .func (.func 147) #[] #[]] 166) = W at *
  have HB := Lib.hid B0; clear B0
  have hcell : ∀ d os, (grow (redrawn W d) os).cell? ⟨w.heap.size, 0, none⟩ = some (.func (.func 146) #[] #[]) := fun d os => cell_regrown c0 d os
  have cS : ∀ d os, Calls Tryz.prog 169 #[.string s] (grow (redrawn W d) os) fun e w'' => e = .returned (.int .i64 x) ∧ ∃ p : Regrown, w'' = grow (redrawn W p.d) p.os := fun d os => Calls.regrown_of (HWS.out _)
  have cT : ∀ d os, Calls Tryz.prog 169 #[.string t] (grow (redrawn W d) os) fun e w'' => e = .returned (.int .i64 y) ∧ ∃ p : Regrown, w'' = grow (redrawn W p.d) p.os := fun d os => Calls.regrown_of (HWT.out _)
  have cF : ∀ d os, Calls Tryz.prog 168 #[.int .i64 r, .int .i64 10] (grow (redrawn W d) os) fun e w'' => e = .returned (.string rs) ∧ ∃ p : Regrown, w'' = grow (redrawn W p.d) p.os := fun d os => Calls.regrown_of (HFI.out _ (Below.chain HB.out (below_regrown W d os)))
  have cH : ∀ d os, Calls Tryz.prog 146 #[.int .i64 x, .int .i64 y] (grow (redrawn W d) os) fun e w'' => e = .returned (.int .i64 r) ∧ ∃ p : Regrown, w'' = grow (redrawn W p.d) p.os := fun d os => Calls.regrown_of (HHS.out _)
  have KS := Lib.hid cS; have KT := Lib.hid cT; have KF := Lib.hid cF; have KH := Lib.hid cH
  clear cS cT cF cH
  refine wp_region_quiet_below (by kernel_rfl) (by kernel_rfl) ?_
  quiet_step (fail)
  quiet_step (fail)
  quiet_step (fail)
  quiet_step (exact KS.out _ _)
  quiet_step (fail)
  quiet_step (exact KT.out _ _)
  quiet_step (exact KH.out _ _)
  quiet_step (exact KF.out _ _)
  quiet_step (fail)
  quiet_step (fail)
  refine wpQuiet_nil ?_
  intro _ hw'
  obtain ⟨⟨dq, osq⟩, hw''⟩ := hw'
  subst hw''
  go_wp2
  refine bodyPost_ret (by simp [results, Tryz.results145, go_sem]; rfl) rfl ?_
  exact ⟨rfl, Below.chain HB.out (below_regrown W dq osq)⟩
end Go.Proofs.YtjobmkdaaionlaaGreatDoor

namespace Go.Proofs.YtjobmkdaaionlaaGreatDoor
open Go Go.Proofs Go.RowKit
theorem str_itoa {z : Int} (h : (Lib.decDigits z.natAbs).length ≤ 4096) : Str (str (Lib.itoa z)) z := ⟨bytes_str _, h⟩
theorem gcd_le (x y : Int) (B : Nat) (hx : x.natAbs < B) (hy : y.natAbs < B) : Int.gcd x y < B := by
  unfold Int.gcd
  by_cases h : x.natAbs = 0
  · rw [h, Nat.gcd_zero_left]; exact hy
  · exact Nat.lt_of_le_of_lt (Nat.gcd_le_left _ (by omega)) hx
theorem resV_long {r : Int} (h : 4096 < (Lib.decDigits r.natAbs).length) : resV r = .tuple #[.string ⟨#[]⟩, .int .i64 10] := by unfold resV; rw [if_pos h]
theorem resV_fits {r : Int} (h : ¬ 4096 < (Lib.decDigits r.natAbs).length) : resV r = .tuple #[.string (str (Lib.itoa r)), .int .i64 0] := by unfold resV; rw [if_neg h]
structure CV (W : World) (p : Nat) (z : Int) (ao : Option Addr) (c : Nat) : Prop where
  lt : p < W.heap.size
  c0 : W.cell? ⟨p, 0, none⟩ = some (.bool (sgn z))
  c1 : W.cell? ⟨p, 1, none⟩ = some (.slice ao (lenZ z) c)
  f0 : W.frozen? ⟨p, 0, none⟩ = false
  f1 : W.frozen? ⟨p, 1, none⟩ = false
  row : RowAt W ao c (limbs z.natAbs)
theorem CV.mono {W W' : World} {p : Nat} {z : Int} {ao : Option Addr} {c : Nat} (h : CV W p z ao c) (k : Below W.heap.size W W') : CV W' p z ao c :=
  ⟨Nat.lt_of_lt_of_le h.lt k.size, (k.cell (p := ⟨p, 0, none⟩) h.lt).trans h.c0, (k.cell (p := ⟨p, 1, none⟩) h.lt).trans h.c1, (k.frozen (p := ⟨p, 0, none⟩) h.lt).trans h.f0, (k.frozen (p := ⟨p, 1, none⟩) h.lt).trans h.f1, h.row.mono k⟩
theorem CV.int {W : World} {p : Nat} {z : Int} {ao : Option Addr} {c : Nat} (h : CV W p z ao c) : IntAt W (.agg #[.bool (sgn z), .slice ao (lenZ z) c]) z := ⟨ao, c, rfl, h.row⟩
theorem CV.rowput {W : World} {p : Nat} {z : Int} {ao : Option Addr} {c : Nat} (h : CV W p z ao c) {l : List Nat} {a2 : Option Addr} {c2 : Nat} (hr : RowAt W a2 c2 l) (u0 u1 : Value) : RowAt ((W.setCell ⟨p, 0, none⟩ u0).setCell ⟨p, 1, none⟩ u1) a2 c2 l := by
  refine RowAt.boxV (RowAt.boxV hr (fun k => ?_) _) (fun k => ?_) _
  · rw [h.c0]; simp
  · rw [World.cell?_setCell_other (h := by simp), h.c1]; simp
theorem CV.put {W : World} {p : Nat} {z : Int} {ao : Option Addr} {c : Nat} (h : CV W p z ao c) {z2 : Int} {a2 : Option Addr} {c2 : Nat} (hr : RowAt W a2 c2 (limbs z2.natAbs)) : CV ((W.setCell ⟨p, 0, none⟩ (.bool (sgn z2))).setCell ⟨p, 1, none⟩ (.slice a2 (lenZ z2) c2)) p z2 a2 c2 where
  lt := by simpa [World.setCell] using h.lt
  c0 := by rw [World.cell?_setCell_other (h := by simp)]; exact cellSet h.c0 _
  c1 := cellSet (u := .slice ao (lenZ z) c) (by rw [World.cell?_setCell_other (h := by simp)]; exact h.c1) _
  f0 := ((World.frozen?_setCell _ _ _ _).trans (World.frozen?_setCell _ _ _ _)).trans h.f0
  f1 := ((World.frozen?_setCell _ _ _ _).trans (World.frozen?_setCell _ _ _ _)).trans h.f1
  row := h.rowput hr _ _
theorem CV.other {W : World} {p q : Nat} {z z2 : Int} {ao a2 : Option Addr} {c c2 : Nat} (h : CV W q z ao c) (k : CV W p z2 a2 c2) (hne : p ≠ q) (u0 u1 : Value) : CV ((W.setCell ⟨p, 0, none⟩ u0).setCell ⟨p, 1, none⟩ u1) q z ao c where
  lt := by simpa [World.setCell] using h.lt
  c0 := by rw [World.cell?_setCell_other (h := by simp), World.cell?_setCell_other (h := fun e => hne (congrArg Addr.block e))]; exact h.c0
  c1 := by rw [World.cell?_setCell_other (h := fun e => hne (congrArg Addr.block e)), World.cell?_setCell_other (h := by simp)]; exact h.c1
  f0 := ((World.frozen?_setCell _ _ _ _).trans (World.frozen?_setCell _ _ _ _)).trans h.f0
  f1 := ((World.frozen?_setCell _ _ _ _).trans (World.frozen?_setCell _ _ _ _)).trans h.f1
  row := k.rowput h.row _ _
theorem CV.fresh {W : World} {z : Int} {ao : Option Addr} {c : Nat} {p : Nat} (hp : p = W.heap.size) (hr : RowAt W ao c (limbs z.natAbs)) : CV (W.alloc (Obj.cells #[.bool (sgn z), .slice ao (lenZ z) c] 182)) p z ao c := by
  subst hp
  exact ⟨by simp, by go_cell, by go_cell, by go_cell, by go_cell, hr.mono ((Below.refl _ _).alloc (Nat.le_refl _) _)⟩
theorem CV.zero {W : World} {p : Nat} (h : p < W.heap.size) (c0 : W.cell? ⟨p, 0, none⟩ = some (.bool false)) (c1 : W.cell? ⟨p, 1, none⟩ = some (.slice none 0 0)) (f0 : W.frozen? ⟨p, 0, none⟩ = false) (f1 : W.frozen? ⟨p, 1, none⟩ = false) : CV W p 0 none 0 where
  lt := h
  c0 := c0
  c1 := by rw [c1]; simp [lenZ, limbs_zero]
  f0 := f0
  f1 := f1
  row := by
    rw [show ((0 : Int).natAbs) = 0 from rfl, limbs_zero]
    obtain ⟨ao, c, e, hr⟩ := numAt_zero W
    rw [limbs_zero] at e hr
    simp only [List.length_nil] at e
    have : ao = none ∧ c = 0 := by injection e with e; simpa using e.symm
    obtain ⟨rfl, rfl⟩ := this
    exact hr
structure SBox (w W : World) (b : Bool) (ao : Option Addr) (n c : Nat) : Prop where
  a0 : W.cell? ⟨w.heap.size, 0, none⟩ = some (.bool b)
  a1 : W.cell? ⟨w.heap.size, 1, none⟩ = some (.slice ao n c)
  box : RBox w W (w.heap.size + 1)
theorem SBox.mono {w W W' : World} {b : Bool} {ao : Option Addr} {n c : Nat} (h : SBox w W b ao n c) (g : Below W.heap.size W W') : SBox w W' b ao n c := by
  have hl := h.box.lt
  exact ⟨(g.cell (p := ⟨w.heap.size, 0, none⟩) (by simp; omega)).trans h.a0, (g.cell (p := ⟨w.heap.size, 1, none⟩) (by simp; omega)).trans h.a1, h.box.mono g⟩
theorem SBox.keepS {w W : World} {b : Bool} {ao : Option Addr} {n c : Nat} (h : SBox w W b ao n c) (u0 u1 : Value) : ((W.setCell ⟨w.heap.size + 1, 0, none⟩ u0).setCell ⟨w.heap.size + 1, 1, none⟩ u1).cell? ⟨w.heap.size, 0, none⟩ = some (.bool b) := by
  rw [World.cell?_setCell_other (h := by simp), World.cell?_setCell_other (h := by simp)]; exact h.a0
end Go.Proofs.YtjobmkdaaionlaaGreatDoor

namespace Go.Proofs.YtjobmkdaaionlaaGreatDoor
open Go Go.Proofs
theorem fmod_natAbs_lt (x y : Int) (hy : y ≠ 0) : (x.fmod y).natAbs < y.natAbs := by
  have hp : 0 < y.natAbs := by omega
  have h1 := Nat.mod_lt x.natAbs hp
  have h2 : missN x.natAbs y.natAbs < y.natAbs := by unfold missN; split <;> omega
  by_cases hx : x < 0 <;> by_cases h : y < 0
  · rw [fmod_nn x y hx h]; omega
  · rw [fmod_np x y hy hx h]; omega
  · rw [fmod_pn x y hy hx h]; omega
  · rw [fmod_pp x y hx h]; omega
theorem step_fmod (g n : Int) : g - g.fdiv n * n = g.fmod n := by rw [Int.fmod_def, Int.mul_comm]
structure BezInv (B : Nat) (g n x f : Int) : Prop where
  g0 : 0 < g
  n0 : 0 ≤ n
  gB : g.natAbs ≤ B
  nB : n.natAbs ≤ B
  xB : x.natAbs ≤ B
  fB : f.natAbs ≤ B
  sum : f.natAbs * g.natAbs + x.natAbs * n.natAbs ≤ B
theorem fmod_nonneg (g n : Int) (h : 0 < n) : 0 ≤ g.fmod n := by
  by_cases hg : g < 0
  · rw [fmod_np g n (by omega) hg (by omega)]; omega
  · rw [fmod_pp g n hg (by omega)]; omega
theorem fdiv_nonneg' (g n : Int) (hg : 0 ≤ g) (h : 0 < n) : 0 ≤ g.fdiv n := by
  rw [fdiv_same g n (by omega) (propext ⟨fun k => by omega, fun k => by omega⟩)]; exact Int.natCast_nonneg _
theorem BezInv.step {B : Nat} {g n x f : Int} (h : BezInv B g n x f) (hn : n ≠ 0) : BezInv B n (g - g.fdiv n * n) f (x - g.fdiv n * f) := by
  obtain ⟨g0, n0, gB, nB, xB, fB, sum⟩ := h
  have hr0 := fmod_nonneg g n (by omega)
  have hr1 := fmod_natAbs_lt g n hn
  have hq := fdiv_nonneg' g n (by omega) (by omega)
  have hg : g.natAbs = (g.fdiv n).natAbs * n.natAbs + (g.fmod n).natAbs := by
    have := step_fmod g n
    have h1 : g = g.fdiv n * n + g.fmod n := by omega
    have h2 : 0 ≤ g.fdiv n * n := Int.mul_nonneg hq (by omega)
    rw [← Int.natAbs_mul]
    omega
  rw [step_fmod]
  have hf : (x - g.fdiv n * f).natAbs ≤ x.natAbs + (g.fdiv n).natAbs * f.natAbs := by rw [← Int.natAbs_mul]; omega
  generalize g.fdiv n = q at *
  generalize g.fmod n = r at *
  generalize x - q * f = f2 at *
  generalize q.natAbs = Q at *
  have key : f2.natAbs * n.natAbs + f.natAbs * r.natAbs ≤ B := by
    refine Nat.le_trans ?_ sum
    rw [hg]
    have h1 : f2.natAbs * n.natAbs ≤ (x.natAbs + Q * f.natAbs) * n.natAbs := Nat.mul_le_mul_right _ hf
    have e1 : (x.natAbs + Q * f.natAbs) * n.natAbs = x.natAbs * n.natAbs + f.natAbs * (Q * n.natAbs) := by
      rw [Nat.add_mul, Nat.mul_comm Q, Nat.mul_assoc]
    have e2 : f.natAbs * (Q * n.natAbs + r.natAbs) = f.natAbs * (Q * n.natAbs) + f.natAbs * r.natAbs := Nat.mul_add ..
    omega
  refine ⟨by omega, hr0, nB, by omega, fB, ?_, key⟩
  have : f2.natAbs ≤ f2.natAbs * n.natAbs := Nat.le_mul_of_pos_right _ (by omega)
  omega
theorem BezInv.start (b : Int) (n : Int) (hb : b ≠ 0) (hn0 : 0 ≤ n) (hn : n.natAbs ≤ b.natAbs) : BezInv b.natAbs (b.natAbs : Int) n 0 1 :=
  ⟨by omega, hn0, by omega, hn, by omega, by simp; omega, by simp⟩
end Go.Proofs.YtjobmkdaaionlaaGreatDoor

namespace Go.Proofs.YtjobmkdaaionlaaGreatDoor
open Go Go.Proofs Go.RowKit
structure B5 (w W : World) (a b g x : Int) (aa : Option Addr) (ca : Nat) (ab : Option Addr) (cb : Nat) (ag : Option Addr) (cg : Nat) (ax : Option Addr) (cx : Nat) : Prop where
  a : CV W w.heap.size a aa ca
  b : CV W (w.heap.size + 1) b ab cb
  g : CV W (w.heap.size + 1 + 1) g ag cg
  x : CV W (w.heap.size + 1 + 1 + 1) x ax cx
  y : CV W (w.heap.size + 1 + 1 + 1 + 1) 0 none 0
  below : Below w.heap.size w W
theorem B5.mono {w W W' : World} {a b g x : Int} {aa : Option Addr} {ca : Nat} {ab : Option Addr} {cb : Nat} {ag : Option Addr} {cg : Nat} {ax : Option Addr} {cx : Nat} (h : B5 w W a b g x aa ca ab cb ag cg ax cx) (k : Below W.heap.size W W') : B5 w W' a b g x aa ca ab cb ag cg ax cx :=
  ⟨h.a.mono k, h.b.mono k, h.g.mono k, h.x.mono k, h.y.mono k, Below.chain h.below k⟩
theorem B5.keep {w W : World} {a b g x : Int} {aa : Option Addr} {ca : Nat} {ab : Option Addr} {cb : Nat} {ag : Option Addr} {cg : Nat} {ax : Option Addr} {cx : Nat} (h : B5 w W a b g x aa ca ab cb ag cg ax cx) :
    W.cell? ⟨w.heap.size, 0, none⟩ = some (.bool (sgn a)) ∧ W.cell? ⟨w.heap.size, 1, none⟩ = some (.slice aa (lenZ a) ca) := ⟨h.a.c0, h.a.c1⟩
theorem lenZ_zero : lenZ 0 = 0 := by simp [lenZ, limbs_zero]
theorem CV.put0 {W : World} {p : Nat} {z : Int} {ao : Option Addr} {c : Nat} (h : CV W p z ao c) : CV ((W.setCell ⟨p, 0, none⟩ (.bool false)).setCell ⟨p, 1, none⟩ (.slice none 0 0)) p 0 none 0 := by
  obtain ⟨a, d, e, hr⟩ := numAt_zero W
  rw [limbs_zero] at e hr
  simp only [List.length_nil] at e
  have : a = none ∧ d = 0 := by injection e with e; simpa using e.symm
  obtain ⟨rfl, rfl⟩ := this
  have := h.put (z2 := 0) (a2 := none) (c2 := 0) (by rw [show ((0 : Int).natAbs) = 0 from rfl, limbs_zero]; exact hr)
  rwa [lenZ_zero] at this
structure BZ (w W : World) (pn pf : Nat) (a b g x n f : Int) (aa : Option Addr) (ca : Nat) (ab : Option Addr) (cb : Nat) (ag : Option Addr) (cg : Nat) (ax : Option Addr) (cx : Nat) (an : Option Addr) (cn : Nat) (af : Option Addr) (cf : Nat) : Prop where
  o : B5 w W a b g x aa ca ab cb ag cg ax cx
  n : CV W pn n an cn
  f : CV W pf f af cf
  hp : w.heap.size + 1 + 1 + 1 + 1 < pn
  hq : pn < pf
section
variable {w W : World} {pn pf : Nat} {a b g x n f : Int} {aa : Option Addr} {ca : Nat} {ab : Option Addr} {cb : Nat} {ag : Option Addr} {cg : Nat} {ax : Option Addr} {cx : Nat} {an : Option Addr} {cn : Nat} {af : Option Addr} {cf : Nat}
theorem BZ.mono {W' : World} (h : BZ w W pn pf a b g x n f aa ca ab cb ag cg ax cx an cn af cf) (k : Below W.heap.size W W') : BZ w W' pn pf a b g x n f aa ca ab cb ag cg ax cx an cn af cf :=
  ⟨h.o.mono k, h.n.mono k, h.f.mono k, h.hp, h.hq⟩
end
section
variable {P : Program} {ops : Array Oper} {Q : Exit → Act → World → Prop} {md : Region.Mode} {S : World → Prop} {late dep : Nat → Bool}
end
end Go.Proofs.YtjobmkdaaionlaaGreatDoor
