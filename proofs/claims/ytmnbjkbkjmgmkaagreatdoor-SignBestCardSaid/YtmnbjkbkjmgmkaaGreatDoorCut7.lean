import Derived.Test.YtmnbjkbkjmgmkaaGreatDoorOwnApply
import Derived.Test.YtmnbjkbkjmgmkaaGreatDoorCut5
import Derived.Deep.RegionHeld3

set_option linter.unusedVariables false
/-
  bigint: sum.
-/
set_option linter.unusedSimpArgs false
set_option linter.unusedVariables false
namespace Go.Proofs.YtmnbjkbkjmgmkaaGreatDoor
open Go Go.Proofs Go.RowKit
theorem sumTab (x y : Int) (va vb : Value) (w : World) (ha : IntAt w va x) (hb : IntAt w vb y) (hlx : (limbs x.natAbs).length ≤ 1000000000000) (hly : (limbs y.natAbs).length ≤ 1000000000000) :
    Calls Tryz.prog 65 #[tabV 58 64 63 61, va, vb] w fun e w' => ∃ v', e = .returned v' ∧ IntAt w' v' (x + y) ∧ Below w.heap.size w w' := by
  have e1 : ∀ args w, (callFunc 58 args).run Tryz.prog w = .ok (.enter 58 args) w := enters_of Tryz.func58 (by kernel_rfl) rfl
  have e2 : ∀ args w, (callFunc 64 args).run Tryz.prog w = .ok (.enter 64 args) w := enters_of Tryz.func64 (by kernel_rfl) rfl
  have e3 : ∀ args w, (callFunc 63 args).run Tryz.prog w = .ok (.enter 63 args) w := enters_of Tryz.func63 (by kernel_rfl) rfl
  have e4 : ∀ args w, (callFunc 61 args).run Tryz.prog w = .ok (.enter 61 args) w := enters_of Tryz.func61 (by kernel_rfl) rfl
  by_cases hx : x < 0 <;> by_cases hy : y < 0
  · refine apply11 _ _ _ _ x y (x + y) va vb w ha hb hx hy e4 fun W v1 v2 h1 h2 => ?_
    have := neither_any x.natAbs y.natAbs v1 v2 W h1 h2 hlx hly
    rwa [show (-((x.natAbs + y.natAbs : Nat) : Int)) = x + y by omega] at this
  · refine apply10 _ _ _ _ x y (x + y) va vb w ha hb hx hy e3 fun W v1 v2 h1 h2 => ?_
    have := reversed_any x.natAbs y.natAbs v1 v2 W h1 h2 hlx hly
    rwa [show ((y.natAbs : Int) - (x.natAbs : Int)) = x + y by omega] at this
  · refine apply01 _ _ _ _ x y (x + y) va vb w ha hb hx hy e2 fun W v1 v2 h1 h2 => ?_
    have := excess_any x.natAbs y.natAbs v1 v2 W h1 h2 hlx hly
    rwa [show ((x.natAbs : Int) - (y.natAbs : Int)) = x + y by omega] at this
  · refine apply00 _ _ _ _ x y (x + y) va vb w ha hb hx hy e1 fun W v1 v2 h1 h2 => ?_
    have := both_any x.natAbs y.natAbs v1 v2 W h1 h2 hlx hly
    rwa [show ((x.natAbs + y.natAbs : Nat) : Int) = x + y by omega] at this
theorem rbox3_new (w : World) (b1 b2 : Bool) (a1 a2 : Option Addr) (n1 c1 n2 c2 : Nat) : RBox w (((w.alloc (Obj.cells #[.bool b1, .slice a1 n1 c1] 73)).alloc (Obj.cells #[.bool b2, .slice a2 n2 c2] 73)).alloc (Obj.cells #[Value.bool false, Value.slice none 0 0] 73)) (w.heap.size + 1 + 1) :=
  ⟨by simp, by go_cell, by go_cell, by go_cell, by go_cell, by go_grown⟩
set_option maxHeartbeats 2000000 in
theorem sumZ (x y : Int) (va vb : Value) (w : World) (ha : IntAt w va x) (hb : IntAt w vb y) (hlx : (limbs x.natAbs).length ≤ 1000000000000) (hly : (limbs y.natAbs).length ≤ 1000000000000) :
    Calls Tryz.prog 37 #[va, vb] w fun e w' => ∃ v', e = .returned v' ∧ IntAt w' v' (x + y) ∧ Below w.heap.size w w' := by
  have C : ∀ W : World, Below w.heap.size w W → Calls Tryz.prog 65 #[tabV 58 64 63 61, va, vb] W fun e w' => ∃ v', e = .returned v' ∧ IntAt w' v' (x + y) ∧ Below W.heap.size W w' := fun W hW => sumTab x y va vb W (ha.mono hW) (hb.mono hW) hlx hly
  have HC := Lib.hid C
  obtain ⟨ao, c, rfl, -⟩ := ha
  obtain ⟨ap, d, rfl, -⟩ := hb
  clear C hlx hly
  generalize (limbs x.natAbs).length = n at *
  generalize (limbs y.natAbs).length = m at *
  generalize decide (x < 0) = ba at *
  generalize decide (y < 0) = bb at *
  generalize x + y = z at *
  have R0 := rbox3_new w ba bb ao ap n c m d
  go_enter Tryz.func37, Tryz.ntmps37
  go_wp2_with (go_at_call 65; refine (HC.out _ R0.below).mono ?_; rintro e w2 ⟨v2, rfl, hv2, hb2⟩; refine Hid.out ?_)
  have R2 := R0.mono hb2
  obtain ⟨a2, c2, rfl, hr2⟩ := hv2.open
  clear R0 hb2 hv2
  have k1 := R2.r0; have k2 := R2.r1; have k3 := R2.f0; have k4 := R2.f1
  obtain ⟨hI, hS⟩ := IntAt.stored (w := w) (by omega : w.heap.size ≤ w.heap.size + 1 + 1) R2 hr2
  have q0 := hS.q0; have q1 := hS.q1; have hbF := hS.below
  have HI := Lib.hid hI
  clear hI hS hr2
  refine Lib.hid ?_
  go_wp2
  refine bodyPost_ret (v := .agg #[.bool (sgn z), .slice a2 (lenZ z) c2]) (by simp [results, Tryz.results37, go_sem, q0, q1]) rfl ?_
  exact ⟨_, rfl, HI.out, hbF⟩
theorem addS (x y : Int) (w : World) (hx : x.natAbs < 1000000000) (hy : y.natAbs < 1000000000) :
    Calls Tryz.prog 36 #[.int .i64 x, .int .i64 y] w fun e w' => e = .returned (.int .i64 (x + y)) ∧ Below w.heap.size w w' := by
  go_enter Tryz.func36, Tryz.ntmps36
  go_wp2
  refine bodyPost_ret (v := .int .i64 (x + y)) (by simp [results, Tryz.results36, go_sem]; try (unfold wrap64; omega)) rfl ⟨rfl, Below.refl _ _⟩
theorem subS (x y : Int) (w : World) (hx : x.natAbs < 1000000000) (hy : y.natAbs < 1000000000) :
    Calls Tryz.prog 38 #[.int .i64 x, .int .i64 y] w fun e w' => e = .returned (.int .i64 (x - y)) ∧ Below w.heap.size w w' := by
  go_enter Tryz.func38, Tryz.ntmps38
  go_wp2
  refine bodyPost_ret (v := .int .i64 (x - y)) (by simp [results, Tryz.results38, go_sem]; try (unfold wrap64; omega)) rfl ⟨rfl, Below.refl _ _⟩
theorem mul_bound (x y : Int) (hx : x.natAbs < 1000000000) (hy : y.natAbs < 1000000000) : (x * y).natAbs < 1000000000000000000 := by
  rw [Int.natAbs_mul]
  have h1 : x.natAbs * y.natAbs ≤ 999999999 * 999999999 := Nat.mul_le_mul (by omega) (by omega)
  omega
theorem mulS (x y : Int) (w : World) (hx : x.natAbs < 1000000000) (hy : y.natAbs < 1000000000) :
    Calls Tryz.prog 40 #[.int .i64 x, .int .i64 y] w fun e w' => e = .returned (.int .i64 (x * y)) ∧ Below w.heap.size w w' := by
  have hb := mul_bound x y hx hy
  have h1 : -1000000000000000000 < x * y := by omega
  have h2 : x * y < 1000000000000000000 := by omega
  clear hb
  go_enter Tryz.func40, Tryz.ntmps40
  go_wp2
  refine bodyPost_ret (v := .int .i64 (x * y)) (by simp [results, Tryz.results40, go_sem]; try (unfold wrap64; omega)) rfl ⟨rfl, Below.refl _ _⟩
set_option maxHeartbeats 1000000 in
theorem quoS (x y : Int) (w : World) (hx : x.natAbs < 1000000000) (hy : y.natAbs < 1000000000) (hy0 : y ≠ 0) :
    Calls Tryz.prog 43 #[.int .i64 x, .int .i64 y] w fun e w' => e = .returned (.int .i64 (Int.fdiv x y)) ∧ Below w.heap.size w w' := by
  go_enter Tryz.func43, Tryz.ntmps43
  have hb : (x.tdiv y).natAbs ≤ x.natAbs := by rw [Int.natAbs_tdiv]; exact Nat.div_le_self _ _
  have hf := @Int.fdiv_eq_tdiv x y
  have HB := Lib.hid hb; have HF := Lib.hid hf; clear hb hf
  go_wp2
  all_goals
    refine bodyPost_ret (v := .int .i64 (x.fdiv y)) ?_ rfl ⟨rfl, Below.refl _ _⟩
    simp [results, Tryz.results43, go_sem]
    have hb := HB.out
    rw [HF.out]
    rcases Int.lt_or_gt_of_ne hy0 with hy1 | hy1
    · have hsg := Int.sign_eq_neg_one_of_neg hy1
      first
      | (rename_i h; rw [if_pos (Int.dvd_of_tmod_eq_zero h)]; unfold wrap64; omega)
      | (rename_i h1 h2
         rw [if_neg (fun d => h1 (Int.dvd_iff_tmod_eq_zero.1 d))]
         by_cases hx0 : x < 0 <;> simp [hx0, hy1, h1] at h2 <;> (unfold wrap64; (repeat' split) <;> omega))
    · have hsg := Int.sign_eq_one_of_pos hy1
      have hy2 : ¬ y < 0 := by omega
      first
      | (rename_i h; rw [if_pos (Int.dvd_of_tmod_eq_zero h)]; unfold wrap64; omega)
      | (rename_i h1 h2
         rw [if_neg (fun d => h1 (Int.dvd_iff_tmod_eq_zero.1 d))]
         by_cases hx0 : x < 0 <;> simp [hx0, hy2, h1] at h2 <;> (unfold wrap64; (repeat' split) <;> omega))
theorem fdiv_small (x y : Int) (hx : x.natAbs < 1000000000) (hy : y.natAbs < 1000000000) (hy0 : y ≠ 0) : (x.fdiv y).natAbs ≤ 1000000000 := by
  have hb : (x.tdiv y).natAbs ≤ x.natAbs := by rw [Int.natAbs_tdiv]; exact Nat.div_le_self _ _
  have hf := @Int.fdiv_eq_tdiv x y
  rcases Int.lt_or_gt_of_ne hy0 with hy1 | hy1
  · have hsg := Int.sign_eq_neg_one_of_neg hy1
    rw [hf]; (repeat' split) <;> omega
  · have hsg := Int.sign_eq_one_of_pos hy1
    rw [hf]; (repeat' split) <;> omega
set_option maxHeartbeats 1000000 in
theorem remS (x y : Int) (w : World) (hx : x.natAbs < 1000000000) (hy : y.natAbs < 1000000000) (hy0 : y ≠ 0) :
    Calls Tryz.prog 45 #[.int .i64 x, .int .i64 y] w fun e w' => e = .returned (.int .i64 (Int.fmod x y)) ∧ Below w.heap.size w w' := by
  have C := fun W => quoS x y W hx hy hy0
  have hm := @Int.mul_fdiv_add_fmod x y
  have hq := fdiv_small x y hx hy hy0
  have hmul : (y * x.fdiv y).natAbs ≤ 1000000000 * 1000000000 := by rw [Int.natAbs_mul]; exact Nat.mul_le_mul (by omega) hq
  generalize x.fdiv y = q at *
  generalize x.fmod y = r at *
  have h1 : -1000000000000000000 ≤ y * q := by omega
  have h2 : y * q ≤ 1000000000000000000 := by omega
  have hr : x - y * q = r := by omega
  have HR := Lib.hid hr
  clear hr hm hmul hq
  go_enter Tryz.func45, Tryz.ntmps45
  go_wp2_with (go_at_call 43; refine (C _).mono ?_; rintro e w1 ⟨rfl, hb1⟩; refine Hid.out ?_)
  refine Lib.hid ?_
  go_wp2
  rw [← HR.out]
  refine bodyPost_ret (v := .int .i64 (x - y * q)) (by simp [results, Tryz.results45, go_sem]; try (unfold wrap64; omega)) rfl ⟨rfl, hb1⟩
end Go.Proofs.YtmnbjkbkjmgmkaaGreatDoor

set_option linter.unusedSimpArgs false
set_option linter.unusedVariables false
namespace Go.Proofs.YtmnbjkbkjmgmkaaGreatDoor
open Go Go.Proofs Go.RowKit Go.Sort
set_option maxHeartbeats 4000000 in
theorem compAdd_short (s t : ByteArray) (x y r : Int) (w : World) (hs : Str s x) (ht : Str t y) (hx : x.natAbs < 1000000000) (hy : y.natAbs < 1000000000) (hr0 : -9223372036854775808 ≤ r) (hr1 : r ≤ 9223372036854775807)
    (HS : ∀ W : World, Calls Tryz.prog 36 #[.int .i64 x, .int .i64 y] W fun e w' => e = .returned (.int .i64 r) ∧ Below W.heap.size W w')
    (htab : Lib.TabIs Tryz.prog w "internal/strconv.uint64pow10" .u64 Lib.pow10Tab) :
    Calls Tryz.prog 35 #[opV 36 37, .string s, .string t] w fun e w' => e = .returned (.tuple #[.string (str (Lib.itoa r)), .int .i64 0]) ∧ Below w.heap.size w w' := by
  have hsz := hs.size
  have htz := ht.size
  have CB := fun W => checkBoth_any s t W (by omega) (by omega)
  have hb : errBoth (bytes s) (bytes t) = 0 := by unfold errBoth; rw [if_pos hs.err, ht.err]
  rw [hb] at CB
  have IS := fun W => isShort_any s W (by omega)
  have IT := fun W => isShort_any t W (by omega)
  rw [hs.short hx] at IS
  rw [ht.short hy] at IT
  have WS := fun W => wordZ_any s x W hs.text (by omega) (by omega)
  have WT := fun W => wordZ_any t y W ht.text (by omega) (by omega)
  have FI : ∀ W : World, Below w.heap.size w W → Calls Tryz.prog 53 #[.int .i64 r, .int .i64 10] W fun e w' => e = .returned (.string (str (Lib.itoa r))) ∧ Below W.heap.size W w' := fun W hW =>
    (Tryz.strconv_FormatInt_10 r hr0 hr1 W ((Lib.tabBelow_of_tabIs htab).on hW).here).mono fun e w' ⟨h1, k, os, h2⟩ => ⟨h1, by rw [h2]; exact Lib.below_grow _ W (Nat.le_refl _) k os⟩
  have HCB := Lib.hid CB; have HIS := Lib.hid IS; have HIT := Lib.hid IT; have HWS := Lib.hid WS; have HWT := Lib.hid WT; have HFI := Lib.hid FI; have HHS := Lib.hid HS
  clear CB IS IT WS WT FI HS hb htab hs ht hx hy hr0 hr1
  generalize str (Lib.itoa r) = rs at *
  unfold opV
  have B0 : Below w.heap.size w (w.alloc (Obj.cells #[.func (.func 36) #[] #[], .func (.func 37) #[] #[]] 62)) := (Below.refl _ _).alloc (Nat.le_refl _) _
  have c0 : (w.alloc (Obj.cells #[.func (.func 36) #[] #[], .func (.func 37) #[] #[]] 62)).cell? ⟨w.heap.size, 0, none⟩ = some (.func (.func 36) #[] #[]) := by go_cell
  go_enter Tryz.func35, Tryz.ntmps35
  go_wp2_with (go_at_call 51; refine (HCB.out _).mono ?_; rintro e w1 ⟨rfl, rfl⟩; refine Hid.out ?_)
  refine Lib.hid ?_
  go_wp2_with (go_at_call 52; refine (HIS.out _).mono ?_; rintro e w1 ⟨rfl, rfl⟩; refine Hid.out ?_)
  refine Lib.hid ?_
  go_wp2_with (go_at_call 52; refine (HIT.out _).mono ?_; rintro e w1 ⟨rfl, rfl⟩; refine Hid.out ?_)
  refine Lib.hid ?_
  go_wp2_with fail
  generalize w.alloc (Obj.cells #[.func (.func 36) #[] #[], .func (.func 37) #[] #[]] 62) = W at *
  have HB := Lib.hid B0; clear B0
  have hcell : ∀ d os, (grow (redrawn W d) os).cell? ⟨w.heap.size, 0, none⟩ = some (.func (.func 36) #[] #[]) := fun d os => cell_regrown c0 d os
  have cS : ∀ d os, Calls Tryz.prog 54 #[.string s] (grow (redrawn W d) os) fun e w'' => e = .returned (.int .i64 x) ∧ ∃ p : Regrown, w'' = grow (redrawn W p.d) p.os := fun d os => Calls.regrown_of (HWS.out _)
  have cT : ∀ d os, Calls Tryz.prog 54 #[.string t] (grow (redrawn W d) os) fun e w'' => e = .returned (.int .i64 y) ∧ ∃ p : Regrown, w'' = grow (redrawn W p.d) p.os := fun d os => Calls.regrown_of (HWT.out _)
  have cF : ∀ d os, Calls Tryz.prog 53 #[.int .i64 r, .int .i64 10] (grow (redrawn W d) os) fun e w'' => e = .returned (.string rs) ∧ ∃ p : Regrown, w'' = grow (redrawn W p.d) p.os := fun d os => Calls.regrown_of (HFI.out _ (Below.chain HB.out (below_regrown W d os)))
  have cH : ∀ d os, Calls Tryz.prog 36 #[.int .i64 x, .int .i64 y] (grow (redrawn W d) os) fun e w'' => e = .returned (.int .i64 r) ∧ ∃ p : Regrown, w'' = grow (redrawn W p.d) p.os := fun d os => Calls.regrown_of (HHS.out _)
  have KS := Lib.hid cS; have KT := Lib.hid cT; have KF := Lib.hid cF; have KH := Lib.hid cH
  clear cS cT cF cH
  refine wp_region_quiet_below (by kernel_rfl) (by kernel_rfl) ?_
  quiet_step (fail)
  quiet_step (fail)
  quiet_step (fail)
  quiet_step (exact KS.out _ _)
  quiet_step (fail)
  quiet_step (exact KT.out _ _)
  quiet_step (exact KH.out _ _)
  quiet_step (exact KF.out _ _)
  quiet_step (fail)
  quiet_step (fail)
  refine wpQuiet_nil ?_
  intro _ hw'
  obtain ⟨⟨dq, osq⟩, hw''⟩ := hw'
  subst hw''
  go_wp2
  refine bodyPost_ret (by simp [results, Tryz.results35, go_sem]; rfl) rfl ?_
  exact ⟨rfl, Below.chain HB.out (below_regrown W dq osq)⟩
theorem keepSAdd {W w1 w2 : World} {a : Addr} {v : Value} (hlt : a.block < W.heap.size) (h : w1.cell? a = some v ∧ Below W.heap.size W w1) (hb : Below w1.heap.size w1 w2) : w2.cell? a = some v ∧ Below W.heap.size W w2 :=
  ⟨(hb.cell (Nat.lt_of_lt_of_le hlt h.2.size)).trans h.1, Below.chain h.2 hb⟩
set_option maxHeartbeats 4000000 in
theorem compAdd_long (s t : ByteArray) (x y r : Int) (w : World) (hs : Str s x) (ht : Str t y) (hxy : ¬ (x.natAbs < 1000000000 ∧ y.natAbs < 1000000000)) (hr : (limbs r.natAbs).length ≤ 1000000000000)
    (HL : ∀ (W : World) (v1 v2 : Value), IntAt W v1 x → IntAt W v2 y → Calls Tryz.prog 37 #[v1, v2] W fun e w' => ∃ v, e = .returned v ∧ IntAt w' v r ∧ Below W.heap.size W w')
    (htab : Lib.TabIs Tryz.prog w "internal/strconv.uint64pow10" .u64 Lib.pow10Tab) :
    Calls Tryz.prog 35 #[opV 36 37, .string s, .string t] w fun e w' =>
      e = .returned (if 4096 < (Lib.decDigits r.natAbs).length then .tuple #[.string ⟨#[]⟩, .int .i64 10] else .tuple #[.string (str (Lib.itoa r)), .int .i64 0]) ∧ Below w.heap.size w w' := by
  have hsz := hs.size
  have htz := ht.size
  have CB := fun W => checkBoth_any s t W (by omega) (by omega)
  have hb : errBoth (bytes s) (bytes t) = 0 := by unfold errBoth; rw [if_pos hs.err, ht.err]
  rw [hb] at CB
  obtain ⟨bs, bt, hbs, hbt, hbb⟩ : ∃ bs bt : Bool, decide ((digL (bytes s)).length ≤ 9) = bs ∧ decide ((digL (bytes t)).length ≤ 9) = bt ∧ ¬ (bs = true ∧ bt = true) := by
    refine ⟨_, _, rfl, rfl, fun ⟨h1, h2⟩ => hxy ⟨?_, ?_⟩⟩
    · exact Decidable.byContradiction fun h => by rw [hs.notShort h] at h1; cases h1
    · exact Decidable.byContradiction fun h => by rw [ht.notShort h] at h2; cases h2
  have IS := fun W => isShort_any s W (by omega)
  have IT := fun W => isShort_any t W (by omega)
  rw [hbs] at IS
  rw [hbt] at IT
  have PS := fun W => parseZ_any s x W hs.text (by omega)
  have PT := fun W => parseZ_any t y W ht.text (by omega)
  have TX : ∀ (W : World) (v : Value), Below w.heap.size w W → IntAt W v r → Calls Tryz.prog 56 #[v] W fun e w' => e = .returned (.string (str (Lib.itoa r))) ∧ Below W.heap.size W w' := fun W v hW hv =>
    textZ_any r v W hv hr ((Lib.tabBelow_of_tabIs htab).on hW).here
  have LG := fun W => isLong_any (str (Lib.itoa r)) W (by
    rw [str_size]
    have h1 := decDigits_limbs r.natAbs
    by_cases hz : r < 0
    · rw [itoa_neg hz]; simp; omega
    · rw [itoa_nonneg hz]; omega)
  rw [bytes_str, digL_itoa] at LG
  have HCB := Lib.hid CB; have HIS := Lib.hid IS; have HIT := Lib.hid IT; have HPS := Lib.hid PS; have HPT := Lib.hid PT; have HTX := Lib.hid TX; have HHL := Lib.hid HL; have HLG := Lib.hid LG
  clear CB IS IT PS PT TX HL LG hb htab hs ht hxy hr hbs hbt
  generalize str (Lib.itoa r) = rs at *
  generalize hlong : decide (4096 < (Lib.decDigits r.natAbs).length) = lg at *
  have hres : (if 4096 < (Lib.decDigits r.natAbs).length then Value.tuple #[.string ⟨#[]⟩, .int .i64 10] else .tuple #[.string rs, .int .i64 0]) = if lg = true then .tuple #[.string ⟨#[]⟩, .int .i64 10] else .tuple #[.string rs, .int .i64 0] := by
    rw [← hlong]; simp
  rw [hres]
  clear hres hlong
  unfold opV
  have B0 : Below w.heap.size w (w.alloc (Obj.cells #[.func (.func 36) #[] #[], .func (.func 37) #[] #[]] 62)) := (Below.refl _ _).alloc (Nat.le_refl _) _
  have c0 : (w.alloc (Obj.cells #[.func (.func 36) #[] #[], .func (.func 37) #[] #[]] 62)).cell? ⟨w.heap.size, 1, none⟩ = some (.func (.func 37) #[] #[]) := by go_cell
  have s0 : w.heap.size < (w.alloc (Obj.cells #[.func (.func 36) #[] #[], .func (.func 37) #[] #[]] 62)).heap.size := by simp
  have key : ∀ W : World, Below w.heap.size w W → W.cell? ⟨w.heap.size, 1, none⟩ = some (.func (.func 37) #[] #[]) → w.heap.size < W.heap.size → True := fun _ _ _ _ => trivial
  clear key
  cases bs
  · go_enter Tryz.func35, Tryz.ntmps35
    go_wp2_with (go_at_call 51; refine (HCB.out _).mono ?_; rintro e w1 ⟨rfl, rfl⟩; refine Hid.out ?_)
    refine Lib.hid ?_
    go_wp2_with (go_at_call 52; refine (HIS.out _).mono ?_; rintro e w1 ⟨rfl, rfl⟩; refine Hid.out ?_)
    refine Lib.hid ?_
    go_wp2_with fail
    generalize w.alloc (Obj.cells #[.func (.func 36) #[] #[], .func (.func 37) #[] #[]] 62) = W at *
    have HB := Lib.hid B0; clear B0
    go_region_held3 (fun w' => w'.cell? ⟨w.heap.size, 1, none⟩ = some (.func (.func 37) #[] #[]) ∧ Below W.heap.size W w') (first | exact keepSAdd (a := ⟨w.heap.size, 1, none⟩) s0 ⟨c0, Below.refl _ _⟩ ((Below.refl _ _).drew) | (refine keepSAdd (a := ⟨w.heap.size, 1, none⟩) s0 ?_ (by assumption); assumption)) (first
      | (go_at_call_of 55 s; refine (HPS.out _).mono ?_; rintro e w4 ⟨v4, rfl, hv4, hb4⟩)
      | (go_at_call_of 55 t; refine (HPT.out _).mono ?_; rintro e w5 ⟨v5, rfl, hv5, hb5⟩)
      | (go_at_call 37; refine (HHL.out _ _ _ (hv4.mono hb5) hv5).mono ?_; rintro e w6 ⟨v6, rfl, hv6, hb6⟩)
      | (go_at_call 56; refine (HTX.out _ _ (Below.chain HB.out (Below.chain (Below.chain ((Below.refl _ _).drew) hb4) (Below.chain hb5 hb6))) hv6).mono ?_; rintro e w7 ⟨rfl, hb7⟩))
    all_goals
      have hbF := Below.chain HB.out (Below.chain (Below.chain ((Below.refl W.heap.size W).drew) hb4) (Below.chain hb5 (Below.chain hb6 hb7)))
      clear hb4 hb5 hb6 hb7 hv4 hv5 hv6 c0 s0
      go_wp2_with (go_at_call 57; refine (HLG.out _).mono ?_; rintro e w8 ⟨rfl, rfl⟩; refine Hid.out ?_)
      refine Lib.hid ?_
      cases lg
      · go_wp2
        refine bodyPost_ret (by simp [results, Tryz.results35, go_sem]; rfl) rfl ?_
        exact ⟨rfl, hbF⟩
      · go_wp2
        refine bodyPost_ret (by simp [results, Tryz.results35, go_sem]; rfl) rfl ?_
        exact ⟨rfl, hbF⟩
  · have hbt : bt = false := by cases bt <;> simp_all
    subst hbt
    clear hbb
    go_enter Tryz.func35, Tryz.ntmps35
    go_wp2_with (go_at_call 51; refine (HCB.out _).mono ?_; rintro e w1 ⟨rfl, rfl⟩; refine Hid.out ?_)
    refine Lib.hid ?_
    go_wp2_with (go_at_call 52; refine (HIS.out _).mono ?_; rintro e w1 ⟨rfl, rfl⟩; refine Hid.out ?_)
    refine Lib.hid ?_
    go_wp2_with (go_at_call 52; refine (HIT.out _).mono ?_; rintro e w1 ⟨rfl, rfl⟩; refine Hid.out ?_)
    refine Lib.hid ?_
    go_wp2_with fail
    generalize w.alloc (Obj.cells #[.func (.func 36) #[] #[], .func (.func 37) #[] #[]] 62) = W at *
    have HB := Lib.hid B0; clear B0
    go_region_held3 (fun w' => w'.cell? ⟨w.heap.size, 1, none⟩ = some (.func (.func 37) #[] #[]) ∧ Below W.heap.size W w') (first | exact keepSAdd (a := ⟨w.heap.size, 1, none⟩) s0 ⟨c0, Below.refl _ _⟩ ((Below.refl _ _).drew) | (refine keepSAdd (a := ⟨w.heap.size, 1, none⟩) s0 ?_ (by assumption); assumption)) (first
      | (go_at_call_of 55 s; refine (HPS.out _).mono ?_; rintro e w4 ⟨v4, rfl, hv4, hb4⟩)
      | (go_at_call_of 55 t; refine (HPT.out _).mono ?_; rintro e w5 ⟨v5, rfl, hv5, hb5⟩)
      | (go_at_call 37; refine (HHL.out _ _ _ (hv4.mono hb5) hv5).mono ?_; rintro e w6 ⟨v6, rfl, hv6, hb6⟩)
      | (go_at_call 56; refine (HTX.out _ _ (Below.chain HB.out (Below.chain (Below.chain ((Below.refl _ _).drew) hb4) (Below.chain hb5 hb6))) hv6).mono ?_; rintro e w7 ⟨rfl, hb7⟩))
    all_goals
      have hbF := Below.chain HB.out (Below.chain (Below.chain ((Below.refl W.heap.size W).drew) hb4) (Below.chain hb5 (Below.chain hb6 hb7)))
      clear hb4 hb5 hb6 hb7 hv4 hv5 hv6 c0 s0
      go_wp2_with (go_at_call 57; refine (HLG.out _).mono ?_; rintro e w8 ⟨rfl, rfl⟩; refine Hid.out ?_)
      refine Lib.hid ?_
      cases lg
      · go_wp2
        refine bodyPost_ret (by simp [results, Tryz.results35, go_sem]; rfl) rfl ?_
        exact ⟨rfl, hbF⟩
      · go_wp2
        refine bodyPost_ret (by simp [results, Tryz.results35, go_sem]; rfl) rfl ?_
        exact ⟨rfl, hbF⟩
end Go.Proofs.YtmnbjkbkjmgmkaaGreatDoor

set_option linter.unusedSimpArgs false
set_option linter.unusedVariables false
namespace Go.Proofs.YtmnbjkbkjmgmkaaGreatDoor
open Go Go.Proofs Go.RowKit
def resV (r : Int) : Value := if 4096 < (Lib.decDigits r.natAbs).length then .tuple #[.string ⟨#[]⟩, .int .i64 10] else .tuple #[.string (str (Lib.itoa r)), .int .i64 0]
theorem resV_small {r : Int} (h : r.natAbs < 1000000000000000000) : resV r = .tuple #[.string (str (Lib.itoa r)), .int .i64 0] := by
  unfold resV
  rw [if_neg]
  have := decDigits_length_le r.natAbs 18 (by decide) (by omega)
  omega
theorem Str.lt {s : ByteArray} {z : Int} (h : Str s z) {k : Nat} (hk : 4096 ≤ k) : z.natAbs < 10 ^ k := by
  have h1 := dec_lt (allDig_decDigits z.natAbs)
  rw [dec_decDigits] at h1
  exact Nat.lt_of_lt_of_le h1 (Nat.pow_le_pow_right (by decide) (Nat.le_trans h.len hk))
theorem limbs_of_pow {x k j : Nat} (h : x < 10 ^ k) (hj : k ≤ 9 * j) : (limbs x).length ≤ j := by
  refine limbs_length_le (Nat.lt_of_lt_of_le h ?_)
  rw [show (1000000000 : Nat) = 10 ^ 9 from rfl, ← Nat.pow_mul]
  exact Nat.pow_le_pow_right (by decide) hj
theorem Str.limbs {s : ByteArray} {z : Int} (h : Str s z) : (Go.Proofs.YtmnbjkbkjmgmkaaGreatDoor.limbs z.natAbs).length ≤ 456 := by
  obtain ⟨k, hk⟩ : ∃ k : Nat, k = 4096 := ⟨_, rfl⟩
  exact limbs_of_pow (h.lt (k := k) (by omega)) (by omega)
theorem sum_limbs {s t : ByteArray} {x y : Int} (hs : Str s x) (ht : Str t y) : (limbs (x + y).natAbs).length ≤ 456 := by
  obtain ⟨k, hk⟩ : ∃ k : Nat, k = 4096 := ⟨_, rfl⟩
  refine limbs_of_pow (k := k + 1) ?_ (by omega)
  have h1 := hs.lt (k := k) (by omega)
  have h2 := ht.lt (k := k) (by omega)
  rw [Nat.pow_succ]
  generalize (10 : Nat) ^ k = p at *
  omega
theorem compAdd (s t : ByteArray) (x y : Int) (w : World) (hs : Str s x) (ht : Str t y) (htab : Lib.TabIs Tryz.prog w "internal/strconv.uint64pow10" .u64 Lib.pow10Tab) :
    Calls Tryz.prog 35 #[opV 36 37, .string s, .string t] w fun e w' => e = .returned (resV (x + y)) ∧ Below w.heap.size w w' := by
  by_cases h : x.natAbs < 1000000000 ∧ y.natAbs < 1000000000
  · have := compAdd_short s t x y (x + y) w hs ht h.1 h.2 (by omega) (by omega) (fun W => addS x y W h.1 h.2) htab
    rwa [← resV_small (r := x + y) (by omega)] at this
  · exact compAdd_long s t x y (x + y) w hs ht h (by have := sum_limbs hs ht; omega) (fun W v1 v2 h1 h2 => sumZ x y v1 v2 W h1 h2 (by have := hs.limbs; omega) (by have := ht.limbs; omega)) htab
theorem resV_parts (r : Int) : ∃ (a : ByteArray) (e : Nat), resV r = .tuple #[.string a, .int .i64 e] := by
  unfold resV
  split
  · exact ⟨_, 10, rfl⟩
  · exact ⟨_, 0, rfl⟩
set_option maxHeartbeats 1000000 in
theorem addZ (s t : ByteArray) (x y : Int) (w : World) (hs : Str s x) (ht : Str t y) (htab : Lib.TabIs Tryz.prog w "internal/strconv.uint64pow10" .u64 Lib.pow10Tab) :
    Calls Tryz.prog 22 #[.string s, .string t] w fun e w' => e = .returned (resV (x + y)) ∧ Below w.heap.size w w' := by
  have C := compAdd s t x y w hs ht htab
  obtain ⟨a, e0, hr⟩ := resV_parts (x + y)
  rw [hr] at C ⊢
  clear hr hs ht htab
  unfold opV at C
  have HC := Lib.hid C; clear C
  go_enter Tryz.func22, Tryz.ntmps22
  go_wp2_with (go_at_call 35; refine HC.out.mono ?_; rintro e w2 ⟨rfl, hb2⟩; refine Hid.out ?_)
  refine Lib.hid ?_
  go_wp2
  refine bodyPost_ret (by simp [results, Tryz.results22, go_sem]; rfl) rfl ?_
  exact ⟨rfl, hb2⟩
end Go.Proofs.YtmnbjkbkjmgmkaaGreatDoor

set_option linter.unusedSimpArgs false
set_option linter.unusedVariables false
namespace Go.Proofs.YtmnbjkbkjmgmkaaGreatDoor
open Go Go.Proofs Go.RowKit Go.Sort
set_option maxHeartbeats 4000000 in
theorem compSub_short (s t : ByteArray) (x y r : Int) (w : World) (hs : Str s x) (ht : Str t y) (hx : x.natAbs < 1000000000) (hy : y.natAbs < 1000000000) (hr0 : -9223372036854775808 ≤ r) (hr1 : r ≤ 9223372036854775807)
    (HS : ∀ W : World, Calls Tryz.prog 38 #[.int .i64 x, .int .i64 y] W fun e w' => e = .returned (.int .i64 r) ∧ Below W.heap.size W w')
    (htab : Lib.TabIs Tryz.prog w "internal/strconv.uint64pow10" .u64 Lib.pow10Tab) :
    Calls Tryz.prog 35 #[opV 38 39, .string s, .string t] w fun e w' => e = .returned (.tuple #[.string (str (Lib.itoa r)), .int .i64 0]) ∧ Below w.heap.size w w' := by
  have hsz := hs.size
  have htz := ht.size
  have CB := fun W => checkBoth_any s t W (by omega) (by omega)
  have hb : errBoth (bytes s) (bytes t) = 0 := by unfold errBoth; rw [if_pos hs.err, ht.err]
  rw [hb] at CB
  have IS := fun W => isShort_any s W (by omega)
  have IT := fun W => isShort_any t W (by omega)
  rw [hs.short hx] at IS
  rw [ht.short hy] at IT
  have WS := fun W => wordZ_any s x W hs.text (by omega) (by omega)
  have WT := fun W => wordZ_any t y W ht.text (by omega) (by omega)
  have FI : ∀ W : World, Below w.heap.size w W → Calls Tryz.prog 53 #[.int .i64 r, .int .i64 10] W fun e w' => e = .returned (.string (str (Lib.itoa r))) ∧ Below W.heap.size W w' := fun W hW =>
    (Tryz.strconv_FormatInt_10 r hr0 hr1 W ((Lib.tabBelow_of_tabIs htab).on hW).here).mono fun e w' ⟨h1, k, os, h2⟩ => ⟨h1, by rw [h2]; exact Lib.below_grow _ W (Nat.le_refl _) k os⟩
  have HCB := Lib.hid CB; have HIS := Lib.hid IS; have HIT := Lib.hid IT; have HWS := Lib.hid WS; have HWT := Lib.hid WT; have HFI := Lib.hid FI; have HHS := Lib.hid HS
  clear CB IS IT WS WT FI HS hb htab hs ht hx hy hr0 hr1
  generalize str (Lib.itoa r) = rs at *
  unfold opV
  have B0 : Below w.heap.size w (w.alloc (Obj.cells #[.func (.func 38) #[] #[], .func (.func 39) #[] #[]] 62)) := (Below.refl _ _).alloc (Nat.le_refl _) _
  have c0 : (w.alloc (Obj.cells #[.func (.func 38) #[] #[], .func (.func 39) #[] #[]] 62)).cell? ⟨w.heap.size, 0, none⟩ = some (.func (.func 38) #[] #[]) := by go_cell
  go_enter Tryz.func35, Tryz.ntmps35
  go_wp2_with (go_at_call 51; refine (HCB.out _).mono ?_; rintro e w1 ⟨rfl, rfl⟩; refine Hid.out ?_)
  refine Lib.hid ?_
  go_wp2_with (go_at_call 52; refine (HIS.out _).mono ?_; rintro e w1 ⟨rfl, rfl⟩; refine Hid.out ?_)
  refine Lib.hid ?_
  go_wp2_with (go_at_call 52; refine (HIT.out _).mono ?_; rintro e w1 ⟨rfl, rfl⟩; refine Hid.out ?_)
  refine Lib.hid ?_
  go_wp2_with fail
  generalize w.alloc (Obj.cells #[.func (.func 38) #[] #[], .func (.func 39) #[] #[]] 62) = W at *
  have HB := Lib.hid B0; clear B0
  have hcell : ∀ d os, (grow (redrawn W d) os).cell? ⟨w.heap.size, 0, none⟩ = some (.func (.func 38) #[] #[]) := fun d os => cell_regrown c0 d os
  have cS : ∀ d os, Calls Tryz.prog 54 #[.string s] (grow (redrawn W d) os) fun e w'' => e = .returned (.int .i64 x) ∧ ∃ p : Regrown, w'' = grow (redrawn W p.d) p.os := fun d os => Calls.regrown_of (HWS.out _)
  have cT : ∀ d os, Calls Tryz.prog 54 #[.string t] (grow (redrawn W d) os) fun e w'' => e = .returned (.int .i64 y) ∧ ∃ p : Regrown, w'' = grow (redrawn W p.d) p.os := fun d os => Calls.regrown_of (HWT.out _)
  have cF : ∀ d os, Calls Tryz.prog 53 #[.int .i64 r, .int .i64 10] (grow (redrawn W d) os) fun e w'' => e = .returned (.string rs) ∧ ∃ p : Regrown, w'' = grow (redrawn W p.d) p.os := fun d os => Calls.regrown_of (HFI.out _ (Below.chain HB.out (below_regrown W d os)))
  have cH : ∀ d os, Calls Tryz.prog 38 #[.int .i64 x, .int .i64 y] (grow (redrawn W d) os) fun e w'' => e = .returned (.int .i64 r) ∧ ∃ p : Regrown, w'' = grow (redrawn W p.d) p.os := fun d os => Calls.regrown_of (HHS.out _)
  have KS := Lib.hid cS; have KT := Lib.hid cT; have KF := Lib.hid cF; have KH := Lib.hid cH
  clear cS cT cF cH
  refine wp_region_quiet_below (by kernel_rfl) (by kernel_rfl) ?_
  quiet_step (fail)
  quiet_step (fail)
  quiet_step (fail)
  quiet_step (exact KS.out _ _)
  quiet_step (fail)
  quiet_step (exact KT.out _ _)
  quiet_step (exact KH.out _ _)
  quiet_step (exact KF.out _ _)
  quiet_step (fail)
  quiet_step (fail)
  refine wpQuiet_nil ?_
  intro _ hw'
  obtain ⟨⟨dq, osq⟩, hw''⟩ := hw'
  subst hw''
  go_wp2
  refine bodyPost_ret (by simp [results, Tryz.results35, go_sem]; rfl) rfl ?_
  exact ⟨rfl, Below.chain HB.out (below_regrown W dq osq)⟩
theorem keepSSub {W w1 w2 : World} {a : Addr} {v : Value} (hlt : a.block < W.heap.size) (h : w1.cell? a = some v ∧ Below W.heap.size W w1) (hb : Below w1.heap.size w1 w2) : w2.cell? a = some v ∧ Below W.heap.size W w2 :=
  ⟨(hb.cell (Nat.lt_of_lt_of_le hlt h.2.size)).trans h.1, Below.chain h.2 hb⟩
set_option maxHeartbeats 4000000 in
theorem compSub_long (s t : ByteArray) (x y r : Int) (w : World) (hs : Str s x) (ht : Str t y) (hxy : ¬ (x.natAbs < 1000000000 ∧ y.natAbs < 1000000000)) (hr : (limbs r.natAbs).length ≤ 1000000000000)
    (HL : ∀ (W : World) (v1 v2 : Value), IntAt W v1 x → IntAt W v2 y → Calls Tryz.prog 39 #[v1, v2] W fun e w' => ∃ v, e = .returned v ∧ IntAt w' v r ∧ Below W.heap.size W w')
    (htab : Lib.TabIs Tryz.prog w "internal/strconv.uint64pow10" .u64 Lib.pow10Tab) :
    Calls Tryz.prog 35 #[opV 38 39, .string s, .string t] w fun e w' =>
      e = .returned (if 4096 < (Lib.decDigits r.natAbs).length then .tuple #[.string ⟨#[]⟩, .int .i64 10] else .tuple #[.string (str (Lib.itoa r)), .int .i64 0]) ∧ Below w.heap.size w w' := by
  have hsz := hs.size
  have htz := ht.size
  have CB := fun W => checkBoth_any s t W (by omega) (by omega)
  have hb : errBoth (bytes s) (bytes t) = 0 := by unfold errBoth; rw [if_pos hs.err, ht.err]
  rw [hb] at CB
  obtain ⟨bs, bt, hbs, hbt, hbb⟩ : ∃ bs bt : Bool, decide ((digL (bytes s)).length ≤ 9) = bs ∧ decide ((digL (bytes t)).length ≤ 9) = bt ∧ ¬ (bs = true ∧ bt = true) := by
    refine ⟨_, _, rfl, rfl, fun ⟨h1, h2⟩ => hxy ⟨?_, ?_⟩⟩
    · exact Decidable.byContradiction fun h => by rw [hs.notShort h] at h1; cases h1
    · exact Decidable.byContradiction fun h => by rw [ht.notShort h] at h2; cases h2
  have IS := fun W => isShort_any s W (by omega)
  have IT := fun W => isShort_any t W (by omega)
  rw [hbs] at IS
  rw [hbt] at IT
  have PS := fun W => parseZ_any s x W hs.text (by omega)
  have PT := fun W => parseZ_any t y W ht.text (by omega)
  have TX : ∀ (W : World) (v : Value), Below w.heap.size w W → IntAt W v r → Calls Tryz.prog 56 #[v] W fun e w' => e = .returned (.string (str (Lib.itoa r))) ∧ Below W.heap.size W w' := fun W v hW hv =>
    textZ_any r v W hv hr ((Lib.tabBelow_of_tabIs htab).on hW).here
  have LG := fun W => isLong_any (str (Lib.itoa r)) W (by
    rw [str_size]
    have h1 := decDigits_limbs r.natAbs
    by_cases hz : r < 0
    · rw [itoa_neg hz]; simp; omega
    · rw [itoa_nonneg hz]; omega)
  rw [bytes_str, digL_itoa] at LG
  have HCB := Lib.hid CB; have HIS := Lib.hid IS; have HIT := Lib.hid IT; have HPS := Lib.hid PS; have HPT := Lib.hid PT; have HTX := Lib.hid TX; have HHL := Lib.hid HL; have HLG := Lib.hid LG
  clear CB IS IT PS PT TX HL LG hb htab hs ht hxy hr hbs hbt
  generalize str (Lib.itoa r) = rs at *
  generalize hlong : decide (4096 < (Lib.decDigits r.natAbs).length) = lg at *
  have hres : (if 4096 < (Lib.decDigits r.natAbs).length then Value.tuple #[.string ⟨#[]⟩, .int .i64 10] else .tuple #[.string rs, .int .i64 0]) = if lg = true then .tuple #[.string ⟨#[]⟩, .int .i64 10] else .tuple #[.string rs, .int .i64 0] := by
    rw [← hlong]; simp
  rw [hres]
  clear hres hlong
  unfold opV
  have B0 : Below w.heap.size w (w.alloc (Obj.cells #[.func (.func 38) #[] #[], .func (.func 39) #[] #[]] 62)) := (Below.refl _ _).alloc (Nat.le_refl _) _
  have c0 : (w.alloc (Obj.cells #[.func (.func 38) #[] #[], .func (.func 39) #[] #[]] 62)).cell? ⟨w.heap.size, 1, none⟩ = some (.func (.func 39) #[] #[]) := by go_cell
  have s0 : w.heap.size < (w.alloc (Obj.cells #[.func (.func 38) #[] #[], .func (.func 39) #[] #[]] 62)).heap.size := by simp
  have key : ∀ W : World, Below w.heap.size w W → W.cell? ⟨w.heap.size, 1, none⟩ = some (.func (.func 39) #[] #[]) → w.heap.size < W.heap.size → True := fun _ _ _ _ => trivial
  clear key
  cases bs
  · go_enter Tryz.func35, Tryz.ntmps35
    go_wp2_with (go_at_call 51; refine (HCB.out _).mono ?_; rintro e w1 ⟨rfl, rfl⟩; refine Hid.out ?_)
    refine Lib.hid ?_
    go_wp2_with (go_at_call 52; refine (HIS.out _).mono ?_; rintro e w1 ⟨rfl, rfl⟩; refine Hid.out ?_)
    refine Lib.hid ?_
    go_wp2_with fail
    generalize w.alloc (Obj.cells #[.func (.func 38) #[] #[], .func (.func 39) #[] #[]] 62) = W at *
    have HB := Lib.hid B0; clear B0
    go_region_held3 (fun w' => w'.cell? ⟨w.heap.size, 1, none⟩ = some (.func (.func 39) #[] #[]) ∧ Below W.heap.size W w') (first | exact keepSSub (a := ⟨w.heap.size, 1, none⟩) s0 ⟨c0, Below.refl _ _⟩ ((Below.refl _ _).drew) | (refine keepSSub (a := ⟨w.heap.size, 1, none⟩) s0 ?_ (by assumption); assumption)) (first
      | (go_at_call_of 55 s; refine (HPS.out _).mono ?_; rintro e w4 ⟨v4, rfl, hv4, hb4⟩)
      | (go_at_call_of 55 t; refine (HPT.out _).mono ?_; rintro e w5 ⟨v5, rfl, hv5, hb5⟩)
      | (go_at_call 39; refine (HHL.out _ _ _ (hv4.mono hb5) hv5).mono ?_; rintro e w6 ⟨v6, rfl, hv6, hb6⟩)
      | (go_at_call 56; refine (HTX.out _ _ (Below.chain HB.out (Below.chain (Below.chain ((Below.refl _ _).drew) hb4) (Below.chain hb5 hb6))) hv6).mono ?_; rintro e w7 ⟨rfl, hb7⟩))
    all_goals
      have hbF := Below.chain HB.out (Below.chain (Below.chain ((Below.refl W.heap.size W).drew) hb4) (Below.chain hb5 (Below.chain hb6 hb7)))
      clear hb4 hb5 hb6 hb7 hv4 hv5 hv6 c0 s0
      go_wp2_with (go_at_call 57; refine (HLG.out _).mono ?_; rintro e w8 ⟨rfl, rfl⟩; refine Hid.out ?_)
      refine Lib.hid ?_
      cases lg
      · go_wp2
        refine bodyPost_ret (by simp [results, Tryz.results35, go_sem]; rfl) rfl ?_
        exact ⟨rfl, hbF⟩
      · go_wp2
        refine bodyPost_ret (by simp [results, Tryz.results35, go_sem]; rfl) rfl ?_
        exact ⟨rfl, hbF⟩
  · have hbt : bt = false := by cases bt <;> simp_all
    subst hbt
    clear hbb
    go_enter Tryz.func35, Tryz.ntmps35
    go_wp2_with (go_at_call 51; refine (HCB.out _).mono ?_; rintro e w1 ⟨rfl, rfl⟩; refine Hid.out ?_)
    refine Lib.hid ?_
    go_wp2_with (go_at_call 52; refine (HIS.out _).mono ?_; rintro e w1 ⟨rfl, rfl⟩; refine Hid.out ?_)
    refine Lib.hid ?_
    go_wp2_with (go_at_call 52; refine (HIT.out _).mono ?_; rintro e w1 ⟨rfl, rfl⟩; refine Hid.out ?_)
    refine Lib.hid ?_
    go_wp2_with fail
    generalize w.alloc (Obj.cells #[.func (.func 38) #[] #[], .func (.func 39) #[] #[]] 62) = W at *
    have HB := Lib.hid B0; clear B0
    go_region_held3 (fun w' => w'.cell? ⟨w.heap.size, 1, none⟩ = some (.func (.func 39) #[] #[]) ∧ Below W.heap.size W w') (first | exact keepSSub (a := ⟨w.heap.size, 1, none⟩) s0 ⟨c0, Below.refl _ _⟩ ((Below.refl _ _).drew) | (refine keepSSub (a := ⟨w.heap.size, 1, none⟩) s0 ?_ (by assumption); assumption)) (first
      | (go_at_call_of 55 s; refine (HPS.out _).mono ?_; rintro e w4 ⟨v4, rfl, hv4, hb4⟩)
      | (go_at_call_of 55 t; refine (HPT.out _).mono ?_; rintro e w5 ⟨v5, rfl, hv5, hb5⟩)
      | (go_at_call 39; refine (HHL.out _ _ _ (hv4.mono hb5) hv5).mono ?_; rintro e w6 ⟨v6, rfl, hv6, hb6⟩)
      | (go_at_call 56; refine (HTX.out _ _ (Below.chain HB.out (Below.chain (Below.chain ((Below.refl _ _).drew) hb4) (Below.chain hb5 hb6))) hv6).mono ?_; rintro e w7 ⟨rfl, hb7⟩))
    all_goals
      have hbF := Below.chain HB.out (Below.chain (Below.chain ((Below.refl W.heap.size W).drew) hb4) (Below.chain hb5 (Below.chain hb6 hb7)))
      clear hb4 hb5 hb6 hb7 hv4 hv5 hv6 c0 s0
      go_wp2_with (go_at_call 57; refine (HLG.out _).mono ?_; rintro e w8 ⟨rfl, rfl⟩; refine Hid.out ?_)
      refine Lib.hid ?_
      cases lg
      · go_wp2
        refine bodyPost_ret (by simp [results, Tryz.results35, go_sem]; rfl) rfl ?_
        exact ⟨rfl, hbF⟩
      · go_wp2
        refine bodyPost_ret (by simp [results, Tryz.results35, go_sem]; rfl) rfl ?_
        exact ⟨rfl, hbF⟩
end Go.Proofs.YtmnbjkbkjmgmkaaGreatDoor

set_option linter.unusedSimpArgs false
set_option linter.unusedVariables false
namespace Go.Proofs.YtmnbjkbkjmgmkaaGreatDoor
open Go Go.Proofs Go.RowKit
theorem rbox2_new (w : World) (b1 : Bool) (a1 : Option Addr) (n1 c1 : Nat) : RBox w ((w.alloc (Obj.cells #[.bool b1, .slice a1 n1 c1] 73)).alloc (Obj.cells #[Value.bool false, Value.slice none 0 0] 73)) (w.heap.size + 1) :=
  ⟨by simp, by go_cell, by go_cell, by go_cell, by go_cell, by go_grown⟩
set_option maxHeartbeats 2000000 in
theorem negated_any (y : Int) (vb : Value) (w : World) (hb : IntAt w vb y) :
    Calls Tryz.prog 66 #[vb] w fun e w' => ∃ v', e = .returned v' ∧ IntAt w' v' (-y) ∧ Below w.heap.size w w' := by
  obtain ⟨ap, d, rfl, hrb⟩ := hb
  have P : y < 0 → ∀ W : World, Below w.heap.size w W → Calls Tryz.prog 59 #[.agg #[.slice ap (limbs y.natAbs).length d]] W fun e w' => ∃ v', e = .returned v' ∧ IntAt w' v' (-y) ∧ Below W.heap.size W w' := fun h W hW => by
    have := plus_any y.natAbs _ W ⟨ap, d, rfl, hrb.mono hW⟩
    rwa [show ((y.natAbs : Nat) : Int) = -y by omega] at this
  have M : ¬ y < 0 → ∀ W : World, Below w.heap.size w W → Calls Tryz.prog 62 #[.agg #[.slice ap (limbs y.natAbs).length d]] W fun e w' => ∃ v', e = .returned v' ∧ IntAt w' v' (-y) ∧ Below W.heap.size W w' := fun h W hW => by
    have := minus_any y.natAbs _ W ⟨ap, d, rfl, hrb.mono hW⟩
    rwa [show ((y.natAbs : Nat) : Int) = y by omega] at this
  have KP := Lib.hid P; have KM := Lib.hid M
  clear P M hrb
  generalize (limbs y.natAbs).length = m at *
  by_cases hy : y < 0
  · have KQ := Lib.hid (KP.out hy)
    rw [decide_eq_true hy]
    clear KP KM hy
    generalize -y = z at *
    have R0 := rbox2_new w true ap m d
    go_enter Tryz.func66, Tryz.ntmps66
    go_wp2_with (go_at_call 59; refine (KQ.out _ R0.below).mono ?_; rintro e w2 ⟨v2, rfl, hv2, hb2⟩; refine Hid.out ?_)
    have R2 := R0.mono hb2
    obtain ⟨a2, c2, rfl, hr2⟩ := hv2.open
    clear R0 hb2 hv2
    have k1 := R2.r0; have k2 := R2.r1; have k3 := R2.f0; have k4 := R2.f1
    obtain ⟨hI, hS⟩ := IntAt.stored (w := w) (by omega : w.heap.size ≤ w.heap.size + 1) R2 hr2
    have q0 := hS.q0; have q1 := hS.q1; have hbF := hS.below
    have HI := Lib.hid hI
    clear hI hS hr2
    refine Lib.hid ?_
    go_wp2
    refine bodyPost_ret (v := .agg #[.bool (sgn z), .slice a2 (lenZ z) c2]) (by simp [results, Tryz.results66, go_sem, q0, q1]) rfl ?_
    exact ⟨_, rfl, HI.out, hbF⟩
  · have KQ := Lib.hid (KM.out hy)
    rw [decide_eq_false hy]
    clear KP KM hy
    generalize -y = z at *
    have R0 := rbox2_new w false ap m d
    go_enter Tryz.func66, Tryz.ntmps66
    go_wp2_with (go_at_call 62; refine (KQ.out _ R0.below).mono ?_; rintro e w2 ⟨v2, rfl, hv2, hb2⟩; refine Hid.out ?_)
    have R2 := R0.mono hb2
    obtain ⟨a2, c2, rfl, hr2⟩ := hv2.open
    clear R0 hb2 hv2
    have k1 := R2.r0; have k2 := R2.r1; have k3 := R2.f0; have k4 := R2.f1
    obtain ⟨hI, hS⟩ := IntAt.stored (w := w) (by omega : w.heap.size ≤ w.heap.size + 1) R2 hr2
    have q0 := hS.q0; have q1 := hS.q1; have hbF := hS.below
    have HI := Lib.hid hI
    clear hI hS hr2
    refine Lib.hid ?_
    go_wp2
    refine bodyPost_ret (v := .agg #[.bool (sgn z), .slice a2 (lenZ z) c2]) (by simp [results, Tryz.results66, go_sem, q0, q1]) rfl ?_
    exact ⟨_, rfl, HI.out, hbF⟩
structure DBox (w W : World) (ba : Bool) (ao : Option Addr) (n c : Nat) (bb : Bool) (ap : Option Addr) (m d : Nat) : Prop where
  a0 : W.cell? ⟨w.heap.size, 0, none⟩ = some (.bool ba)
  a1 : W.cell? ⟨w.heap.size, 1, none⟩ = some (.slice ao n c)
  b0 : W.cell? ⟨w.heap.size + 1, 0, none⟩ = some (.bool bb)
  b1 : W.cell? ⟨w.heap.size + 1, 1, none⟩ = some (.slice ap m d)
  box : RBox w W (w.heap.size + 1 + 1)
theorem DBox.mono {w W W' : World} {ba bb : Bool} {ao ap : Option Addr} {n c m d : Nat} (h : DBox w W ba ao n c bb ap m d) (g : Below W.heap.size W W') : DBox w W' ba ao n c bb ap m d := by
  have hl := h.box.lt
  exact ⟨(g.cell (p := ⟨w.heap.size, 0, none⟩) (by simp; omega)).trans h.a0, (g.cell (p := ⟨w.heap.size, 1, none⟩) (by simp; omega)).trans h.a1,
    (g.cell (p := ⟨w.heap.size + 1, 0, none⟩) (by simp; omega)).trans h.b0, (g.cell (p := ⟨w.heap.size + 1, 1, none⟩) (by simp; omega)).trans h.b1, h.box.mono g⟩
theorem DBox.keep {w W : World} {ba bb : Bool} {ao ap : Option Addr} {n c m d : Nat} (h : DBox w W ba ao n c bb ap m d) : W.cell? ⟨w.heap.size, 0, none⟩ = some (.bool ba) ∧ W.cell? ⟨w.heap.size, 1, none⟩ = some (.slice ao n c) ∧ W.cell? ⟨w.heap.size + 1, 0, none⟩ = some (.bool bb) ∧ W.cell? ⟨w.heap.size + 1, 1, none⟩ = some (.slice ap m d) :=
  ⟨h.a0, h.a1, h.b0, h.b1⟩
theorem DBox.keepS {w W : World} {ba bb : Bool} {ao ap : Option Addr} {n c m d : Nat} (h : DBox w W ba ao n c bb ap m d) (u0 u1 : Value) : ((W.setCell ⟨w.heap.size + 1 + 1, 0, none⟩ u0).setCell ⟨w.heap.size + 1 + 1, 1, none⟩ u1).cell? ⟨w.heap.size, 0, none⟩ = some (.bool ba) ∧ ((W.setCell ⟨w.heap.size + 1 + 1, 0, none⟩ u0).setCell ⟨w.heap.size + 1 + 1, 1, none⟩ u1).cell? ⟨w.heap.size, 1, none⟩ = some (.slice ao n c) ∧ ((W.setCell ⟨w.heap.size + 1 + 1, 0, none⟩ u0).setCell ⟨w.heap.size + 1 + 1, 1, none⟩ u1).cell? ⟨w.heap.size + 1, 0, none⟩ = some (.bool bb) ∧ ((W.setCell ⟨w.heap.size + 1 + 1, 0, none⟩ u0).setCell ⟨w.heap.size + 1 + 1, 1, none⟩ u1).cell? ⟨w.heap.size + 1, 1, none⟩ = some (.slice ap m d) := by
  refine ⟨?_, ?_, ?_, ?_⟩ <;> rw [World.cell?_setCell_other (h := by simp), World.cell?_setCell_other (h := by simp)]
  · exact h.a0
  · exact h.a1
  · exact h.b0
  · exact h.b1
set_option maxHeartbeats 4000000 in
theorem differenceZ (x y : Int) (va vb : Value) (w : World) (ha : IntAt w va x) (hb : IntAt w vb y) (hlx : (limbs x.natAbs).length ≤ 1000000000000) (hly : (limbs y.natAbs).length ≤ 1000000000000) :
    Calls Tryz.prog 39 #[va, vb] w fun e w' => ∃ v', e = .returned v' ∧ IntAt w' v' (x - y) ∧ Below w.heap.size w w' := by
  have C1 : ∀ W : World, Below w.heap.size w W → Calls Tryz.prog 66 #[vb] W fun e w' => ∃ v', e = .returned v' ∧ IntAt w' v' (-y) ∧ Below W.heap.size W w' := fun W hW => negated_any y vb W (hb.mono hW)
  have C2 : ∀ (W : World) (v : Value), Below w.heap.size w W → IntAt W v (-y) → Calls Tryz.prog 37 #[va, v] W fun e w' => ∃ v', e = .returned v' ∧ IntAt w' v' (x - y) ∧ Below W.heap.size W w' := fun W v hW hv => by
    have := sumZ x (-y) va v W (ha.mono hW) hv hlx (by rw [Int.natAbs_neg]; exact hly)
    rwa [show x + -y = x - y by omega] at this
  have KN := Lib.hid C1; have KS := Lib.hid C2
  obtain ⟨ao, c, rfl, -⟩ := ha
  obtain ⟨ap, d, rfl, -⟩ := hb
  clear C1 C2 hlx hly
  generalize (limbs x.natAbs).length = n at *
  generalize (limbs y.natAbs).length = m at *
  generalize decide (x < 0) = ba at *
  generalize decide (y < 0) = bb at *
  generalize x - y = z at *
  go_enter Tryz.func39, Tryz.ntmps39
  go_wp2_with fail
  have AB : DBox w (((w.alloc (Obj.cells #[.bool ba, .slice ao n c] 73)).alloc (Obj.cells #[.bool bb, .slice ap m d] 73)).alloc (Obj.cells #[Value.bool false, Value.slice none 0 0] 73)) ba ao n c bb ap m d :=
    ⟨by go_cell, by go_cell, by go_cell, by go_cell, rbox3_new w ba bb ao ap n c m d⟩
  generalize (((w.alloc (Obj.cells #[.bool ba, .slice ao n c] 73)).alloc (Obj.cells #[.bool bb, .slice ap m d] 73)).alloc (Obj.cells #[Value.bool false, Value.slice none 0 0] 73)) = W at *
  have AD := AB.mono ((Below.refl _ _).drew)
  have t1 := AD.a0; have t2 := AD.a1; have t3 := AD.b0; have t4 := AD.b1
  go_region_held3 (fun w' => w'.cell? ⟨w.heap.size, 0, none⟩ = some (.bool ba) ∧ w'.cell? ⟨w.heap.size, 1, none⟩ = some (.slice ao n c) ∧ w'.cell? ⟨w.heap.size + 1, 0, none⟩ = some (.bool bb) ∧ w'.cell? ⟨w.heap.size + 1, 1, none⟩ = some (.slice ap m d)) (first | exact A3.keepS _ _ | exact A3.keep | exact A2.keep | exact AD.keep | go_keep) (first
    | (go_at_call 66; refine (KN.out _ AD.box.below).mono ?_; rintro e w2 ⟨v2, rfl, hv2, hb2⟩; have A2 := AD.mono hb2)
    | (go_at_call 37; refine (KS.out _ _ A2.box.below hv2).mono ?_; rintro e w3 ⟨v3, rfl, hv3, hb3⟩; obtain ⟨a2, c2, rfl, hr2⟩ := hv3.open; have A3 := A2.mono hb3; have k1 := A3.box.r0; have k2 := A3.box.r1; have k3 := A3.box.f0; have k4 := A3.box.f1))
  all_goals
    obtain ⟨hI, hS⟩ := IntAt.stored (w := w) (by omega : w.heap.size ≤ w.heap.size + 1 + 1) A3.box hr2
    have q0 := hS.q0; have q1 := hS.q1; have hbF := hS.below
    have HI := Lib.hid hI
    clear hI hS hr2
    go_wp2
    refine bodyPost_ret (v := .agg #[.bool (sgn z), .slice a2 (lenZ z) c2]) (by simp [results, Tryz.results39, go_sem, q0, q1]) rfl ?_
    exact ⟨_, rfl, HI.out, hbF⟩
theorem diff_limbs {s t : ByteArray} {x y : Int} (hs : Str s x) (ht : Str t y) : (limbs (x - y).natAbs).length ≤ 456 := by
  obtain ⟨k, hk⟩ : ∃ k : Nat, k = 4096 := ⟨_, rfl⟩
  refine limbs_of_pow (k := k + 1) ?_ (by omega)
  have h1 := hs.lt (k := k) (by omega)
  have h2 := ht.lt (k := k) (by omega)
  rw [Nat.pow_succ]
  generalize (10 : Nat) ^ k = p at *
  omega
theorem compSub (s t : ByteArray) (x y : Int) (w : World) (hs : Str s x) (ht : Str t y) (htab : Lib.TabIs Tryz.prog w "internal/strconv.uint64pow10" .u64 Lib.pow10Tab) :
    Calls Tryz.prog 35 #[opV 38 39, .string s, .string t] w fun e w' => e = .returned (resV (x - y)) ∧ Below w.heap.size w w' := by
  by_cases h : x.natAbs < 1000000000 ∧ y.natAbs < 1000000000
  · have := compSub_short s t x y (x - y) w hs ht h.1 h.2 (by omega) (by omega) (fun W => subS x y W h.1 h.2) htab
    rwa [← resV_small (r := x - y) (by omega)] at this
  · exact compSub_long s t x y (x - y) w hs ht h (by have := diff_limbs hs ht; omega) (fun W v1 v2 h1 h2 => differenceZ x y v1 v2 W h1 h2 (by have := hs.limbs; omega) (by have := ht.limbs; omega)) htab
set_option maxHeartbeats 1000000 in
theorem subZ (s t : ByteArray) (x y : Int) (w : World) (hs : Str s x) (ht : Str t y) (htab : Lib.TabIs Tryz.prog w "internal/strconv.uint64pow10" .u64 Lib.pow10Tab) :
    Calls Tryz.prog 23 #[.string s, .string t] w fun e w' => e = .returned (resV (x - y)) ∧ Below w.heap.size w w' := by
  have C := compSub s t x y w hs ht htab
  obtain ⟨a, e0, hr⟩ := resV_parts (x - y)
  rw [hr] at C ⊢
  clear hr hs ht htab
  unfold opV at C
  have HC := Lib.hid C; clear C
  go_enter Tryz.func23, Tryz.ntmps23
  go_wp2_with (go_at_call 35; refine HC.out.mono ?_; rintro e w2 ⟨rfl, hb2⟩; refine Hid.out ?_)
  refine Lib.hid ?_
  go_wp2
  refine bodyPost_ret (by simp [results, Tryz.results23, go_sem]; rfl) rfl ?_
  exact ⟨rfl, hb2⟩
end Go.Proofs.YtmnbjkbkjmgmkaaGreatDoor

set_option linter.unusedSimpArgs false
set_option linter.unusedVariables false
namespace Go.Proofs.YtmnbjkbkjmgmkaaGreatDoor
structure MulInv (p0 p y : List Nat) (a i j c : Nat) : Prop where
  len : p.length = p0.length
  small : Small p
  rest : p.drop (i + j) = p0.drop (i + j)
  carry : c < 1000000000
  eq : val (p.take (i + j)) + c * 1000000000 ^ (i + j) = val (p0.take (i + j)) + a * 1000000000 ^ i * val (y.take j)
theorem MulInv.start {p0 y : List Nat} {a i : Nat} (hs : Small p0) : MulInv p0 p0 y a i 0 0 :=
  ⟨rfl, hs, rfl, by omega, by simp [val]⟩
theorem mul_lt (a b c p : Nat) (ha : a < 1000000000) (hb : b < 1000000000) (hc : c < 1000000000) (hp : p < 1000000000) : c + (a * b + p) < 1000000000 * 1000000000 := by
  have h : a * b ≤ 999999999 * 999999999 := Nat.mul_le_mul (by omega) (by omega)
  omega
theorem MulInv.step {p0 p y : List Nat} {a i j c : Nat} (h : MulInv p0 p y a i j c) (hi : i + j < p0.length) (ha : a < 1000000000) (hy : Small y) :
    MulInv p0 (p.set (i + j) ((c + (a * y.getD j 0 + p.getD (i + j) 0)) % 1000000000)) y a i (j + 1) ((c + (a * y.getD j 0 + p.getD (i + j) 0)) / 1000000000) := by
  have h1 := h.small.getD (i + j); have h2 := hy.getD j; have h3 := h.carry; have h4 := h.eq
  have e0 := getD_of_drop h.rest
  have hlt := mul_lt a (y.getD j 0) c (p.getD (i + j) 0) ha h2 h3 h1
  have hd := Nat.div_add_mod (c + (a * y.getD j 0 + p.getD (i + j) 0)) 1000000000
  refine ⟨by simp [h.len], h.small.set _ _ (Nat.mod_lt _ (by decide)), drop_set_succ h.rest, Nat.div_lt_of_lt_mul hlt, ?_⟩
  rw [← Nat.add_assoc i j 1, val_set_take _ _ _ (by rw [h.len]; exact hi), val_take_getD p0, val_take_getD y, ← e0, Nat.pow_succ]
  generalize (c + (a * y.getD j 0 + p.getD (i + j) 0)) / 1000000000 = u at *
  generalize (c + (a * y.getD j 0 + p.getD (i + j) 0)) % 1000000000 = v at *
  have ep : 1000000000 ^ (i + j) = 1000000000 ^ i * 1000000000 ^ j := Nat.pow_add ..
  have e7 : (1000000000 * u + v) * 1000000000 ^ (i + j) = (c + (a * y.getD j 0 + p.getD (i + j) 0)) * 1000000000 ^ (i + j) := by rw [hd]
  rw [ep] at h4 e7 ⊢
  clear ep hd hlt h1 h2 h3 e0 hy ha hi h
  generalize 1000000000 ^ i = P at *
  generalize 1000000000 ^ j = Q at *
  generalize p.getD (i + j) 0 = r at *
  generalize y.getD j 0 = s at *
  generalize val (List.take (i + j) p) = A at *
  generalize val (List.take (i + j) p0) = A0 at *
  generalize val (List.take j y) = Z at *
  grind
theorem MulInv.done {x p0 p y : List Nat} {i m c : Nat} (h : MulInv p0 p y (x.getD i 0) i m c) (hm : y.length = m) (hl : i + m < p0.length)
    (h0 : val (p0.take (i + m)) = val (x.take i) * val y) :
    Small (p.set (i + m) c) ∧ (p.set (i + m) c).length = p0.length ∧ val ((p.set (i + m) c).take (i + 1 + m)) = val (x.take (i + 1)) * val y := by
  refine ⟨h.small.set _ _ h.carry, by simp [h.len], ?_⟩
  rw [show i + 1 + m = i + m + 1 by omega, val_set_take _ _ _ (by rw [h.len]; exact hl), h.eq, h0, val_take_getD, List.take_of_length_le (l := y) (by omega), Nat.add_mul]
end Go.Proofs.YtmnbjkbkjmgmkaaGreatDoor

set_option linter.unusedSimpArgs false
set_option linter.unusedVariables false
namespace Go.Proofs.YtmnbjkbkjmgmkaaGreatDoor
structure DivInv (x q : List Nat) (y k r : Nat) : Prop where
  len : q.length = x.length
  small : Small q
  lt : r < y
  eq : val (q.drop k) * y + r = val (x.drop k)
theorem val_drop (l : List Nat) (k : Nat) (h : k < l.length) : val (l.drop k) = l.getD k 0 + 1000000000 * val (l.drop (k + 1)) := by
  rw [List.drop_eq_getElem_cons h, val_cons, getD_lt l k h]
theorem div_bound {r a y : Nat} (hr : r < y) (ha : a < 1000000000) : (r * 1000000000 + a) / y < 1000000000 :=
  Nat.div_lt_of_lt_mul (by
    have : (r + 1) * 1000000000 ≤ y * 1000000000 := Nat.mul_le_mul_right _ hr
    omega)
theorem DivInv.start {x : List Nat} {y : Nat} (hy : 0 < y) : DivInv x (List.replicate x.length 0) y x.length 0 :=
  ⟨by simp, Small.replicate _, hy, by simp [val]⟩
theorem DivInv.step {x q : List Nat} {y k r : Nat} (h : DivInv x q y (k + 1) r) (hk : k < x.length) (hx : Small x) :
    DivInv x (q.set k ((r * 1000000000 + x.getD k 0) / y)) y k ((r * 1000000000 + x.getD k 0) % y) := by
  have h1 := hx.getD k; have h2 := h.lt; have h3 := h.eq
  have hkq : k < q.length := by rw [h.len]; exact hk
  have hd := Nat.div_add_mod (r * 1000000000 + x.getD k 0) y
  refine ⟨by simp [h.len], h.small.set _ _ (div_bound h2 h1), Nat.mod_lt _ (by omega), ?_⟩
  rw [val_drop _ _ (by simpa using hkq), val_drop x k hk, List.drop_set_of_lt (by omega)]
  have e : (q.set k ((r * 1000000000 + x.getD k 0) / y)).getD k 0 = (r * 1000000000 + x.getD k 0) / y := by
    rw [getD_lt _ _ (by simpa using hkq), List.getElem_set_self]
  rw [e]
  generalize (r * 1000000000 + x.getD k 0) / y = u at *
  generalize (r * 1000000000 + x.getD k 0) % y = v at *
  generalize x.getD k 0 = a at *
  generalize val (q.drop (k + 1)) = Q at *
  generalize val (x.drop (k + 1)) = X at *
  subst h3
  grind
theorem DivInv.done {x q : List Nat} {y r : Nat} (h : DivInv x q y 0 r) : val q = val x / y ∧ r = val x % y := by
  have h3 := h.eq; have h2 := h.lt
  simp only [List.drop_zero] at h3
  rw [← h3]
  constructor
  · rw [Nat.mul_comm, Nat.mul_add_div (by omega), Nat.div_eq_of_lt h2]; omega
  · rw [Nat.mul_comm, Nat.mul_add_mod, Nat.mod_eq_of_lt h2]
end Go.Proofs.YtmnbjkbkjmgmkaaGreatDoor

set_option linter.unusedSimpArgs false
set_option linter.unusedVariables false
namespace Go.Proofs.YtmnbjkbkjmgmkaaGreatDoor
structure ScaleInv (x s : List Nat) (t i c : Nat) : Prop where
  len : s.length = x.length + 1
  small : Small s
  carry : c < 1000000000
  eq : val (s.take i) + c * 1000000000 ^ i = val (x.take i) * t
theorem ScaleInv.start (x : List Nat) (t : Nat) : ScaleInv x (List.replicate (x.length + 1) 0) t 0 0 :=
  ⟨by simp, Small.replicate _, by omega, by simp [val]⟩
theorem ScaleInv.step {x s : List Nat} {t i c : Nat} (h : ScaleInv x s t i c) (hi : i < x.length) (ht : t < 1000000000) (hx : Small x) :
    ScaleInv x (s.set i ((c + x.getD i 0 * t) % 1000000000)) t (i + 1) ((c + x.getD i 0 * t) / 1000000000) := by
  have h1 := hx.getD i; have h3 := h.carry; have h4 := h.eq
  have hlt := mul_lt (x.getD i 0) t c 0 h1 ht h3 (by decide)
  have hd := Nat.div_add_mod (c + x.getD i 0 * t) 1000000000
  refine ⟨by simp [h.len], h.small.set _ _ (Nat.mod_lt _ (by decide)), Nat.div_lt_of_lt_mul hlt, ?_⟩
  rw [val_set_take _ _ _ (by rw [h.len]; omega), val_take_getD, Nat.pow_succ]
  generalize (c + x.getD i 0 * t) / 1000000000 = u at *
  have e7 : (1000000000 * u + (c + x.getD i 0 * t) % 1000000000) * 1000000000 ^ i = (c + x.getD i 0 * t) * 1000000000 ^ i := by rw [hd]
  generalize (c + x.getD i 0 * t) % 1000000000 = v at *
  clear hd hlt h1 h3 hi ht hx h
  generalize 1000000000 ^ i = P at *
  generalize x.getD i 0 = a at *
  generalize val (List.take i s) = A at *
  generalize val (List.take i x) = Z at *
  grind
theorem ScaleInv.done {x s : List Nat} {t c : Nat} (h : ScaleInv x s t x.length c) :
    Small (s.set x.length c) ∧ (s.set x.length c).length = x.length + 1 ∧ val (s.set x.length c) = val x * t := by
  refine ⟨h.small.set _ _ h.carry, by simp [h.len], ?_⟩
  have e : (s.set x.length c).take (x.length + 1) = s.set x.length c := List.take_of_length_le (by simp [h.len])
  rw [← e, val_set_take _ _ _ (by rw [h.len]; omega), h.eq, List.take_of_length_le (Nat.le_refl _)]
structure BackInv (x0 x y : List Nat) (i c : Nat) : Prop where
  len : x.length = x0.length
  small : Small x
  rest : x.drop i = x0.drop i
  carry : c ≤ 1
  eq : val (x.take i) + c * 1000000000 ^ i = val (x0.take i) + val (y.take i)
theorem BackInv.start {x0 y : List Nat} (hs : Small x0) : BackInv x0 x0 y 0 0 := ⟨rfl, hs, rfl, by omega, by simp [val]⟩
theorem BackInv.step {x0 x y : List Nat} {i c : Nat} (h : BackInv x0 x y i c) (hi : i < x0.length) (hy : Small y) :
    BackInv x0 (x.set i ((y.getD i 0 + (x.getD i 0 + c)) % 1000000000)) y (i + 1) ((y.getD i 0 + (x.getD i 0 + c)) / 1000000000) := by
  have h1 := h.small.getD i; have h2 := hy.getD i; have h3 := h.carry; have h4 := h.eq
  have e0 := getD_of_drop h.rest
  refine ⟨by simp [h.len], h.small.set _ _ (by omega), drop_set_succ h.rest, by omega, ?_⟩
  rw [val_set_take _ _ _ (by rw [h.len]; exact hi), val_take_getD x0, val_take_getD y, ← e0, Nat.pow_succ]
  have hd := Nat.div_add_mod (y.getD i 0 + (x.getD i 0 + c)) 1000000000
  generalize (y.getD i 0 + (x.getD i 0 + c)) / 1000000000 = u at *
  have e7 : (1000000000 * u + (y.getD i 0 + (x.getD i 0 + c)) % 1000000000) * 1000000000 ^ i = (y.getD i 0 + (x.getD i 0 + c)) * 1000000000 ^ i := by rw [hd]
  generalize (y.getD i 0 + (x.getD i 0 + c)) % 1000000000 = v at *
  clear hd h1 h2 h3 hi hy h e0
  generalize 1000000000 ^ i = P at *
  generalize x.getD i 0 = a at *
  generalize y.getD i 0 = b at *
  grind
end Go.Proofs.YtmnbjkbkjmgmkaaGreatDoor
