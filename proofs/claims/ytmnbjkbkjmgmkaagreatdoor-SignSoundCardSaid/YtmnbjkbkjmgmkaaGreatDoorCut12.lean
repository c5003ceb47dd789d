import Derived.Deep.RegionHeld3
import Derived.Test.YtmnbjkbkjmgmkaaGreatDoorCut5
import Derived.Test.YtmnbjkbkjmgmkaaGreatDoorCut10
import Derived.Test.YtmnbjkbkjmgmkaaGreatDoorOwnQuoB
import Derived.Test.YtmnbjkbkjmgmkaaGreatDoorCut11
import Derived.Test.YtmnbjkbkjmgmkaaGreatDoorCut4

set_option linter.unusedVariables false
/-
  bigint.compute of Rem, for long integers. (made by tools/comp.py)
-/
set_option linter.unusedSimpArgs false
set_option linter.unusedVariables false
namespace Go.Proofs.YtmnbjkbkjmgmkaaGreatDoor
open Go Go.Proofs Go.RowKit Go.Sort
theorem keepSRem {W w1 w2 : World} {a : Addr} {v : Value} (hlt : a.block < W.heap.size) (h : w1.cell? a = some v ∧ Below W.heap.size W w1) (hb : Below w1.heap.size w1 w2) : w2.cell? a = some v ∧ Below W.heap.size W w2 :=
  ⟨(hb.cell (Nat.lt_of_lt_of_le hlt h.2.size)).trans h.1, Below.chain h.2 hb⟩
set_option maxHeartbeats 4000000 in
theorem compRem_long (s t : ByteArray) (x y r : Int) (w : World) (hs : Str s x) (ht : Str t y) (hxy : ¬ (x.natAbs < 1000000000 ∧ y.natAbs < 1000000000)) (hr : (limbs r.natAbs).length ≤ 1000000000000)
    (HL : ∀ (W : World) (v1 v2 : Value), IntAt W v1 x → IntAt W v2 y → Calls Tryz.prog 46 #[v1, v2] W fun e w' => ∃ v, e = .returned v ∧ IntAt w' v r ∧ Below W.heap.size W w')
    (htab : Lib.TabIs Tryz.prog w "internal/strconv.uint64pow10" .u64 Lib.pow10Tab) :
    Calls Tryz.prog 35 #[opV 45 46, .string s, .string t] w fun e w' =>
      e = .returned (if 4096 < (Lib.decDigits r.natAbs).length then .tuple #[.string ⟨#[]⟩, .int .i64 10] else .tuple #[.string (str (Lib.itoa r)), .int .i64 0]) ∧ Below w.heap.size w w' := by
  have hsz := hs.size
  have htz := ht.size
  have CB := fun W => checkBoth_any s t W (by omega) (by omega)
  have hb : errBoth (bytes s) (bytes t) = 0 := by unfold errBoth; rw [if_pos hs.err, ht.err]
  rw [hb] at CB
  obtain ⟨bs, bt, hbs, hbt, hbb⟩ : ∃ bs bt : Bool, decide ((digL (bytes s)).length ≤ 9) = bs ∧ decide ((digL (bytes t)).length ≤ 9) = bt ∧ ¬ (bs = true ∧ bt = true) := by
    refine ⟨_, _, rfl, rfl, fun ⟨h1, h2⟩ => hxy ⟨?_, ?_⟩⟩
    · exact Decidable.byContradiction fun h => by rw [hs.notShort h] at h1; cases h1
    · exact Decidable.byContradiction fun h => by rw [ht.notShort h] at h2; cases h2
  have IS := fun W => isShort_any s W (by omega)
  have IT := fun W => isShort_any t W (by omega)
  rw [hbs] at IS
  rw [hbt] at IT
  have PS := fun W => parseZ_any s x W hs.text (by omega)
  have PT := fun W => parseZ_any t y W ht.text (by omega)
  have TX : ∀ (W : World) (v : Value), Below w.heap.size w W → IntAt W v r → Calls Tryz.prog 56 #[v] W fun e w' => e = .returned (.string (str (Lib.itoa r))) ∧ Below W.heap.size W w' := fun W v hW hv =>
    textZ_any r v W hv hr ((Lib.tabBelow_of_tabIs htab).on hW).here
  have LG := fun W => isLong_any (str (Lib.itoa r)) W (by
    rw [str_size]
    have h1 := decDigits_limbs r.natAbs
    by_cases hz : r < 0
    · rw [itoa_neg hz]; simp; omega
    · rw [itoa_nonneg hz]; omega)
  rw [bytes_str, digL_itoa] at LG
  have HCB := Lib.hid CB; have HIS := Lib.hid IS; have HIT := Lib.hid IT; have HPS := Lib.hid PS; have HPT := Lib.hid PT; have HTX := Lib.hid TX; have HHL := Lib.hid HL; have HLG := Lib.hid LG
  clear CB IS IT PS PT TX HL LG hb htab hs ht hxy hr hbs hbt
  generalize str (Lib.itoa r) = rs at *
  generalize hlong : decide (4096 < (Lib.decDigits r.natAbs).length) = lg at *
  have hres : (if 4096 < (Lib.decDigits r.natAbs).length then Value.tuple #[.string ⟨#[]⟩, .int .i64 10] else .tuple #[.string rs, .int .i64 0]) = if lg = true then .tuple #[.string ⟨#[]⟩, .int .i64 10] else .tuple #[.string rs, .int .i64 0] := by
    rw [← hlong]; simp
  rw [hres]
  clear hres hlong
  unfold opV
  have B0 : Below w.heap.size w (w.alloc (Obj.cells #[.func (.func 45) #[] #[], .func (.func 46) #[] #[]] 62)) := (Below.refl _ _).alloc (Nat.le_refl _) _
  have c0 : (w.alloc (Obj.cells #[.func (.func 45) #[] #[], .func (.func 46) #[] #[]] 62)).cell? ⟨w.heap.size, 1, none⟩ = some (.func (.func 46) #[] #[]) := by go_cell
  have s0 : w.heap.size < (w.alloc (Obj.cells #[.func (.func 45) #[] #[], .func (.func 46) #[] #[]] 62)).heap.size := by simp
  have key : ∀ W : World, Below w.heap.size w W → W.cell? ⟨w.heap.size, 1, none⟩ = some (.func (.func 46) #[] #[]) → w.heap.size < W.heap.size → True := fun _ _ _ _ => trivial
  clear key
  cases bs
  · go_enter Tryz.func35, Tryz.ntmps35
    go_wp2_with (go_at_call 51; refine (HCB.out _).mono ?_; rintro e w1 ⟨rfl, rfl⟩; refine Hid.out ?_)
    refine Lib.hid ?_
    go_wp2_with (go_at_call 52; refine (HIS.out _).mono ?_; rintro e w1 ⟨rfl, rfl⟩; refine Hid.out ?_)
    refine Lib.hid ?_
    go_wp2_with fail
    generalize w.alloc (Obj.cells #[.func (.func 45) #[] #[], .func (.func 46) #[] #[]] 62) = W at *
    have HB := Lib.hid B0; clear B0
    go_region_held3 (fun w' => w'.cell? ⟨w.heap.size, 1, none⟩ = some (.func (.func 46) #[] #[]) ∧ Below W.heap.size W w') (first | exact keepSRem (a := ⟨w.heap.size, 1, none⟩) s0 ⟨c0, Below.refl _ _⟩ ((Below.refl _ _).drew) | (refine keepSRem (a := ⟨w.heap.size, 1, none⟩) s0 ?_ (by assumption); assumption)) (first
      | (go_at_call_of 55 s; refine (HPS.out _).mono ?_; rintro e w4 ⟨v4, rfl, hv4, hb4⟩)
      | (go_at_call_of 55 t; refine (HPT.out _).mono ?_; rintro e w5 ⟨v5, rfl, hv5, hb5⟩)
      | (go_at_call 46; refine (HHL.out _ _ _ (hv4.mono hb5) hv5).mono ?_; rintro e w6 ⟨v6, rfl, hv6, hb6⟩)
      | (go_at_call 56; refine (HTX.out _ _ (Below.chain HB.out (Below.chain (Below.chain ((Below.refl _ _).drew) hb4) (Below.chain hb5 hb6))) hv6).mono ?_; rintro e w7 ⟨rfl, hb7⟩))
    all_goals
      have hbF := Below.chain HB.out (Below.chain (Below.chain ((Below.refl W.heap.size W).drew) hb4) (Below.chain hb5 (Below.chain hb6 hb7)))
      clear hb4 hb5 hb6 hb7 hv4 hv5 hv6 c0 s0
      go_wp2_with (go_at_call 57; refine (HLG.out _).mono ?_; rintro e w8 ⟨rfl, rfl⟩; refine Hid.out ?_)
      refine Lib.hid ?_
      cases lg
      · go_wp2
        refine bodyPost_ret (by simp [results, Tryz.results35, go_sem]; rfl) rfl ?_
        exact ⟨rfl, hbF⟩
      · go_wp2
        refine bodyPost_ret (by simp [results, Tryz.results35, go_sem]; rfl) rfl ?_
        exact ⟨rfl, hbF⟩
  · have hbt : bt = false := by cases bt <;> simp_all
    subst hbt
    clear hbb
    go_enter Tryz.func35, Tryz.ntmps35
    go_wp2_with (go_at_call 51; refine (HCB.out _).mono ?_; rintro e w1 ⟨rfl, rfl⟩; refine Hid.out ?_)
    refine Lib.hid ?_
    go_wp2_with (go_at_call 52; refine (HIS.out _).mono ?_; rintro e w1 ⟨rfl, rfl⟩; refine Hid.out ?_)
    refine Lib.hid ?_
    go_wp2_with (go_at_call 52; refine (HIT.out _).mono ?_; rintro e w1 ⟨rfl, rfl⟩; refine Hid.out ?_)
    refine Lib.hid ?_
    go_wp2_with fail
    generalize w.alloc (Obj.cells #[.func (.func 45) #[] #[], .func (.func 46) #[] #[]] 62) = W at *
    have HB := Lib.hid B0; clear B0
    go_region_held3 (fun w' => w'.cell? ⟨w.heap.size, 1, none⟩ = some (.func (.func 46) #[] #[]) ∧ Below W.heap.size W w') (first | exact keepSRem (a := ⟨w.heap.size, 1, none⟩) s0 ⟨c0, Below.refl _ _⟩ ((Below.refl _ _).drew) | (refine keepSRem (a := ⟨w.heap.size, 1, none⟩) s0 ?_ (by assumption); assumption)) (first
      | (go_at_call_of 55 s; refine (HPS.out _).mono ?_; rintro e w4 ⟨v4, rfl, hv4, hb4⟩)
      | (go_at_call_of 55 t; refine (HPT.out _).mono ?_; rintro e w5 ⟨v5, rfl, hv5, hb5⟩)
      | (go_at_call 46; refine (HHL.out _ _ _ (hv4.mono hb5) hv5).mono ?_; rintro e w6 ⟨v6, rfl, hv6, hb6⟩)
      | (go_at_call 56; refine (HTX.out _ _ (Below.chain HB.out (Below.chain (Below.chain ((Below.refl _ _).drew) hb4) (Below.chain hb5 hb6))) hv6).mono ?_; rintro e w7 ⟨rfl, hb7⟩))
    all_goals
      have hbF := Below.chain HB.out (Below.chain (Below.chain ((Below.refl W.heap.size W).drew) hb4) (Below.chain hb5 (Below.chain hb6 hb7)))
      clear hb4 hb5 hb6 hb7 hv4 hv5 hv6 c0 s0
      go_wp2_with (go_at_call 57; refine (HLG.out _).mono ?_; rintro e w8 ⟨rfl, rfl⟩; refine Hid.out ?_)
      refine Lib.hid ?_
      cases lg
      · go_wp2
        refine bodyPost_ret (by simp [results, Tryz.results35, go_sem]; rfl) rfl ?_
        exact ⟨rfl, hbF⟩
      · go_wp2
        refine bodyPost_ret (by simp [results, Tryz.results35, go_sem]; rfl) rfl ?_
        exact ⟨rfl, hbF⟩
end Go.Proofs.YtmnbjkbkjmgmkaaGreatDoor

set_option linter.unusedSimpArgs false
set_option linter.unusedVariables false
namespace Go.Proofs.YtmnbjkbkjmgmkaaGreatDoor
open Go Go.Proofs Go.RowKit
set_option maxHeartbeats 1000000 in
theorem rem1_any (x y : Nat) (vx vy : Value) (w : World) (hx : NumAt w vx x) (hy : NumAt w vy y) (hlx : (limbs x).length ≤ 100000000000) (hly : (limbs y).length ≤ 100000000000) (hy0 : 0 < y) :
    Calls Tryz.prog 76 #[vx, vy] w fun e w' => ∃ v', e = .returned v' ∧ IntAt w' v' (((x % y : Nat) : Int)) ∧ Below w.heap.size w w' := by
  have C : ∀ W : World, Below w.heap.size w W → Calls Tryz.prog 77 #[vx, vy] W (RetN (x % y) W) := fun W hW => over_any x y vx vy W (hx.mono hW) (hy.mono hW) hlx
  have P : ∀ (W : World) (v : Value), NumAt W v (x % y) → Calls Tryz.prog 59 #[v] W fun e w' => ∃ v', e = .returned v' ∧ IntAt w' v' (((x % y : Nat) : Int)) ∧ Below W.heap.size W w' := fun W v h => plus_any _ v W h
  generalize (((x % y : Nat) : Int)) = z at *
  generalize x % y = s at *
  have HC := Lib.hid C; have HP := Lib.hid P
  obtain ⟨ao, c, rfl, -⟩ := hx
  obtain ⟨ap, d, rfl, -⟩ := hy
  clear C P hlx hly hy0
  generalize (limbs x).length = n at *
  generalize (limbs y).length = m at *
  have R0 := rbox_new w (Value.slice ao n c) (Value.slice ap m d) 71 71
  go_enter Tryz.func76, Tryz.ntmps76
  go_wp2_with (go_at_call 77; refine (HC.out _ R0.below).mono ?_; rintro e w1 ⟨v1, rfl, hv1, hb1⟩; refine Hid.out ?_)
  have R1 := R0.mono hb1
  refine Lib.hid ?_
  go_wp2_with (go_at_call 59; refine (HP.out _ _ hv1).mono ?_; rintro e w2 ⟨v2, rfl, hv2, hb2⟩; refine Hid.out ?_)
  have R2 := R1.mono hb2
  obtain ⟨a2, c2, rfl, hr2⟩ := hv2.open
  clear R0 R1 hb1 hb2 hv1 hv2
  have k1 := R2.r0; have k2 := R2.r1; have k3 := R2.f0; have k4 := R2.f1
  obtain ⟨hI, hS⟩ := IntAt.stored (w := w) (by omega : w.heap.size ≤ w.heap.size + 1 + 1) R2 hr2
  have q0 := hS.q0; have q1 := hS.q1; have hbF := hS.below
  have HI := Lib.hid hI
  clear hI hS hr2
  refine Lib.hid ?_
  go_wp2
  refine bodyPost_ret (v := .agg #[.bool (sgn z), .slice a2 (lenZ z) c2]) (by simp [results, Tryz.results76, go_sem, q0, q1]) rfl ?_
  exact ⟨_, rfl, HI.out, hbF⟩
set_option maxHeartbeats 1000000 in
theorem rem2_any (x y : Nat) (vx vy : Value) (w : World) (hx : NumAt w vx x) (hy : NumAt w vy y) (hlx : (limbs x).length ≤ 100000000000) (hly : (limbs y).length ≤ 100000000000) (hy0 : 0 < y) :
    Calls Tryz.prog 78 #[vx, vy] w fun e w' => ∃ v', e = .returned v' ∧ IntAt w' v' (-((missN x y : Nat) : Int)) ∧ Below w.heap.size w w' := by
  have C : ∀ W : World, Below w.heap.size w W → Calls Tryz.prog 79 #[vx, vy] W (RetN (missN x y) W) := fun W hW => missing_any x y vx vy W (hx.mono hW) (hy.mono hW) hlx hly hy0
  have P : ∀ (W : World) (v : Value), NumAt W v (missN x y) → Calls Tryz.prog 62 #[v] W fun e w' => ∃ v', e = .returned v' ∧ IntAt w' v' (-((missN x y : Nat) : Int)) ∧ Below W.heap.size W w' := fun W v h => minus_any _ v W h
  generalize (-((missN x y : Nat) : Int)) = z at *
  generalize missN x y = s at *
  have HC := Lib.hid C; have HP := Lib.hid P
  obtain ⟨ao, c, rfl, -⟩ := hx
  obtain ⟨ap, d, rfl, -⟩ := hy
  clear C P hlx hly hy0
  generalize (limbs x).length = n at *
  generalize (limbs y).length = m at *
  have R0 := rbox_new w (Value.slice ao n c) (Value.slice ap m d) 71 71
  go_enter Tryz.func78, Tryz.ntmps78
  go_wp2_with (go_at_call 79; refine (HC.out _ R0.below).mono ?_; rintro e w1 ⟨v1, rfl, hv1, hb1⟩; refine Hid.out ?_)
  have R1 := R0.mono hb1
  refine Lib.hid ?_
  go_wp2_with (go_at_call 62; refine (HP.out _ _ hv1).mono ?_; rintro e w2 ⟨v2, rfl, hv2, hb2⟩; refine Hid.out ?_)
  have R2 := R1.mono hb2
  obtain ⟨a2, c2, rfl, hr2⟩ := hv2.open
  clear R0 R1 hb1 hb2 hv1 hv2
  have k1 := R2.r0; have k2 := R2.r1; have k3 := R2.f0; have k4 := R2.f1
  obtain ⟨hI, hS⟩ := IntAt.stored (w := w) (by omega : w.heap.size ≤ w.heap.size + 1 + 1) R2 hr2
  have q0 := hS.q0; have q1 := hS.q1; have hbF := hS.below
  have HI := Lib.hid hI
  clear hI hS hr2
  refine Lib.hid ?_
  go_wp2
  refine bodyPost_ret (v := .agg #[.bool (sgn z), .slice a2 (lenZ z) c2]) (by simp [results, Tryz.results78, go_sem, q0, q1]) rfl ?_
  exact ⟨_, rfl, HI.out, hbF⟩
set_option maxHeartbeats 1000000 in
theorem rem3_any (x y : Nat) (vx vy : Value) (w : World) (hx : NumAt w vx x) (hy : NumAt w vy y) (hlx : (limbs x).length ≤ 100000000000) (hly : (limbs y).length ≤ 100000000000) (hy0 : 0 < y) :
    Calls Tryz.prog 80 #[vx, vy] w fun e w' => ∃ v', e = .returned v' ∧ IntAt w' v' (((missN x y : Nat) : Int)) ∧ Below w.heap.size w w' := by
  have C : ∀ W : World, Below w.heap.size w W → Calls Tryz.prog 79 #[vx, vy] W (RetN (missN x y) W) := fun W hW => missing_any x y vx vy W (hx.mono hW) (hy.mono hW) hlx hly hy0
  have P : ∀ (W : World) (v : Value), NumAt W v (missN x y) → Calls Tryz.prog 59 #[v] W fun e w' => ∃ v', e = .returned v' ∧ IntAt w' v' (((missN x y : Nat) : Int)) ∧ Below W.heap.size W w' := fun W v h => plus_any _ v W h
  generalize (((missN x y : Nat) : Int)) = z at *
  generalize missN x y = s at *
  have HC := Lib.hid C; have HP := Lib.hid P
  obtain ⟨ao, c, rfl, -⟩ := hx
  obtain ⟨ap, d, rfl, -⟩ := hy
  clear C P hlx hly hy0
  generalize (limbs x).length = n at *
  generalize (limbs y).length = m at *
  have R0 := rbox_new w (Value.slice ao n c) (Value.slice ap m d) 71 71
  go_enter Tryz.func80, Tryz.ntmps80
  go_wp2_with (go_at_call 79; refine (HC.out _ R0.below).mono ?_; rintro e w1 ⟨v1, rfl, hv1, hb1⟩; refine Hid.out ?_)
  have R1 := R0.mono hb1
  refine Lib.hid ?_
  go_wp2_with (go_at_call 59; refine (HP.out _ _ hv1).mono ?_; rintro e w2 ⟨v2, rfl, hv2, hb2⟩; refine Hid.out ?_)
  have R2 := R1.mono hb2
  obtain ⟨a2, c2, rfl, hr2⟩ := hv2.open
  clear R0 R1 hb1 hb2 hv1 hv2
  have k1 := R2.r0; have k2 := R2.r1; have k3 := R2.f0; have k4 := R2.f1
  obtain ⟨hI, hS⟩ := IntAt.stored (w := w) (by omega : w.heap.size ≤ w.heap.size + 1 + 1) R2 hr2
  have q0 := hS.q0; have q1 := hS.q1; have hbF := hS.below
  have HI := Lib.hid hI
  clear hI hS hr2
  refine Lib.hid ?_
  go_wp2
  refine bodyPost_ret (v := .agg #[.bool (sgn z), .slice a2 (lenZ z) c2]) (by simp [results, Tryz.results80, go_sem, q0, q1]) rfl ?_
  exact ⟨_, rfl, HI.out, hbF⟩
set_option maxHeartbeats 1000000 in
theorem rem4_any (x y : Nat) (vx vy : Value) (w : World) (hx : NumAt w vx x) (hy : NumAt w vy y) (hlx : (limbs x).length ≤ 100000000000) (hly : (limbs y).length ≤ 100000000000) (hy0 : 0 < y) :
    Calls Tryz.prog 81 #[vx, vy] w fun e w' => ∃ v', e = .returned v' ∧ IntAt w' v' (-((x % y : Nat) : Int)) ∧ Below w.heap.size w w' := by
  have C : ∀ W : World, Below w.heap.size w W → Calls Tryz.prog 77 #[vx, vy] W (RetN (x % y) W) := fun W hW => over_any x y vx vy W (hx.mono hW) (hy.mono hW) hlx
  have P : ∀ (W : World) (v : Value), NumAt W v (x % y) → Calls Tryz.prog 62 #[v] W fun e w' => ∃ v', e = .returned v' ∧ IntAt w' v' (-((x % y : Nat) : Int)) ∧ Below W.heap.size W w' := fun W v h => minus_any _ v W h
  generalize (-((x % y : Nat) : Int)) = z at *
  generalize x % y = s at *
  have HC := Lib.hid C; have HP := Lib.hid P
  obtain ⟨ao, c, rfl, -⟩ := hx
  obtain ⟨ap, d, rfl, -⟩ := hy
  clear C P hlx hly hy0
  generalize (limbs x).length = n at *
  generalize (limbs y).length = m at *
  have R0 := rbox_new w (Value.slice ao n c) (Value.slice ap m d) 71 71
  go_enter Tryz.func81, Tryz.ntmps81
  go_wp2_with (go_at_call 77; refine (HC.out _ R0.below).mono ?_; rintro e w1 ⟨v1, rfl, hv1, hb1⟩; refine Hid.out ?_)
  have R1 := R0.mono hb1
  refine Lib.hid ?_
  go_wp2_with (go_at_call 62; refine (HP.out _ _ hv1).mono ?_; rintro e w2 ⟨v2, rfl, hv2, hb2⟩; refine Hid.out ?_)
  have R2 := R1.mono hb2
  obtain ⟨a2, c2, rfl, hr2⟩ := hv2.open
  clear R0 R1 hb1 hb2 hv1 hv2
  have k1 := R2.r0; have k2 := R2.r1; have k3 := R2.f0; have k4 := R2.f1
  obtain ⟨hI, hS⟩ := IntAt.stored (w := w) (by omega : w.heap.size ≤ w.heap.size + 1 + 1) R2 hr2
  have q0 := hS.q0; have q1 := hS.q1; have hbF := hS.below
  have HI := Lib.hid hI
  clear hI hS hr2
  refine Lib.hid ?_
  go_wp2
  refine bodyPost_ret (v := .agg #[.bool (sgn z), .slice a2 (lenZ z) c2]) (by simp [results, Tryz.results81, go_sem, q0, q1]) rfl ?_
  exact ⟨_, rfl, HI.out, hbF⟩
theorem up_limbs (x y : Nat) (hx : (limbs x).length ≤ 1000000) (hy : (limbs y).length ≤ 1000000) (hy0 : 0 < y) : (limbs (x + (if y < 1 then 1 - y else y - 1))).length ≤ 100000000000 ∧ (limbs (if y < 1 then 1 - y else y - 1)).length ≤ 100000000000 := by
  rw [if_neg (by omega)]
  obtain ⟨k, hk⟩ : ∃ k : Nat, k = 1000000 := ⟨_, rfl⟩
  have h1 := Nat.lt_of_lt_of_le (lt_pow_limbs x) (Nat.pow_le_pow_right (by decide) (by omega : (limbs x).length ≤ k))
  have h2 := Nat.lt_of_lt_of_le (lt_pow_limbs y) (Nat.pow_le_pow_right (by decide) (by omega : (limbs y).length ≤ k))
  have e1 : x + (y - 1) < 1000000000 ^ (k + 1) := by
    rw [Nat.pow_succ]
    generalize (1000000000 : Nat) ^ k = r at *
    omega
  have e2 : y - 1 < 1000000000 ^ (k + 1) := by omega
  exact ⟨Nat.le_trans (limbs_length_le e1) (by omega), Nat.le_trans (limbs_length_le e2) (by omega)⟩
theorem quotientTab (x y : Int) (va vb : Value) (w : World) (ha : IntAt w va x) (hb : IntAt w vb y) (hlx : (limbs x.natAbs).length ≤ 1000000) (hly : (limbs y.natAbs).length ≤ 1000000) (hy0 : y ≠ 0) :
    Calls Tryz.prog 65 #[tabV 71 73 73 71, va, vb] w fun e w' => ∃ v', e = .returned v' ∧ IntAt w' v' (x.fdiv y) ∧ Below w.heap.size w w' := by
  have e1 : ∀ args w, (callFunc 71 args).run Tryz.prog w = .ok (.enter 71 args) w := enters_of Tryz.func71 (by kernel_rfl) rfl
  have e2 : ∀ args w, (callFunc 73 args).run Tryz.prog w = .ok (.enter 73 args) w := enters_of Tryz.func73 (by kernel_rfl) rfl
  obtain ⟨u1, u2⟩ := up_limbs x.natAbs y.natAbs hlx hly (by omega)
  by_cases hx : x < 0 <;> by_cases hy : y < 0
  · refine apply11 _ _ _ _ x y (x.fdiv y) va vb w ha hb hx hy e1 fun W v1 v2 h1 h2 => ?_
    rw [fdiv_same x y hy0 (propext ⟨fun _ => hy, fun _ => hx⟩)]
    exact quoSame_any x.natAbs y.natAbs v1 v2 W h1 h2 (by omega)
  · refine apply10 _ _ _ _ x y (x.fdiv y) va vb w ha hb hx hy e2 fun W v1 v2 h1 h2 => ?_
    rw [fdiv_opp x y hy0 (fun e => hy (e ▸ hx))]
    exact quoOpp_any x.natAbs y.natAbs v1 v2 W h1 h2 (by omega) (by omega) u1 u2
  · refine apply01 _ _ _ _ x y (x.fdiv y) va vb w ha hb hx hy e2 fun W v1 v2 h1 h2 => ?_
    rw [fdiv_opp x y hy0 (fun e => hx (e ▸ hy))]
    exact quoOpp_any x.natAbs y.natAbs v1 v2 W h1 h2 (by omega) (by omega) u1 u2
  · refine apply00 _ _ _ _ x y (x.fdiv y) va vb w ha hb hx hy e1 fun W v1 v2 h1 h2 => ?_
    rw [fdiv_same x y hy0 (propext ⟨fun h => absurd h hx, fun h => absurd h hy⟩)]
    exact quoSame_any x.natAbs y.natAbs v1 v2 W h1 h2 (by omega)
theorem remainderTab (x y : Int) (va vb : Value) (w : World) (ha : IntAt w va x) (hb : IntAt w vb y) (hlx : (limbs x.natAbs).length ≤ 1000000) (hly : (limbs y.natAbs).length ≤ 1000000) (hy0 : y ≠ 0) :
    Calls Tryz.prog 65 #[tabV 76 78 80 81, va, vb] w fun e w' => ∃ v', e = .returned v' ∧ IntAt w' v' (x.fmod y) ∧ Below w.heap.size w w' := by
  have e1 : ∀ args w, (callFunc 76 args).run Tryz.prog w = .ok (.enter 76 args) w := enters_of Tryz.func76 (by kernel_rfl) rfl
  have e2 : ∀ args w, (callFunc 78 args).run Tryz.prog w = .ok (.enter 78 args) w := enters_of Tryz.func78 (by kernel_rfl) rfl
  have e3 : ∀ args w, (callFunc 80 args).run Tryz.prog w = .ok (.enter 80 args) w := enters_of Tryz.func80 (by kernel_rfl) rfl
  have e4 : ∀ args w, (callFunc 81 args).run Tryz.prog w = .ok (.enter 81 args) w := enters_of Tryz.func81 (by kernel_rfl) rfl
  by_cases hx : x < 0 <;> by_cases hy : y < 0
  · refine apply11 _ _ _ _ x y (x.fmod y) va vb w ha hb hx hy e4 fun W v1 v2 h1 h2 => ?_
    rw [fmod_nn x y hx hy]
    exact rem4_any x.natAbs y.natAbs v1 v2 W h1 h2 (by omega) (by omega) (by omega)
  · refine apply10 _ _ _ _ x y (x.fmod y) va vb w ha hb hx hy e3 fun W v1 v2 h1 h2 => ?_
    rw [fmod_np x y hy0 hx hy]
    exact rem3_any x.natAbs y.natAbs v1 v2 W h1 h2 (by omega) (by omega) (by omega)
  · refine apply01 _ _ _ _ x y (x.fmod y) va vb w ha hb hx hy e2 fun W v1 v2 h1 h2 => ?_
    rw [fmod_pn x y hy0 hx hy]
    exact rem2_any x.natAbs y.natAbs v1 v2 W h1 h2 (by omega) (by omega) (by omega)
  · refine apply00 _ _ _ _ x y (x.fmod y) va vb w ha hb hx hy e1 fun W v1 v2 h1 h2 => ?_
    rw [fmod_pp x y hx hy]
    exact rem1_any x.natAbs y.natAbs v1 v2 W h1 h2 (by omega) (by omega) (by omega)
set_option maxHeartbeats 2000000 in
theorem quotientZ (x y : Int) (va vb : Value) (w : World) (ha : IntAt w va x) (hb : IntAt w vb y) (hlx : (limbs x.natAbs).length ≤ 1000000) (hly : (limbs y.natAbs).length ≤ 1000000) (hy0 : y ≠ 0) :
    Calls Tryz.prog 44 #[va, vb] w fun e w' => ∃ v', e = .returned v' ∧ IntAt w' v' (x.fdiv y) ∧ Below w.heap.size w w' := by
  have C : ∀ W : World, Below w.heap.size w W → Calls Tryz.prog 65 #[tabV 71 73 73 71, va, vb] W fun e w' => ∃ v', e = .returned v' ∧ IntAt w' v' (x.fdiv y) ∧ Below W.heap.size W w' := fun W hW => quotientTab x y va vb W (ha.mono hW) (hb.mono hW) hlx hly hy0
  have HC := Lib.hid C
  obtain ⟨ao, c, rfl, -⟩ := ha
  obtain ⟨ap, d, rfl, -⟩ := hb
  clear C hlx hly hy0
  generalize (limbs x.natAbs).length = n at *
  generalize (limbs y.natAbs).length = m at *
  generalize decide (x < 0) = ba at *
  generalize decide (y < 0) = bb at *
  generalize x.fdiv y = z at *
  have R0 := rbox3_new w ba bb ao ap n c m d
  go_enter Tryz.func44, Tryz.ntmps44
  go_wp2_with (go_at_call 65; refine (HC.out _ R0.below).mono ?_; rintro e w2 ⟨v2, rfl, hv2, hb2⟩; refine Hid.out ?_)
  have R2 := R0.mono hb2
  obtain ⟨a2, c2, rfl, hr2⟩ := hv2.open
  clear R0 hb2 hv2
  have k1 := R2.r0; have k2 := R2.r1; have k3 := R2.f0; have k4 := R2.f1
  obtain ⟨hI, hS⟩ := IntAt.stored (w := w) (by omega : w.heap.size ≤ w.heap.size + 1 + 1) R2 hr2
  have q0 := hS.q0; have q1 := hS.q1; have hbF := hS.below
  have HI := Lib.hid hI
  clear hI hS hr2
  refine Lib.hid ?_
  go_wp2
  refine bodyPost_ret (v := .agg #[.bool (sgn z), .slice a2 (lenZ z) c2]) (by simp [results, Tryz.results44, go_sem, q0, q1]) rfl ?_
  exact ⟨_, rfl, HI.out, hbF⟩
set_option maxHeartbeats 2000000 in
theorem remainderZ (x y : Int) (va vb : Value) (w : World) (ha : IntAt w va x) (hb : IntAt w vb y) (hlx : (limbs x.natAbs).length ≤ 1000000) (hly : (limbs y.natAbs).length ≤ 1000000) (hy0 : y ≠ 0) :
    Calls Tryz.prog 46 #[va, vb] w fun e w' => ∃ v', e = .returned v' ∧ IntAt w' v' (x.fmod y) ∧ Below w.heap.size w w' := by
  have C : ∀ W : World, Below w.heap.size w W → Calls Tryz.prog 65 #[tabV 76 78 80 81, va, vb] W fun e w' => ∃ v', e = .returned v' ∧ IntAt w' v' (x.fmod y) ∧ Below W.heap.size W w' := fun W hW => remainderTab x y va vb W (ha.mono hW) (hb.mono hW) hlx hly hy0
  have HC := Lib.hid C
  obtain ⟨ao, c, rfl, -⟩ := ha
  obtain ⟨ap, d, rfl, -⟩ := hb
  clear C hlx hly hy0
  generalize (limbs x.natAbs).length = n at *
  generalize (limbs y.natAbs).length = m at *
  generalize decide (x < 0) = ba at *
  generalize decide (y < 0) = bb at *
  generalize x.fmod y = z at *
  have R0 := rbox3_new w ba bb ao ap n c m d
  go_enter Tryz.func46, Tryz.ntmps46
  go_wp2_with (go_at_call 65; refine (HC.out _ R0.below).mono ?_; rintro e w2 ⟨v2, rfl, hv2, hb2⟩; refine Hid.out ?_)
  have R2 := R0.mono hb2
  obtain ⟨a2, c2, rfl, hr2⟩ := hv2.open
  clear R0 hb2 hv2
  have k1 := R2.r0; have k2 := R2.r1; have k3 := R2.f0; have k4 := R2.f1
  obtain ⟨hI, hS⟩ := IntAt.stored (w := w) (by omega : w.heap.size ≤ w.heap.size + 1 + 1) R2 hr2
  have q0 := hS.q0; have q1 := hS.q1; have hbF := hS.below
  have HI := Lib.hid hI
  clear hI hS hr2
  refine Lib.hid ?_
  go_wp2
  refine bodyPost_ret (v := .agg #[.bool (sgn z), .slice a2 (lenZ z) c2]) (by simp [results, Tryz.results46, go_sem, q0, q1]) rfl ?_
  exact ⟨_, rfl, HI.out, hbF⟩
def errV (e : Nat) : Value := .tuple #[.string ⟨#[]⟩, .int .i64 (e : Nat)]
set_option maxHeartbeats 1000000 in
theorem compute_err (fs fl : Nat) (s t : ByteArray) (w : World) (hs : s.size ≤ 9223372036854775807) (ht : t.size ≤ 9223372036854775807) (h : errBoth (bytes s) (bytes t) ≠ 0) :
    Calls Tryz.prog 35 #[opV fs fl, .string s, .string t] w fun e w' => e = .returned (errV (errBoth (bytes s) (bytes t))) ∧ Below w.heap.size w w' := by
  have CB := fun W => checkBoth_any s t W hs ht
  rcases errBoth_cases (bytes s) (bytes t) with h0 | h0 | h0
  · exact absurd h0 h
  all_goals
    rw [h0] at CB ⊢
    have HCB := Lib.hid CB
    clear CB h h0 hs ht
    unfold opV errV
    go_enter Tryz.func35, Tryz.ntmps35
    go_wp2_with (go_at_call 51; refine (HCB.out _).mono ?_; rintro e w1 ⟨rfl, rfl⟩; refine Hid.out ?_)
    refine Lib.hid ?_
    go_wp2
    refine bodyPost_ret (by simp [results, Tryz.results35, go_sem]; rfl) rfl ?_
    exact ⟨rfl, by go_grown⟩
set_option maxHeartbeats 1000000 in
theorem divide_other (fs fl : Nat) (s t a : ByteArray) (e0 : Nat) (w : World) (hs : s.size ≤ 9223372036854775807) (hne : t ≠ ⟨#[48]⟩)
    (HC : ∀ W : World, Below w.heap.size w W → Calls Tryz.prog 35 #[opV fs fl, .string s, .string t] W fun e w' => e = .returned (.tuple #[.string a, .int .i64 e0]) ∧ Below W.heap.size W w') :
    Calls Tryz.prog 42 #[opV fs fl, .string s, .string t] w fun e w' => e = .returned (.tuple #[.string a, .int .i64 e0]) ∧ Below w.heap.size w w' := by
  have hd : (t.toList == [48]) = false := by
    rw [beq_eq_false_iff_ne]
    intro h
    have h2 : bytes t = [48] := h ▸ (ByteArray.toList_eq t).symm
    exact hne (ByteArray.ext (Array.ext' h2))
  have KC := Lib.hid HC; clear HC hne
  unfold opV at *
  go_enter Tryz.func42, Tryz.ntmps42
  go_wp2_with (go_at_call 35; refine (KC.out _ (by go_grown)).mono ?_; rintro e w1 ⟨rfl, hb1⟩; refine Hid.out ?_)
  have hbF : Below w.heap.size w w1 := by refine Below.chain ?_ hb1; go_grown
  clear hb1
  refine Lib.hid ?_
  go_wp2
  refine bodyPost_ret (by simp [results, Tryz.results42, go_sem]; rfl) rfl ?_
  exact ⟨rfl, hbF⟩
set_option maxHeartbeats 1000000 in
theorem divide_zero (fs fl : Nat) (s : ByteArray) (w : World) (hs : s.size ≤ 9223372036854775807) (he : errOf (bytes s) = 0) :
    Calls Tryz.prog 42 #[opV fs fl, .string s, .string ⟨#[48]⟩] w fun e w' => e = .returned (errV 19) ∧ Below w.heap.size w w' := by
  have CC := fun W => check_any s W hs
  rw [he] at CC
  have KC := Lib.hid CC; clear CC he hs
  unfold opV errV at *
  go_enter Tryz.func42, Tryz.ntmps42
  go_wp2_with (go_at_call 70; refine (KC.out _).mono ?_; rintro e w1 ⟨rfl, rfl⟩; refine Hid.out ?_)
  refine Lib.hid ?_
  go_wp2
  refine bodyPost_ret (by simp [results, Tryz.results42, go_sem]; rfl) rfl ?_
  exact ⟨rfl, by go_grown⟩
set_option maxHeartbeats 1000000 in
theorem divide_zeroBad (fs fl : Nat) (s : ByteArray) (w : World) (hs : s.size ≤ 9223372036854775807) (he : errOf (bytes s) ≠ 0) :
    Calls Tryz.prog 42 #[opV fs fl, .string s, .string ⟨#[48]⟩] w fun e w' => e = .returned (errV (errOf (bytes s))) ∧ Below w.heap.size w w' := by
  have CC := fun W => check_any s W hs
  have HC : ∀ W : World, Calls Tryz.prog 35 #[opV fs fl, .string s, .string ⟨#[48]⟩] W fun e w' => e = .returned (errV (errOf (bytes s))) ∧ Below W.heap.size W w' := fun W => by
    have hb : errBoth (bytes s) (bytes ⟨#[48]⟩) = errOf (bytes s) := by unfold errBoth; rw [if_neg he]
    have := compute_err fs fl s ⟨#[48]⟩ W hs (by decide) (by rw [hb]; exact he)
    rwa [hb] at this
  rcases errOf_cases (bytes s) with h0 | h0 | h0
  · exact absurd h0 he
  all_goals
    rw [h0] at CC HC ⊢
    have KK := Lib.hid CC; have KC := Lib.hid HC
    clear CC HC he h0 hs
    unfold opV errV at *
    go_enter Tryz.func42, Tryz.ntmps42
    go_wp2_with (go_at_call 70; refine (KK.out _).mono ?_; rintro e w1 ⟨rfl, rfl⟩; refine Hid.out ?_)
    refine Lib.hid ?_
    go_wp2_with (go_at_call 35; refine (KC.out _).mono ?_; rintro e w1 ⟨rfl, hb1⟩; refine Hid.out ?_)
    have hbF : Below w.heap.size w w1 := by refine Below.chain ?_ hb1; go_grown
    clear hb1
    refine Lib.hid ?_
    go_wp2
    refine bodyPost_ret (by simp [results, Tryz.results42, go_sem]; rfl) rfl ?_
    exact ⟨rfl, hbF⟩
theorem fdiv_le (x y : Int) (hy : y ≠ 0) : (x.fdiv y).natAbs ≤ x.natAbs := by
  have hp : 0 < y.natAbs := by omega
  by_cases h : (x < 0) = (y < 0)
  · rw [fdiv_same x y hy h, Int.natAbs_natCast]
    exact Nat.div_le_self x.natAbs y.natAbs
  · rw [fdiv_opp x y hy h, Int.natAbs_neg, Int.natAbs_natCast]
    generalize x.natAbs = a at *
    generalize y.natAbs = b at *
    have : (a + b - 1) / b ≤ a := by
      clear h
      refine Nat.le_of_lt_succ ((Nat.div_lt_iff_lt_mul hp).2 ?_)
      rw [Nat.succ_mul]
      have := Nat.le_mul_of_pos_right a hp
      generalize a * b = q at *
      omega
    exact this
theorem missN_lt (x y : Nat) (hy : 0 < y) : missN x y < y := by
  unfold missN
  have := Nat.mod_lt x hy
  split <;> omega
theorem fmod_lt (x y : Int) (hy : y ≠ 0) : (x.fmod y).natAbs < y.natAbs := by
  have hp : 0 < y.natAbs := by omega
  have h1 := Nat.mod_lt x.natAbs hp
  have h2 := missN_lt x.natAbs y.natAbs hp
  by_cases hx : x < 0 <;> by_cases h : y < 0
  · rw [fmod_nn x y hx h]; omega
  · rw [fmod_np x y hy hx h]; omega
  · rw [fmod_pn x y hy hx h]; omega
  · rw [fmod_pp x y hx h]; omega
theorem compQuo (s t : ByteArray) (x y : Int) (w : World) (hs : Str s x) (ht : Str t y) (hy0 : y ≠ 0) (htab : Lib.TabIs Tryz.prog w "internal/strconv.uint64pow10" .u64 Lib.pow10Tab) :
    Calls Tryz.prog 35 #[opV 43 44, .string s, .string t] w fun e w' => e = .returned (resV (x.fdiv y)) ∧ Below w.heap.size w w' := by
  have hle := fdiv_le x y hy0
  by_cases h : x.natAbs < 1000000000 ∧ y.natAbs < 1000000000
  · have := compQuo_short s t x y (x.fdiv y) w hs ht h.1 h.2 (by omega) (by omega) (fun W => quoS x y W h.1 h.2 hy0) htab
    rwa [← resV_small (r := x.fdiv y) (by omega)] at this
  · exact compQuo_long s t x y (x.fdiv y) w hs ht h (Nat.le_trans (limbs_length_mono hle) (by have := hs.limbs; omega)) (fun W v1 v2 h1 h2 => quotientZ x y v1 v2 W h1 h2 (by have := hs.limbs; omega) (by have := ht.limbs; omega) hy0) htab
theorem compRem (s t : ByteArray) (x y : Int) (w : World) (hs : Str s x) (ht : Str t y) (hy0 : y ≠ 0) (htab : Lib.TabIs Tryz.prog w "internal/strconv.uint64pow10" .u64 Lib.pow10Tab) :
    Calls Tryz.prog 35 #[opV 45 46, .string s, .string t] w fun e w' => e = .returned (resV (x.fmod y)) ∧ Below w.heap.size w w' := by
  have hle := fmod_lt x y hy0
  by_cases h : x.natAbs < 1000000000 ∧ y.natAbs < 1000000000
  · have := compRem_short s t x y (x.fmod y) w hs ht h.1 h.2 (by omega) (by omega) (fun W => remS x y W h.1 h.2 hy0) htab
    rwa [← resV_small (r := x.fmod y) (by omega)] at this
  · exact compRem_long s t x y (x.fmod y) w hs ht h (Nat.le_trans (limbs_length_mono (Nat.le_of_lt hle)) (by have := ht.limbs; omega)) (fun W v1 v2 h1 h2 => remainderZ x y v1 v2 W h1 h2 (by have := hs.limbs; omega) (by have := ht.limbs; omega) hy0) htab
theorem Str.ne_zero {t : ByteArray} {y : Int} (h : Str t y) (hy : y ≠ 0) : t ≠ ⟨#[48]⟩ := by
  intro e
  subst e
  have h1 := h.text
  have h2 : bytes ⟨#[48]⟩ = Lib.itoa 0 := by rw [itoa_nonneg (by omega)]; exact dec0'.symm
  rw [h2] at h1
  exact hy (itoa_inj h1).symm
set_option maxHeartbeats 1000000 in
theorem quo_of (s t a : ByteArray) (e0 : Nat) (w : World)
    (C : Calls Tryz.prog 42 #[opV 43 44, .string s, .string t] w fun e w' => e = .returned (.tuple #[.string a, .int .i64 e0]) ∧ Below w.heap.size w w') :
    Calls Tryz.prog 25 #[.string s, .string t] w fun e w' => e = .returned (.tuple #[.string a, .int .i64 e0]) ∧ Below w.heap.size w w' := by
  unfold opV at C
  have HC := Lib.hid C; clear C
  go_enter Tryz.func25, Tryz.ntmps25
  go_wp2_with (go_at_call 42; refine HC.out.mono ?_; rintro e w2 ⟨rfl, hb2⟩; refine Hid.out ?_)
  refine Lib.hid ?_
  go_wp2
  refine bodyPost_ret (by simp [results, Tryz.results25, go_sem]; rfl) rfl ?_
  exact ⟨rfl, hb2⟩
theorem quoZ (s t : ByteArray) (x y : Int) (w : World) (hs : Str s x) (ht : Str t y) (hy0 : y ≠ 0) (htab : Lib.TabIs Tryz.prog w "internal/strconv.uint64pow10" .u64 Lib.pow10Tab) :
    Calls Tryz.prog 25 #[.string s, .string t] w fun e w' => e = .returned (resV (x.fdiv y)) ∧ Below w.heap.size w w' := by
  have C : ∀ W : World, Below w.heap.size w W → Calls Tryz.prog 35 #[opV 43 44, .string s, .string t] W fun e w' => e = .returned (resV (x.fdiv y)) ∧ Below W.heap.size W w' := fun W hW => compQuo s t x y W hs ht hy0 ((Lib.tabBelow_of_tabIs htab).on hW).here
  obtain ⟨a, e0, hr⟩ := resV_parts (x.fdiv y)
  rw [hr] at C ⊢
  have := hs.size
  exact quo_of s t a e0 w (divide_other _ _ s t a e0 w (by omega) (ht.ne_zero hy0) C)
theorem quo_zero (s : ByteArray) (w : World) (hs : s.size ≤ 9223372036854775807) (he : errOf (bytes s) = 0) :
    Calls Tryz.prog 25 #[.string s, .string ⟨#[48]⟩] w fun e w' => e = .returned (errV 19) ∧ Below w.heap.size w w' := quo_of s _ _ 19 w (divide_zero _ _ s w hs he)
theorem quo_err (s t : ByteArray) (w : World) (hs : s.size ≤ 9223372036854775807) (ht : t.size ≤ 9223372036854775807) (h : errBoth (bytes s) (bytes t) ≠ 0) :
    Calls Tryz.prog 25 #[.string s, .string t] w fun e w' => e = .returned (errV (errBoth (bytes s) (bytes t))) ∧ Below w.heap.size w w' := by
  by_cases hz : t = ⟨#[48]⟩
  · subst hz
    have h1 : errOf (bytes ⟨#[48]⟩) = 0 := by decide
    have hb : errBoth (bytes s) (bytes ⟨#[48]⟩) = errOf (bytes s) := by
      unfold errBoth
      split
      · next h0 => rw [h0, h1]
      · rfl
    rw [hb] at h ⊢
    exact quo_of s _ _ _ w (divide_zeroBad _ _ s w hs h)
  · exact quo_of s t _ _ w (divide_other _ _ s t _ _ w hs hz fun W hW => compute_err _ _ s t W hs ht h)
set_option maxHeartbeats 1000000 in
theorem rem_of (s t a : ByteArray) (e0 : Nat) (w : World)
    (C : Calls Tryz.prog 42 #[opV 45 46, .string s, .string t] w fun e w' => e = .returned (.tuple #[.string a, .int .i64 e0]) ∧ Below w.heap.size w w') :
    Calls Tryz.prog 26 #[.string s, .string t] w fun e w' => e = .returned (.tuple #[.string a, .int .i64 e0]) ∧ Below w.heap.size w w' := by
  unfold opV at C
  have HC := Lib.hid C; clear C
  go_enter Tryz.func26, Tryz.ntmps26
  go_wp2_with (go_at_call 42; refine HC.out.mono ?_; rintro e w2 ⟨rfl, hb2⟩; refine Hid.out ?_)
  refine Lib.hid ?_
  go_wp2
  refine bodyPost_ret (by simp [results, Tryz.results26, go_sem]; rfl) rfl ?_
  exact ⟨rfl, hb2⟩
theorem remZ (s t : ByteArray) (x y : Int) (w : World) (hs : Str s x) (ht : Str t y) (hy0 : y ≠ 0) (htab : Lib.TabIs Tryz.prog w "internal/strconv.uint64pow10" .u64 Lib.pow10Tab) :
    Calls Tryz.prog 26 #[.string s, .string t] w fun e w' => e = .returned (resV (x.fmod y)) ∧ Below w.heap.size w w' := by
  have C : ∀ W : World, Below w.heap.size w W → Calls Tryz.prog 35 #[opV 45 46, .string s, .string t] W fun e w' => e = .returned (resV (x.fmod y)) ∧ Below W.heap.size W w' := fun W hW => compRem s t x y W hs ht hy0 ((Lib.tabBelow_of_tabIs htab).on hW).here
  obtain ⟨a, e0, hr⟩ := resV_parts (x.fmod y)
  rw [hr] at C ⊢
  have := hs.size
  exact rem_of s t a e0 w (divide_other _ _ s t a e0 w (by omega) (ht.ne_zero hy0) C)
theorem rem_zero (s : ByteArray) (w : World) (hs : s.size ≤ 9223372036854775807) (he : errOf (bytes s) = 0) :
    Calls Tryz.prog 26 #[.string s, .string ⟨#[48]⟩] w fun e w' => e = .returned (errV 19) ∧ Below w.heap.size w w' := rem_of s _ _ 19 w (divide_zero _ _ s w hs he)
theorem rem_err (s t : ByteArray) (w : World) (hs : s.size ≤ 9223372036854775807) (ht : t.size ≤ 9223372036854775807) (h : errBoth (bytes s) (bytes t) ≠ 0) :
    Calls Tryz.prog 26 #[.string s, .string t] w fun e w' => e = .returned (errV (errBoth (bytes s) (bytes t))) ∧ Below w.heap.size w w' := by
  by_cases hz : t = ⟨#[48]⟩
  · subst hz
    have h1 : errOf (bytes ⟨#[48]⟩) = 0 := by decide
    have hb : errBoth (bytes s) (bytes ⟨#[48]⟩) = errOf (bytes s) := by
      unfold errBoth
      split
      · next h0 => rw [h0, h1]
      · rfl
    rw [hb] at h ⊢
    exact rem_of s _ _ _ w (divide_zeroBad _ _ s w hs h)
  · exact rem_of s t _ _ w (divide_other _ _ s t _ _ w hs hz fun W hW => compute_err _ _ s t W hs ht h)
theorem eq48 (s : ByteArray) (h : s ≠ ⟨#[48]⟩) : (s.toList == [48]) = false := by
  rw [beq_eq_false_iff_ne]
  intro h1
  have h2 : bytes s = [48] := h1 ▸ (ByteArray.toList_eq s).symm
  exact h (ByteArray.ext (Array.ext' h2))
def negL (l : List UInt8) : List UInt8 := if l = [48] then l else if negB l = true then digL l else 45 :: l
theorem negL_itoa (x : Int) : negL (Lib.itoa x) = Lib.itoa (-x) := by
  unfold negL
  by_cases h0 : x = 0
  · subst h0
    rw [if_pos (by rw [itoa_nonneg (by omega)]; exact dec0')]; rfl
  · have hne : ¬ Lib.itoa x = [48] := by
      have h2 : Lib.itoa 0 = [48] := by rw [itoa_nonneg (by omega)]; exact dec0'
      rw [← h2]
      exact fun h => h0 (itoa_inj h)
    rw [if_neg hne, negB_itoa, digL_itoa]
    by_cases hx : x < 0
    · rw [decide_eq_true hx, if_pos rfl, itoa_nonneg (by omega), Int.natAbs_neg]
    · rw [decide_eq_false hx, if_neg (by simp), itoa_nonneg hx, itoa_neg (by omega), Int.natAbs_neg]
theorem cmpR_parts (a b : List UInt8) : ∃ (r : Int) (e : Nat), cmpR a b = .tuple #[.int .i64 r, .int .i64 e] ∧ r = (if errBoth a b = 0 then ordZ a b else 0) ∧ e = errBoth a b := ⟨_, _, rfl, rfl, rfl⟩
theorem sign_any (s : ByteArray) (w : World) (hs : s.size ≤ 9223372036854775807) :
    Calls Tryz.prog 28 #[.string s] w fun e w' => e = .returned (cmpR (bytes s) [48]) ∧ w' = w := by
  have C := fun W => compareZ_any s ⟨#[48]⟩ W hs (by decide)
  rw [show bytes ⟨#[48]⟩ = [48] from rfl] at C
  obtain ⟨r, e0, h, -, -⟩ := cmpR_parts (bytes s) [48]
  rw [h] at C ⊢
  have KC := Lib.hid C; clear C h hs
  go_enter Tryz.func28, Tryz.ntmps28
  go_wp2_with (go_at_call 48; refine (KC.out _).mono ?_; rintro e w1 ⟨rfl, rfl⟩; refine Hid.out ?_)
  refine Lib.hid ?_
  go_wp2
  refine bodyPost_ret (by simp [results, Tryz.results28, go_sem]; rfl) rfl ?_
  exact ⟨rfl, rfl⟩
theorem ordZ_str {s t : ByteArray} {x y : Int} (hs : Str s x) (ht : Str t y) : ordZ (bytes s) (bytes t) = cmpI x y := by
  rw [hs.text, ht.text]; exact ordZ_itoa x y
theorem compareS (s t : ByteArray) (x y : Int) (w : World) (hs : Str s x) (ht : Str t y) :
    Calls Tryz.prog 48 #[.string s, .string t] w fun e w' => e = .returned (.tuple #[.int .i64 (cmpI x y), .int .i64 0]) ∧ w' = w := by
  have h1 := hs.size; have h2 := ht.size
  have := compareZ_any s t w (by omega) (by omega)
  unfold cmpR at this
  have hb : errBoth (bytes s) (bytes t) = 0 := by unfold errBoth; rw [if_pos hs.err, ht.err]
  rwa [hb, if_pos rfl, ordZ_str hs ht] at this
theorem str_zero : Str ⟨#[48]⟩ 0 := ⟨by rw [itoa_nonneg (by omega)]; exact dec0'.symm, by rw [show ((0 : Int).natAbs) = 0 from rfl, dec0']; decide⟩
theorem signS (s : ByteArray) (x : Int) (w : World) (hs : Str s x) :
    Calls Tryz.prog 28 #[.string s] w fun e w' => e = .returned (.tuple #[.int .i64 (cmpI x 0), .int .i64 0]) ∧ w' = w := by
  have h1 := hs.size
  have := sign_any s w (by omega)
  unfold cmpR at this
  have hb : errBoth (bytes s) [48] = 0 := by unfold errBoth; rw [if_pos hs.err]; rfl
  rw [hb, if_pos rfl] at this
  have e : ordZ (bytes s) [48] = cmpI x 0 := ordZ_str hs str_zero
  rwa [e] at this
theorem of_any' (n : Int) (h0 : -9223372036854775808 ≤ n) (h1 : n ≤ 9223372036854775807) (w : World) (htab : Lib.TabIs Tryz.prog w "internal/strconv.uint64pow10" .u64 Lib.pow10Tab) :
    Calls Tryz.prog 10 #[.int .i64 n] w fun e w' => e = .returned (.string (str (Lib.itoa n))) ∧ Below w.heap.size w w' := by
  have C : Calls Tryz.prog 27 #[.int .i64 n] w fun e w' => e = .returned (.string (str (Lib.itoa n))) ∧ Below w.heap.size w w' :=
    (Tryz.strconv_Itoa n h0 h1 w htab).mono fun e w' ⟨h1, k, os, h2⟩ => ⟨h1, by rw [h2]; exact Lib.below_grow _ w (Nat.le_refl _) k os⟩
  have KC := Lib.hid C; clear C htab
  generalize str (Lib.itoa n) = r at *
  go_enter Tryz.func10, Tryz.ntmps10
  go_wp2_with (go_at_call 27; refine KC.out.mono ?_; rintro e w1 ⟨rfl, hb1⟩; refine Hid.out ?_)
  refine Lib.hid ?_
  go_wp2
  go_ret
  exact ⟨rfl, hb1⟩
def digFrom (s : ByteArray) (f : Nat) : Bool := ((bytes s).drop f).all isDig
theorem digFrom_true {s : ByteArray} {f : Nat} (h : ∀ j, f ≤ j → j < s.size → 48 ≤ byteAt s j ∧ byteAt s j ≤ 57) : digFrom s f = true := by
  unfold digFrom
  rw [List.all_eq_true]
  intro c hc
  obtain ⟨i, hi, rfl⟩ := List.mem_iff_getElem.1 hc
  rw [List.length_drop] at hi
  rw [List.getElem_drop]
  have hlt : f + i < s.size := by rw [bytes_length] at hi; omega
  have := h (f + i) (by omega) hlt
  exact (isDig_byte s (f + i) hlt).trans (by simp [this.1, this.2])
theorem digFrom_false {s : ByteArray} {f j : Nat} (h1 : f ≤ j) (h2 : j < s.size) (h : ¬ (48 ≤ byteAt s j ∧ byteAt s j ≤ 57)) : digFrom s f = false := by
  cases hd : digFrom s f
  · rfl
  · exfalso
    unfold digFrom at hd
    rw [List.all_eq_true] at hd
    have hlt : j - f < ((bytes s).drop f).length := by rw [List.length_drop, bytes_length]; omega
    have := hd _ (List.getElem_mem hlt)
    rw [List.getElem_drop] at this
    have e : f + (j - f) = j := by omega
    simp only [e] at this
    have e2 := (isDig_byte s j h2).symm.trans this
    simp at e2
    exact h e2
theorem canon_zero : canonB [48] = true := by decide
theorem canon_nil : canonB [] = false := by decide
theorem byte0 {s : ByteArray} {c : UInt8} {t : List UInt8} (h : bytes s = c :: t) : byteAt s 0 = c.toNat := by unfold byteAt; rw [h]; rfl
theorem byte1 {s : ByteArray} {c d : UInt8} {t : List UInt8} (h : bytes s = c :: d :: t) : byteAt s 1 = d.toNat := by unfold byteAt; rw [h]; rfl
theorem canon_plain {s : ByteArray} (h0 : 0 < s.size) (hn : byteAt s 0 ≠ 45) (hne : s ≠ ⟨#[48]⟩) : canonB (bytes s) = (!decide (byteAt s 0 = 48) && digFrom s 0) := by
  have hl : (bytes s).length = s.size := rfl
  match hb : bytes s, hl with
  | [], hl => simp at hl; omega
  | c :: t, hl =>
    have e0 := byte0 hb
    have hneg : negB (c :: t) = false := by
      cases h : negB (c :: t)
      · rfl
      · exfalso
        unfold negB Lib.hasPrefix at h
        have : c = 45 := by simpa using (by simpa [List.isPrefixOf] using h : 45 = c).symm
        subst this
        exact hn e0
    have hd : digL (c :: t) = c :: t := by
      rcases neg_cases (c :: t) with ⟨h, -⟩ | ⟨-, h⟩
      · rw [hneg] at h; cases h
      · exact h
    unfold canonB digFrom
    rw [hd, hb, List.drop_zero, e0]
    by_cases h48 : c = 48
    · subst h48
      have h1 : 1 < (48 :: t).length := by
        rcases Nat.lt_or_ge 1 ((48 : UInt8) :: t).length with h | h
        · exact h
        · exfalso
          have ht : t = [] := by simpa using h
          subst ht
          exact hne (ByteArray.ext (Array.ext' hb))
      rw [decide_eq_true h1]
      simp
    · have : ¬ c.toNat = 48 := fun h => h48 (UInt8.toNat_inj.1 (by rw [h]; rfl))
      simp [h48, this]
theorem canon_minus {s : ByteArray} (h1 : 1 < s.size) (hn : byteAt s 0 = 45) : canonB (bytes s) = (!decide (byteAt s 1 = 48) && digFrom s 1) := by
  have hl : (bytes s).length = s.size := rfl
  match hb : bytes s, hl with
  | [], hl => simp at hl; omega
  | [c], hl => simp at hl; omega
  | c :: d :: t, hl =>
    have e0 := byte0 hb
    have e1 := byte1 hb
    have : c = 45 := UInt8.toNat_inj.1 (by rw [← e0, hn]; rfl)
    subst this
    unfold canonB digFrom
    rw [dig_cons, hb, e1]
    by_cases h48 : d = 48
    · subst h48; simp
    · have : ¬ d.toNat = 48 := fun h => h48 (UInt8.toNat_inj.1 (by rw [h]; rfl))
      simp [h48, this]
theorem canon_dash {s : ByteArray} (h1 : s.size = 1) (hn : byteAt s 0 = 45) : canonB (bytes s) = false := by
  have hl : (bytes s).length = s.size := rfl
  match hb : bytes s, hl with
  | [], hl => simp at hl; omega
  | [c], hl =>
    have e0 := byte0 hb
    have : c = 45 := UInt8.toNat_inj.1 (by rw [← e0, hn]; rfl)
    subst this; decide
  | c :: d :: t, hl => simp at hl; omega
set_option maxHeartbeats 4000000 in
theorem form_any (s : ByteArray) (w : World) (hs : s.size ≤ 9223372036854775807) :
    Calls Tryz.prog 29 #[.string s] w fun e w' => e = .returned (.bool (canonB (bytes s))) ∧ w' = w := by
  by_cases hz : s = ⟨#[48]⟩
  · subst hz
    rw [show bytes ⟨#[48]⟩ = [48] from rfl, canon_zero]
    clear hs
    go_enter Tryz.func29, Tryz.ntmps29
    go_wp2
    go_ret
    exact ⟨rfl, rfl⟩
  · have hd := eq48 s hz
    by_cases h0 : s.size = 0
    · have hq : canonB (bytes s) = false := by rw [List.length_eq_zero_iff.1 (show (bytes s).length = 0 from h0)]; exact canon_nil
      rw [hq]
      clear hz hq
      go_enter Tryz.func29, Tryz.ntmps29
      go_wp2
      go_ret
      exact ⟨rfl, rfl⟩
    · have hpos : 0 < s.size := by omega
      have g0 := byteAt_get s 0 hpos
      by_cases hm : byteAt s 0 = 45
      · by_cases h1 : s.size = 1
        · rw [canon_dash h1 hm]
          rw [hm] at g0
          clear hz hm
          go_enter Tryz.func29, Tryz.ntmps29
          go_wp2
          go_ret
          exact ⟨rfl, rfl⟩
        · have h1' : 1 < s.size := by omega
          have g1 := byteAt_get s 1 h1'
          have hq := canon_minus h1' hm
          rw [hm] at g0
          generalize hb1 : byteAt s 1 = b1 at *
          by_cases h48 : b1 = 48
          · subst h48
            rw [hq]
            clear hz hm hq hb1
            go_enter Tryz.func29, Tryz.ntmps29
            go_wp2
            go_ret
            exact ⟨rfl, rfl⟩
          · have hq2 : canonB (bytes s) = digFrom s 1 := by rw [hq]; simp [h48]
            rw [hq2]
            have t1 : ((1 : Int) == (s.size : Int)) = false := by rw [beq_eq_false_iff_ne]; omega
            have t2 : ((b1 : Int) == 48) = false := by rw [beq_eq_false_iff_ne]; omega
            clear hz hm hq hq2 hb1 h48
            go_enter Tryz.func29, Tryz.ntmps29
            go_wp2_with fail
            clear g0 g1 hd t1 t2
            go_loop [4] (fun iv => ∃ k : Nat, 1 ≤ k ∧ k ≤ s.size ∧ iv = .int .i64 k ∧ ∀ j, 1 ≤ j → j < k → 48 ≤ byteAt s j ∧ byteAt s j ≤ 57) (fun iv => s.size - (intOf iv).toNat)
            case atStart => exact ⟨1, Nat.le_refl _, by omega, rfl, fun j h1 h2 => by omega⟩
            case round =>
              obtain ⟨k, hk1, hk, rfl, hall⟩ := hrel
              have HALL := Lib.hid hall; clear hall
              by_cases hlt : k < s.size
              · have hgk := byteAt_get s k hlt
                by_cases hdk : 48 ≤ byteAt s k ∧ byteAt s k ≤ 57
                · have e1 : ∀ j, 1 ≤ j → j < k + 1 → 48 ≤ byteAt s j ∧ byteAt s j ≤ 57 := fun j h1 h2 => by
                    by_cases hj : j = k
                    · subst hj; exact hdk
                    · exact HALL.out j h1 (by omega)
                  have E1 := Lib.hid e1; clear e1
                  obtain ⟨hd1, hd2⟩ := hdk
                  generalize byteAt s k = b at *
                  go_wp2
                  go_round
                  case rel => exact ⟨k + 1, by omega, by omega, by go_num, E1.out⟩
                  case measure => simp [intOf]; omega
                · have e1 : digFrom s 1 = false := digFrom_false hk1 hlt hdk
                  have E1 := Lib.hid e1; clear e1
                  have hdd : byteAt s k < 48 ∨ (¬ byteAt s k < 48 ∧ 57 < byteAt s k) := by omega
                  clear hdk
                  generalize byteAt s k = b at *
                  rcases hdd with hdd | ⟨hdd, hde⟩
                  all_goals
                    go_wp2
                    go_ret
                    exact ⟨ret_bool E1.out.symm, rfl⟩
              · have hkn : k = s.size := by omega
                subst hkn
                have e1 : digFrom s 1 = true := digFrom_true HALL.out
                have E1 := Lib.hid e1; clear e1
                go_wp2
                go_ret
                exact ⟨ret_bool E1.out.symm, rfl⟩
      · have hq := canon_plain hpos hm hz
        generalize hb0 : byteAt s 0 = b0 at *
        have hm' : b0 ≠ 45 := hm
        by_cases h48 : b0 = 48
        · subst h48
          rw [hq]
          clear hz hm hq hb0
          go_enter Tryz.func29, Tryz.ntmps29
          go_wp2
          go_ret
          exact ⟨rfl, rfl⟩
        · have hq2 : canonB (bytes s) = digFrom s 0 := by rw [hq]; simp [h48]
          rw [hq2]
          have t1 : ((0 : Int) == (s.size : Int)) = false := by rw [beq_eq_false_iff_ne]; omega
          have t2 : ((b0 : Int) == 48) = false := by rw [beq_eq_false_iff_ne]; omega
          have t3 : ((b0 : Int) == 45) = false := by rw [beq_eq_false_iff_ne]; omega
          clear hz hm hm' hq hq2 hb0 h48
          go_enter Tryz.func29, Tryz.ntmps29
          go_wp2_with fail
          clear g0 hd t1 t2 t3
          go_loop [4] (fun iv => ∃ k : Nat, 0 ≤ k ∧ k ≤ s.size ∧ iv = .int .i64 k ∧ ∀ j, 0 ≤ j → j < k → 48 ≤ byteAt s j ∧ byteAt s j ≤ 57) (fun iv => s.size - (intOf iv).toNat)
          case atStart => exact ⟨0, Nat.le_refl _, by omega, rfl, fun j h1 h2 => by omega⟩
          case round =>
            obtain ⟨k, hk1, hk, rfl, hall⟩ := hrel
            have HALL := Lib.hid hall; clear hall
            by_cases hlt : k < s.size
            · have hgk := byteAt_get s k hlt
              by_cases hdk : 48 ≤ byteAt s k ∧ byteAt s k ≤ 57
              · have e1 : ∀ j, 0 ≤ j → j < k + 1 → 48 ≤ byteAt s j ∧ byteAt s j ≤ 57 := fun j h1 h2 => by
                  by_cases hj : j = k
                  · subst hj; exact hdk
                  · exact HALL.out j h1 (by omega)
                have E1 := Lib.hid e1; clear e1
                obtain ⟨hd1, hd2⟩ := hdk
                generalize byteAt s k = b at *
                go_wp2
                go_round
                case rel => exact ⟨k + 1, by omega, by omega, by go_num, E1.out⟩
                case measure => simp [intOf]; omega
              · have e1 : digFrom s 0 = false := digFrom_false hk1 hlt hdk
                have E1 := Lib.hid e1; clear e1
                have hdd : byteAt s k < 48 ∨ (¬ byteAt s k < 48 ∧ 57 < byteAt s k) := by omega
                clear hdk
                generalize byteAt s k = b at *
                rcases hdd with hdd | ⟨hdd, hde⟩
                all_goals
                  go_wp2
                  go_ret
                  exact ⟨ret_bool E1.out.symm, rfl⟩
            · have hkn : k = s.size := by omega
              subst hkn
              have e1 : digFrom s 0 = true := digFrom_true HALL.out
              have E1 := Lib.hid e1; clear e1
              go_wp2
              go_ret
              exact ⟨ret_bool E1.out.symm, rfl⟩
theorem resV_fits {r : Int} (h : ¬ 4096 < (Lib.decDigits r.natAbs).length) : resV r = .tuple #[.string (str (Lib.itoa r)), .int .i64 0] := by unfold resV; rw [if_neg h]
theorem str_lit {s : ByteArray} {z : Int} (h1 : canonB (bytes s) = true) (h2 : valZ (bytes s) = z) (h3 : (digL (bytes s)).length ≤ 4096) : Str s z := by
  have e : bytes s = Lib.itoa z := by rw [← h2]; exact itoa_valZ h1
  refine ⟨e, ?_⟩
  rw [e, digL_itoa] at h3
  exact h3
theorem lit_str {s : ByteArray} {z : Int} (h : Str s z) : str (Lib.itoa z) = s := by rw [← h.text, str_bytes]
theorem resV_lit {s : ByteArray} {r : Int} (h : Str s r) : resV r = .tuple #[.string s, .int .i64 0] := by
  rw [resV_fits (by have := h.len; omega), lit_str h]
theorem str_of_err {s : ByteArray} (h : errOf (bytes s) = 0) : Str s (valZ (bytes s)) := by
  unfold errOf at h
  cases hc : canonB (bytes s)
  · rw [hc] at h; simp at h
  · rw [hc, if_pos rfl] at h
    refine str_lit hc rfl ?_
    by_cases hl : 4096 < (digL (bytes s)).length
    · rw [if_pos hl] at h; cases h
    · omega
theorem negative_any (s : ByteArray) (w : World) (h0 : 0 < s.size) :
    Calls Tryz.prog 49 #[.string s] w fun e w' => e = .returned (.bool (decide (byteAt s 0 = 45))) ∧ w' = w := by
  have g0 := byteAt_get s 0 h0
  generalize byteAt s 0 = b at *
  go_enter Tryz.func49, Tryz.ntmps49
  go_wp2
  go_ret
  refine ⟨ret_bool ?_, rfl⟩
  rw [Bool.eq_iff_iff]
  simp only [beq_iff_eq, decide_eq_true_eq]
  omega
theorem digits_len {s : ByteArray} (h0 : 0 < s.size) : (digL (bytes s)).length = if byteAt s 0 = 45 then s.size - 1 else s.size := by
  have hl : (bytes s).length = s.size := rfl
  match hb : bytes s, hl with
  | [], hl => simp at hl; omega
  | c :: t, hl =>
    have e0 := byte0 hb
    by_cases hc : c = 45
    · subst hc
      rw [dig_cons, if_pos (by rw [e0]; rfl)]
      simp at hl; omega
    · have hne : ¬ byteAt s 0 = 45 := by rw [e0]; exact fun h => hc (UInt8.toNat_inj.1 (by rw [h]; rfl))
      have hneg : negB (c :: t) = false := by
        cases h : negB (c :: t)
        · rfl
        · exfalso
          unfold negB Lib.hasPrefix at h
          exact hc (by simpa using (by simpa [List.isPrefixOf] using h : 45 = c).symm)
      rw [if_neg hne]
      rcases neg_cases (c :: t) with ⟨h, -⟩ | ⟨-, h⟩
      · rw [hneg] at h; cases h
      · rw [h]; exact hl
theorem refDigits_any (s : ByteArray) (w : World) (h0 : 0 < s.size) (hs : s.size ≤ 9223372036854775807) :
    Calls Tryz.prog 30 #[.string s] w fun e w' => e = .returned (.int .i64 ((digL (bytes s)).length : Nat)) ∧ w' = w := by
  have C := fun W => negative_any s W h0
  rw [digits_len h0]
  by_cases h : byteAt s 0 = 45
  · rw [if_pos h]
    rw [decide_eq_true h] at C
    have KC := Lib.hid C; clear C h
    go_enter Tryz.func30, Tryz.ntmps30
    go_wp2_with (go_at_call 49; refine (KC.out _).mono ?_; rintro e w1 ⟨rfl, rfl⟩; refine Hid.out ?_)
    refine Lib.hid ?_
    go_wp2
    go_ret
    exact ⟨ret_int (by omega), rfl⟩
  · rw [if_neg h]
    rw [decide_eq_false h] at C
    have KC := Lib.hid C; clear C h
    go_enter Tryz.func30, Tryz.ntmps30
    go_wp2_with (go_at_call 49; refine (KC.out _).mono ?_; rintro e w1 ⟨rfl, rfl⟩; refine Hid.out ?_)
    refine Lib.hid ?_
    go_wp2
    go_ret
    exact ⟨rfl, rfl⟩
theorem refCheck_any (s : ByteArray) (w : World) (hs : s.size ≤ 9223372036854775807) :
    Calls Tryz.prog 13 #[.string s] w fun e w' => e = .returned (.int .i64 (errOf (bytes s) : Nat)) ∧ w' = w := by
  have C1 := fun W => form_any s W hs
  have C2 : canonB (bytes s) = true → ∀ W, Calls Tryz.prog 30 #[.string s] W fun e w' => e = .returned (.int .i64 ((digL (bytes s)).length : Nat)) ∧ w' = W := fun hc W => refDigits_any s W (by
    rcases Nat.eq_zero_or_pos s.size with h | h
    · exfalso
      rw [List.length_eq_zero_iff.1 (show (bytes s).length = 0 from h)] at hc
      exact absurd hc (by decide)
    · exact h) hs
  have he : errOf (bytes s) = if canonB (bytes s) = true then (if 4096 < (digL (bytes s)).length then 10 else 0) else 3 := rfl
  rw [he]
  cases hc : canonB (bytes s)
  · rw [hc] at C1
    have K1 := Lib.hid C1; clear C1 C2 he hc
    rw [if_neg (by simp)]
    go_enter Tryz.func13, Tryz.ntmps13
    go_wp2_with (go_at_call 29; refine (K1.out _).mono ?_; rintro e w1 ⟨rfl, rfl⟩; refine Hid.out ?_)
    refine Lib.hid ?_
    go_wp2
    go_ret
    exact ⟨rfl, rfl⟩
  · rw [hc] at C1
    have C2' := C2 hc
    have K1 := Lib.hid C1; have K2 := Lib.hid C2'; clear C1 C2 C2' he hc
    rw [if_pos rfl]
    generalize (digL (bytes s)).length = n at *
    by_cases hn : 4096 < n
    · rw [if_pos hn]
      go_enter Tryz.func13, Tryz.ntmps13
      go_wp2_with (go_at_call 29; refine (K1.out _).mono ?_; rintro e w1 ⟨rfl, rfl⟩; refine Hid.out ?_)
      refine Lib.hid ?_
      go_wp2_with (go_at_call 30; refine (K2.out _).mono ?_; rintro e w1 ⟨rfl, rfl⟩; refine Hid.out ?_)
      refine Lib.hid ?_
      go_wp2
      go_ret
      exact ⟨rfl, rfl⟩
    · rw [if_neg hn]
      go_enter Tryz.func13, Tryz.ntmps13
      go_wp2_with (go_at_call 29; refine (K1.out _).mono ?_; rintro e w1 ⟨rfl, rfl⟩; refine Hid.out ?_)
      refine Lib.hid ?_
      go_wp2_with (go_at_call 30; refine (K2.out _).mono ?_; rintro e w1 ⟨rfl, rfl⟩; refine Hid.out ?_)
      refine Lib.hid ?_
      go_wp2
      go_ret
      exact ⟨rfl, rfl⟩
theorem refFew_any (s : ByteArray) (w : World) (hs : s.size ≤ 9223372036854775807) :
    Calls Tryz.prog 12 #[.string s] w fun e w' => e = .returned (.bool (decide (s.size ≤ 250))) ∧ w' = w := by
  go_enter Tryz.func12, Tryz.ntmps12
  go_wp2
  go_ret
  exact ⟨ret_bool (by simp; omega), rfl⟩
end Go.Proofs.YtmnbjkbkjmgmkaaGreatDoor
