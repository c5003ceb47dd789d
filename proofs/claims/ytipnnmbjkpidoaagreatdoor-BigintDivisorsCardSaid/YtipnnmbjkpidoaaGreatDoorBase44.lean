import Derived.Deep.RegionHeld3
import Derived.Test.YtipnnmbjkpidoaaGreatDoorBase5
import Derived.Test.YtipnnmbjkpidoaaGreatDoorOwnGcdN
import Derived.Test.YtipnnmbjkpidoaaGreatDoorBase19

set_option linter.unusedVariables false
/-
  bigint.compute of Gcd, for long integers. (made by tools/comp.py)
-/
namespace Go.Proofs.YtipnnmbjkpidoaaGreatDoor
open Go Go.Proofs Go.RowKit Go.Sort

theorem keepSGcd {W w1 w2 : World} {a : Addr} {v : Value} (hlt : a.block < W.heap.size) (h : w1.cell? a = some v ∧ Below W.heap.size W w1) (hb : Below w1.heap.size w1 w2) : w2.cell? a = some v ∧ Below W.heap.size W w2 :=
  ⟨(hb.cell (Nat.lt_of_lt_of_le hlt h.2.size)).trans h.1, Below.chain h.2 hb⟩

set_option maxHeartbeats 4000000 in
theorem compGcd_long (s t : ByteArray) (x y r : Int) (w : World) (hs : Str s x) (ht : Str t y) (hxy : ¬ (x.natAbs < 1000000000 ∧ y.natAbs < 1000000000)) (hr : (limbs r.natAbs).length ≤ 1000000000000)
    (HL : ∀ (W : World) (v1 v2 : Value), IntAt W v1 x → IntAt W v2 y → Calls Tryz.prog 96 #[v1, v2] W fun e w' => ∃ v, e = .returned v ∧ IntAt w' v r ∧ Below W.heap.size W w')
    (htab : Lib.TabIs Tryz.prog w "internal/strconv.uint64pow10" .u64 Lib.pow10Tab) :
    Calls Tryz.prog 77 #[opV 95 96, .string s, .string t] w fun e w' =>
      e = .returned (if 4096 < (Lib.decDigits r.natAbs).length then .tuple #[.string ⟨#[]⟩, .int .i64 10] else .tuple #[.string (str (Lib.itoa r)), .int .i64 0]) ∧ Below w.heap.size w w' := by
  have hsz := hs.size
  have htz := ht.size
  have CB := fun W => checkBoth_any s t W (by omega) (by omega)
  have hb : errBoth (bytes s) (bytes t) = 0 := by unfold errBoth; rw [if_pos hs.err, ht.err]
  rw [hb] at CB
  obtain ⟨bs, bt, hbs, hbt, hbb⟩ : ∃ bs bt : Bool, decide ((digL (bytes s)).length ≤ 9) = bs ∧ decide ((digL (bytes t)).length ≤ 9) = bt ∧ ¬ (bs = true ∧ bt = true) := by
    refine ⟨_, _, rfl, rfl, fun ⟨h1, h2⟩ => hxy ⟨?_, ?_⟩⟩
    · exact Decidable.byContradiction fun h => by rw [hs.notShort h] at h1; cases h1
    · exact Decidable.byContradiction fun h => by rw [ht.notShort h] at h2; cases h2
  have IS := fun W => isShort_any s W (by omega)
  have IT := fun W => isShort_any t W (by omega)
  rw [hbs] at IS
  rw [hbt] at IT
  have PS := fun W => parseZ_any s x W hs.text (by omega)
  have PT := fun W => parseZ_any t y W ht.text (by omega)
  have TX : ∀ (W : World) (v : Value), Below w.heap.size w W → IntAt W v r → Calls Tryz.prog 100 #[v] W fun e w' => e = .returned (.string (str (Lib.itoa r))) ∧ Below W.heap.size W w' := fun W v hW hv =>
    textZ_any r v W hv hr ((Lib.tabBelow_of_tabIs htab).on hW).here
  have LG := fun W => isLong_any (str (Lib.itoa r)) W (by
    rw [str_size]
    have h1 := decDigits_limbs r.natAbs
    by_cases hz : r < 0
    · rw [itoa_neg hz]; simp; omega
    · rw [itoa_nonneg hz]; omega)
  rw [bytes_str, digL_itoa] at LG
  have HCB := Lib.hid CB; have HIS := Lib.hid IS; have HIT := Lib.hid IT; have HPS := Lib.hid PS; have HPT := Lib.hid PT; have HTX := Lib.hid TX; have HHL := Lib.hid HL; have HLG := Lib.hid LG
  clear CB IS IT PS PT TX HL LG hb htab hs ht hxy hr hbs hbt
  generalize str (Lib.itoa r) = rs at *
  generalize hlong : decide (4096 < (Lib.decDigits r.natAbs).length) = lg at *
  have hres : (if 4096 < (Lib.decDigits r.natAbs).length then Value.tuple #[.string ⟨#[]⟩, .int .i64 10] else .tuple #[.string rs, .int .i64 0]) = if lg = true then .tuple #[.string ⟨#[]⟩, .int .i64 10] else .tuple #[.string rs, .int .i64 0] := by
    rw [← hlong]; simp
  rw [hres]
  clear hres hlong
  unfold opV
  have B0 : Below w.heap.size w (w.alloc (Obj.cells #[.func (.func 95) #[] #[], .func (.func 96) #[] #[]] 75)) := (Below.refl _ _).alloc (Nat.le_refl _) _
  have c0 : (w.alloc (Obj.cells #[.func (.func 95) #[] #[], .func (.func 96) #[] #[]] 75)).cell? ⟨w.heap.size, 1, none⟩ = some (.func (.func 96) #[] #[]) := by go_cell
  have s0 : w.heap.size < (w.alloc (Obj.cells #[.func (.func 95) #[] #[], .func (.func 96) #[] #[]] 75)).heap.size := by simp
  have key : ∀ W : World, Below w.heap.size w W → W.cell? ⟨w.heap.size, 1, none⟩ = some (.func (.func 96) #[] #[]) → w.heap.size < W.heap.size → True := fun _ _ _ _ => trivial
  clear key
  cases bs
  · go_enter Tryz.func77, Tryz.ntmps77
    go_wp2_with (go_at_call 73; refine (HCB.out _).mono ?_; rintro e w1 ⟨rfl, rfl⟩; refine Hid.out ?_)
    refine Lib.hid ?_
    go_wp2_with (go_at_call 116; refine (HIS.out _).mono ?_; rintro e w1 ⟨rfl, rfl⟩; refine Hid.out ?_)
    refine Lib.hid ?_
    go_wp2_with fail
    generalize w.alloc (Obj.cells #[.func (.func 95) #[] #[], .func (.func 96) #[] #[]] 75) = W at *
    have HB := Lib.hid B0; clear B0
    go_region_held3 (fun w' => w'.cell? ⟨w.heap.size, 1, none⟩ = some (.func (.func 96) #[] #[]) ∧ Below W.heap.size W w') (first | exact keepSGcd (a := ⟨w.heap.size, 1, none⟩) s0 ⟨c0, Below.refl _ _⟩ ((Below.refl _ _).drew) | (refine keepSGcd (a := ⟨w.heap.size, 1, none⟩) s0 ?_ (by assumption); assumption)) (first
      | (go_at_call_of 99 s; refine (HPS.out _).mono ?_; rintro e w4 ⟨v4, rfl, hv4, hb4⟩)
      | (go_at_call_of 99 t; refine (HPT.out _).mono ?_; rintro e w5 ⟨v5, rfl, hv5, hb5⟩)
      | (go_at_call 96; refine (HHL.out _ _ _ (hv4.mono hb5) hv5).mono ?_; rintro e w6 ⟨v6, rfl, hv6, hb6⟩)
      | (go_at_call 100; refine (HTX.out _ _ (Below.chain HB.out (Below.chain (Below.chain ((Below.refl _ _).drew) hb4) (Below.chain hb5 hb6))) hv6).mono ?_; rintro e w7 ⟨rfl, hb7⟩))
    all_goals
      have hbF := Below.chain HB.out (Below.chain (Below.chain ((Below.refl W.heap.size W).drew) hb4) (Below.chain hb5 (Below.chain hb6 hb7)))
      clear hb4 hb5 hb6 hb7 hv4 hv5 hv6 c0 s0
      go_wp2_with (go_at_call 71; refine (HLG.out _).mono ?_; rintro e w8 ⟨rfl, rfl⟩; refine Hid.out ?_)
      refine Lib.hid ?_
      cases lg
      · go_wp2
        refine bodyPost_ret (by simp [results, Tryz.results77, go_sem]; rfl) rfl ?_
        exact ⟨rfl, hbF⟩
      · go_wp2
        refine bodyPost_ret (by simp [results, Tryz.results77, go_sem]; rfl) rfl ?_
        exact ⟨rfl, hbF⟩
  · have hbt : bt = false := by cases bt <;> simp_all
    subst hbt
    clear hbb
    go_enter Tryz.func77, Tryz.ntmps77
    go_wp2_with (go_at_call 73; refine (HCB.out _).mono ?_; rintro e w1 ⟨rfl, rfl⟩; refine Hid.out ?_)
    refine Lib.hid ?_
    go_wp2_with (go_at_call 116; refine (HIS.out _).mono ?_; rintro e w1 ⟨rfl, rfl⟩; refine Hid.out ?_)
    refine Lib.hid ?_
    go_wp2_with (go_at_call 116; refine (HIT.out _).mono ?_; rintro e w1 ⟨rfl, rfl⟩; refine Hid.out ?_)
    refine Lib.hid ?_
    go_wp2_with fail
    generalize w.alloc (Obj.cells #[.func (.func 95) #[] #[], .func (.func 96) #[] #[]] 75) = W at *
    have HB := Lib.hid B0; clear B0
    go_region_held3 (fun w' => w'.cell? ⟨w.heap.size, 1, none⟩ = some (.func (.func 96) #[] #[]) ∧ Below W.heap.size W w') (first | exact keepSGcd (a := ⟨w.heap.size, 1, none⟩) s0 ⟨c0, Below.refl _ _⟩ ((Below.refl _ _).drew) | (refine keepSGcd (a := ⟨w.heap.size, 1, none⟩) s0 ?_ (by assumption); assumption)) (first
      | (go_at_call_of 99 s; refine (HPS.out _).mono ?_; rintro e w4 ⟨v4, rfl, hv4, hb4⟩)
      | (go_at_call_of 99 t; refine (HPT.out _).mono ?_; rintro e w5 ⟨v5, rfl, hv5, hb5⟩)
      | (go_at_call 96; refine (HHL.out _ _ _ (hv4.mono hb5) hv5).mono ?_; rintro e w6 ⟨v6, rfl, hv6, hb6⟩)
      | (go_at_call 100; refine (HTX.out _ _ (Below.chain HB.out (Below.chain (Below.chain ((Below.refl _ _).drew) hb4) (Below.chain hb5 hb6))) hv6).mono ?_; rintro e w7 ⟨rfl, hb7⟩))
    all_goals
      have hbF := Below.chain HB.out (Below.chain (Below.chain ((Below.refl W.heap.size W).drew) hb4) (Below.chain hb5 (Below.chain hb6 hb7)))
      clear hb4 hb5 hb6 hb7 hv4 hv5 hv6 c0 s0
      go_wp2_with (go_at_call 71; refine (HLG.out _).mono ?_; rintro e w8 ⟨rfl, rfl⟩; refine Hid.out ?_)
      refine Lib.hid ?_
      cases lg
      · go_wp2
        refine bodyPost_ret (by simp [results, Tryz.results77, go_sem]; rfl) rfl ?_
        exact ⟨rfl, hbF⟩
      · go_wp2
        refine bodyPost_ret (by simp [results, Tryz.results77, go_sem]; rfl) rfl ?_
        exact ⟨rfl, hbF⟩
end Go.Proofs.YtipnnmbjkpidoaaGreatDoor

/-
  bigint: commonDivisor, Gcd.
-/
namespace Go.Proofs.YtipnnmbjkpidoaaGreatDoor
open Go Go.Proofs Go.RowKit

set_option maxHeartbeats 1000000 in
theorem commonDivisorZ (x y : Int) (va vb : Value) (w : World) (ha : IntAt w va x) (hb : IntAt w vb y) (hlx : (limbs x.natAbs).length ≤ 10000000000) (hly : (limbs y.natAbs).length ≤ 10000000000) :
    Calls Tryz.prog 96 #[va, vb] w fun e w' => ∃ v', e = .returned v' ∧ IntAt w' v' ((Int.gcd x y : Nat) : Int) ∧ Below w.heap.size w w' := by
  have hC : ∀ (v1 v2 : Value), NumAt w v1 x.natAbs → NumAt w v2 y.natAbs → ∀ W : World, Below w.heap.size w W → Calls Tryz.prog 149 #[v1, v2] W (RetN (Int.gcd x y) W) := fun v1 v2 h1 h2 W hW => gcdN_any x.natAbs y.natAbs v1 v2 W (h1.mono hW) (h2.mono hW) hlx hly
  obtain ⟨ao, c, rfl, hra⟩ := ha
  obtain ⟨ap, d, rfl, hrb⟩ := hb
  have C := hC _ _ ⟨ao, c, rfl, hra⟩ ⟨ap, d, rfl, hrb⟩
  have P : ∀ (W : World) (v : Value), NumAt W v (Int.gcd x y) → Calls Tryz.prog 120 #[v] W fun e w' => ∃ v', e = .returned v' ∧ IntAt w' v' ((Int.gcd x y : Nat) : Int) ∧ Below W.heap.size W w' := fun W v h => plus_any _ v W h
  clear hra hrb hC
  have HC := Lib.hid C; have HP := Lib.hid P
  clear C P hlx hly
  generalize (limbs x.natAbs).length = n at *
  generalize (limbs y.natAbs).length = m at *
  generalize decide (x < 0) = ba at *
  generalize decide (y < 0) = bb at *
  generalize ((Int.gcd x y : Nat) : Int) = z at *
  have R0 := rbox3_new w ba bb ao ap n c m d
  go_enter Tryz.func96, Tryz.ntmps96
  go_wp2_with (go_at_call 149; refine (HC.out _ R0.below).mono ?_; rintro e w1 ⟨v1, rfl, hv1, hb1⟩; refine Hid.out ?_)
  have R1 := R0.mono hb1
  refine Lib.hid ?_
  go_wp2_with (go_at_call 120; refine (HP.out _ _ hv1).mono ?_; rintro e w2 ⟨v2, rfl, hv2, hb2⟩; refine Hid.out ?_)
  have R2 := R1.mono hb2
  obtain ⟨a2, c2, rfl, hr2⟩ := hv2.open
  clear R0 R1 hb1 hb2 hv1 hv2
  have k1 := R2.r0; have k2 := R2.r1; have k3 := R2.f0; have k4 := R2.f1
  obtain ⟨hI, hS⟩ := IntAt.stored (w := w) (by omega : w.heap.size ≤ w.heap.size + 1 + 1) R2 hr2
  have q0 := hS.q0; have q1 := hS.q1; have hbF := hS.below
  have HI := Lib.hid hI
  clear hI hS hr2
  refine Lib.hid ?_
  go_wp2
  refine bodyPost_ret (v := .agg #[.bool (sgn z), .slice a2 (lenZ z) c2]) (by simp [results, Tryz.results96, go_sem, q0, q1]) rfl ?_
  exact ⟨_, rfl, HI.out, hbF⟩

theorem gcd_digits {s t : ByteArray} {x y : Int} (hs : Str s x) (ht : Str t y) : ((Int.gcd x y : Nat) : Int).natAbs < 10 ^ 4096 := by
  rw [Int.natAbs_natCast]
  obtain ⟨k, hk⟩ : ∃ k : Nat, k = 4096 := ⟨_, rfl⟩
  rw [← hk]
  exact gcd_le x y (10 ^ k) (hs.lt (by omega)) (ht.lt (by omega))
theorem gcd_limbs {s t : ByteArray} {x y : Int} (hs : Str s x) (ht : Str t y) : (limbs ((Int.gcd x y : Nat) : Int).natAbs).length ≤ 911 := by
  obtain ⟨k, hk⟩ : ∃ k : Nat, k = 4096 := ⟨_, rfl⟩
  refine limbs_of_pow (k := k + k) ?_ (by omega)
  have h := gcd_digits hs ht
  rw [← hk] at h
  exact Nat.lt_of_lt_of_le h (Nat.pow_le_pow_right (by decide) (by omega))

theorem compGcd (s t : ByteArray) (x y : Int) (w : World) (hs : Str s x) (ht : Str t y) (htab : Lib.TabIs Tryz.prog w "internal/strconv.uint64pow10" .u64 Lib.pow10Tab) :
    Calls Tryz.prog 77 #[opV 95 96, .string s, .string t] w fun e w' => e = .returned (resV ((Int.gcd x y : Nat) : Int)) ∧ Below w.heap.size w w' := by
  by_cases h : x.natAbs < 1000000000 ∧ y.natAbs < 1000000000
  · have hg := gcd_le x y 1000000000 h.1 h.2
    have := compGcd_short s t x y ((Int.gcd x y : Nat) : Int) w hs ht h.1 h.2 (by omega) (by omega) (fun W => gcdS x y W h.1 h.2) htab
    rwa [← resV_small (r := ((Int.gcd x y : Nat) : Int)) (by omega)] at this
  · exact compGcd_long s t x y ((Int.gcd x y : Nat) : Int) w hs ht h (by have := gcd_limbs hs ht; omega) (fun W v1 v2 h1 h2 => commonDivisorZ x y v1 v2 W h1 h2 (by have := hs.limbs; omega) (by have := ht.limbs; omega)) htab

set_option maxHeartbeats 1000000 in
theorem gcdZ (s t : ByteArray) (x y : Int) (w : World) (hs : Str s x) (ht : Str t y) (htab : Lib.TabIs Tryz.prog w "internal/strconv.uint64pow10" .u64 Lib.pow10Tab) :
    Calls Tryz.prog 44 #[.string s, .string t] w fun e w' => e = .returned (resV ((Int.gcd x y : Nat) : Int)) ∧ Below w.heap.size w w' := by
  have C := compGcd s t x y w hs ht htab
  obtain ⟨a, e0, hr⟩ := resV_parts ((Int.gcd x y : Nat) : Int)
  rw [hr] at C ⊢
  clear hr hs ht htab
  unfold opV at C
  have HC := Lib.hid C; clear C
  go_enter Tryz.func44, Tryz.ntmps44
  go_wp2_with (go_at_call 77; refine HC.out.mono ?_; rintro e w2 ⟨rfl, hb2⟩; refine Hid.out ?_)
  refine Lib.hid ?_
  go_wp2
  refine bodyPost_ret (by simp [results, Tryz.results44, go_sem]; rfl) rfl ?_
  exact ⟨rfl, hb2⟩
end Go.Proofs.YtipnnmbjkpidoaaGreatDoor

/-
  Bezout's loop on integers: what it tells.
-/
namespace Go.Proofs.YtipnnmbjkpidoaaGreatDoor
open Go Go.Proofs

/-- What holds at each round: the common divisors, and that both are combinations. -/
structure BezCong (a b g n x f : Int) : Prop where
  gcd : Int.gcd g n = Int.gcd a b
  eg : b ∣ g - a * x
  en : b ∣ n - a * f
theorem BezCong.step {a b g n x f : Int} (h : BezCong a b g n x f) : BezCong a b n (g - g.fdiv n * n) f (x - g.fdiv n * f) := by
  obtain ⟨h1, h2, h3⟩ := h
  refine ⟨?_, h3, ?_⟩
  · rw [← h1]
    generalize g.fdiv n = q
    refine Nat.dvd_antisymm ?_ ?_
    · refine Int.dvd_gcd ?_ ?_
      · have e : g = (g - q * n) + q * n := by omega
        have k1 : ((Int.gcd n (g - q * n) : Nat) : Int) ∣ (g - q * n) := Int.gcd_dvd_right ..
        have k2 : ((Int.gcd n (g - q * n) : Nat) : Int) ∣ n := Int.gcd_dvd_left ..
        have k3 := Int.dvd_add k1 (Int.dvd_mul_of_dvd_right (b := q) k2)
        rwa [← e] at k3
      · exact Int.gcd_dvd_left ..
    · refine Int.dvd_gcd (Int.gcd_dvd_right ..) ?_
      exact Int.dvd_sub (Int.gcd_dvd_left ..) (Int.dvd_mul_of_dvd_right (Int.gcd_dvd_right ..))
  · generalize g.fdiv n = q
    have e : g - q * n - a * (x - q * f) = (g - a * x) - q * (n - a * f) := by
      rw [Int.mul_sub, Int.mul_sub, Int.mul_left_comm a q f]; omega
    rw [e]
    exact Int.dvd_sub h2 (Int.dvd_mul_of_dvd_right h3)
theorem bezRun_cong (a b : Int) : ∀ (k : Nat) (g n x f : Int), n.natAbs ≤ k → 0 < g → 0 ≤ n → BezCong a b g n x f → (bezRun g n x f).1 = Int.gcd a b ∧ b ∣ (bezRun g n x f).1 - a * (bezRun g n x f).2 := by
  intro k
  induction k with
  | zero =>
    intro g n x f hk hg _ h
    have : n = 0 := by omega
    subst this
    rw [bezRun_zero]
    refine ⟨?_, h.eg⟩
    rw [← h.gcd, Int.gcd_zero_right]; show g = _; omega
  | succ k ih =>
    intro g n x f hk hg hn0 h
    by_cases hn : n = 0
    · subst hn
      rw [bezRun_zero]
      refine ⟨?_, h.eg⟩
      rw [← h.gcd, Int.gcd_zero_right]; show g = _; omega
    · rw [bezRun_step g n x f hn]
      have := fmod_natAbs_lt g n hn
      have hz := fmod_nonneg g n (by omega)
      refine ih _ _ _ _ (by rw [step_fmod]; omega) (by omega) (by rw [step_fmod]; exact hz) h.step

theorem dvd_natAbs_self (b : Int) : b ∣ (b.natAbs : Int) := Int.dvd_natAbs.2 (Int.dvd_refl b)
theorem bez_start (a b : Int) : BezCong a b (b.natAbs : Int) (a.fmod (b.natAbs : Int)) 0 1 := by
  refine ⟨?_, ?_, ?_⟩
  · have e := step_fmod a (b.natAbs : Int)
    rw [← e]
    generalize a.fdiv (b.natAbs : Int) = q
    refine Nat.dvd_antisymm ?_ ?_
    · have h1 : ((Int.gcd (b.natAbs : Int) (a - q * (b.natAbs : Int)) : Nat) : Int) ∣ (b.natAbs : Int) := Int.gcd_dvd_left ..
      refine Int.dvd_gcd ?_ (Int.dvd_natAbs.1 h1)
      have e : a = (a - q * (b.natAbs : Int)) + q * (b.natAbs : Int) := by omega
      have h2 : ((Int.gcd (b.natAbs : Int) (a - q * (b.natAbs : Int)) : Nat) : Int) ∣ (a - q * (b.natAbs : Int)) := Int.gcd_dvd_right ..
      have h3 := Int.dvd_add h2 (Int.dvd_mul_of_dvd_right (b := q) h1)
      rwa [← e] at h3
    · have h1 : ((Int.gcd a b : Nat) : Int) ∣ (b.natAbs : Int) := Int.dvd_natAbs.2 (Int.gcd_dvd_right ..)
      exact Int.dvd_gcd h1 (Int.dvd_sub (Int.gcd_dvd_left ..) (Int.dvd_mul_of_dvd_right h1))
  · rw [Int.mul_zero, Int.sub_zero]; exact dvd_natAbs_self b
  · rw [Int.mul_one]
    have e := step_fmod a (b.natAbs : Int)
    have e2 : a.fmod (b.natAbs : Int) - a = -(a.fdiv (b.natAbs : Int) * (b.natAbs : Int)) := by omega
    rw [e2]
    exact Int.dvd_neg.2 (Int.dvd_mul_of_dvd_right (dvd_natAbs_self b))

theorem fdiv_exact {z b : Int} (hb : b ≠ 0) (h : b ∣ z) : z.fdiv b * b = z := by
  obtain ⟨k, rfl⟩ := h
  rw [Int.mul_fdiv_cancel_left _ hb, Int.mul_comm]

theorem bezOf_spec (a b : Int) : (bezOf a b).1 = Int.gcd a b ∧ a * (bezOf a b).2.1 + b * (bezOf a b).2.2 = Int.gcd a b ∧ (bezOf a b).2.1.natAbs ≤ b.natAbs + 1 ∧ (bezOf a b).2.2.natAbs ≤ a.natAbs + 1 := by
  unfold bezOf
  by_cases hb : b = 0
  · rw [if_pos hb]
    subst hb
    refine ⟨by rw [Int.gcd_zero_right], ?_, ?_, ?_⟩
    · show a * a.sign + 0 * 0 = _
      rw [Int.gcd_zero_right, Int.mul_sign_self]; omega
    · show a.sign.natAbs ≤ _
      rw [Int.natAbs_sign]; split <;> omega
    · show (0 : Int).natAbs ≤ _
      omega
  · rw [if_neg hb]
    have hn := fmod_natAbs_lt a (b.natAbs : Int) (by omega)
    have hz := fmod_nonneg a (b.natAbs : Int) (by omega)
    have hI := bezRun_inv b.natAbs _ _ _ _ _ (Nat.le_refl _) (BezInv.start b (a.fmod (b.natAbs : Int)) hb hz (by omega))
    have hC := bezRun_cong a b _ (b.natAbs : Int) (a.fmod (b.natAbs : Int)) 0 1 (Nat.le_refl _) (by omega) hz (bez_start a b)
    dsimp only
    generalize bezRun (b.natAbs : Int) (a.fmod (b.natAbs : Int)) 0 1 = r at *
    obtain ⟨G, X⟩ := r
    dsimp only at hI hC ⊢
    obtain ⟨hG, hdv⟩ := hC
    obtain ⟨hG0, hGB, -⟩ := hI
    have hGa : G ∣ a := by rw [hG]; exact Int.gcd_dvd_left ..
    have hGb : G ∣ (b.natAbs : Int) := by rw [hG]; exact Int.dvd_natAbs.2 (Int.gcd_dvd_right ..)
    have hD := fdiv_exact (by omega) hGb
    generalize (b.natAbs : Int).fdiv G = D at *
    have hD0 : D ≠ 0 := fun e => by rw [e] at hD; omega
    have hX := fmod_natAbs_lt X D hD0
    have eX := step_fmod X D
    have hDb : D.natAbs ≤ b.natAbs := by
      have e : D.natAbs * G.natAbs = b.natAbs := by rw [← Int.natAbs_mul, hD]; omega
      rw [← e]
      exact Nat.le_mul_of_pos_right _ (by omega)
    have haD : b ∣ a * D := by
      obtain ⟨k, hk⟩ := hGa
      have e : a * D = k * (b.natAbs : Int) := by rw [hk, ← hD, Int.mul_comm G k, Int.mul_assoc, Int.mul_comm G D]
      rw [e]
      exact Int.dvd_mul_of_dvd_right (dvd_natAbs_self b)
    have hfin : b ∣ G - a * X.fmod D := by
      rw [← eX]
      have e : G - a * (X - X.fdiv D * D) = (G - a * X) + X.fdiv D * (a * D) := by
        rw [Int.mul_sub, Int.mul_left_comm a (X.fdiv D) D]; omega
      rw [e]
      exact Int.dvd_add hdv (Int.dvd_mul_of_dvd_right haD)
    have hq := fdiv_exact hb hfin
    generalize X.fmod D = X' at *
    generalize (G - a * X').fdiv b = q at *
    refine ⟨hG, by rw [Int.mul_comm b q, ← hG]; omega, by omega, ?_⟩
    have h1 : q.natAbs * b.natAbs ≤ (a.natAbs + 1) * b.natAbs := by
      rw [← Int.natAbs_mul, hq]
      have h2 : (G - a * X').natAbs ≤ G.natAbs + (a * X').natAbs := by omega
      have h3 : (a * X').natAbs ≤ a.natAbs * b.natAbs := by rw [Int.natAbs_mul]; exact Nat.mul_le_mul_left _ (by omega)
      rw [Nat.add_mul]
      omega
    exact Nat.le_of_mul_le_mul_right h1 (by omega)

/-- Three more facts that BigintDivisors wants. -/
theorem gcd_mul_abs (x y z : Int) : Int.gcd (x * z) (y * z) = Int.gcd x y * z.natAbs := by
  unfold Int.gcd
  rw [Int.natAbs_mul, Int.natAbs_mul, Nat.gcd_mul_right]
theorem fmod_of_dvd {x g : Int} (h : g ∣ x) : x.fmod g = 0 := Int.fmod_eq_zero_of_dvd h
end Go.Proofs.YtipnnmbjkpidoaaGreatDoor
