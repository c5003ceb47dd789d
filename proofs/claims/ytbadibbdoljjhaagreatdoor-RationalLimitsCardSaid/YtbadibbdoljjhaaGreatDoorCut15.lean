import Derived.Test.YtbadibbdoljjhaaGreatDoorCut14
import Derived.Test.YtbadibbdoljjhaaGreatDoorCut6

set_option linter.unusedVariables false
/-
  natural: combine.
-/
namespace Go.Proofs.YtbadibbdoljjhaaGreatDoor
open Go Go.Proofs Go.RowKit

/-- What the loop of combine keeps. -/
structure CombInv (X Y S : List Nat) (a b : Int) (n i : Nat) (k : Int) : Prop where
  len : S.length = n
  small : Small S
  lo : -3000000000 ≤ k
  hi : k ≤ 3000000000
  eq : (val (S.take i) : Int) + k * (1000000000 ^ i : Nat) = a * (val (X.take i) : Nat) + b * (val (Y.take i) : Nat)

theorem CombInv.start (X Y : List Nat) (a b : Int) (n : Nat) : CombInv X Y (List.replicate n 0) a b n 0 0 :=
  ⟨by simp, Small.replicate _, by decide, by decide, by simp [val]⟩
theorem CombInv.step {X Y S : List Nat} {a b k : Int} {n i : Nat} (h : CombInv X Y S a b n i k) (hi : i < n) (hX : Small X) (hY : Small Y)
    (ha1 : -1000000000 < a) (ha2 : a < 1000000000) (hb1 : -1000000000 < b) (hb2 : b < 1000000000) (low : Nat) (k' t : Int)
    (ht : t = k + a * (X.getD i 0 : Nat) + b * (Y.getD i 0 : Nat)) (hlow : (low : Int) = t % 1000000000) (hk' : k' = t / 1000000000) :
    CombInv X Y (S.set i low) a b n (i + 1) k' ∧ -2100000000000000000 ≤ t ∧ t ≤ 2100000000000000000 ∧ low < 1000000000 := by
  have h1 := hX.getD i; have h2 := hY.getD i; have h3 := h.lo; have h4 := h.hi; have h5 := h.eq
  have p1 : -1000000000000000000 ≤ a * (X.getD i 0 : Nat) ∧ a * (X.getD i 0 : Nat) ≤ 1000000000000000000 := by
    have m1 : a * ((X.getD i 0 : Nat) : Int) ≤ 1000000000 * ((X.getD i 0 : Nat) : Int) := Int.mul_le_mul_of_nonneg_right (by omega) (by omega)
    have m2 : (-1000000000) * ((X.getD i 0 : Nat) : Int) ≤ a * ((X.getD i 0 : Nat) : Int) := Int.mul_le_mul_of_nonneg_right (by omega) (by omega)
    omega
  have p2 : -1000000000000000000 ≤ b * (Y.getD i 0 : Nat) ∧ b * (Y.getD i 0 : Nat) ≤ 1000000000000000000 := by
    have m1 : b * ((Y.getD i 0 : Nat) : Int) ≤ 1000000000 * ((Y.getD i 0 : Nat) : Int) := Int.mul_le_mul_of_nonneg_right (by omega) (by omega)
    have m2 : (-1000000000) * ((Y.getD i 0 : Nat) : Int) ≤ b * ((Y.getD i 0 : Nat) : Int) := Int.mul_le_mul_of_nonneg_right (by omega) (by omega)
    omega
  have hl : low < 1000000000 := by omega
  refine ⟨⟨by simp [h.len], h.small.set _ _ hl, by omega, by omega, ?_⟩, by omega, by omega, hl⟩
  rw [val_set_take _ _ _ (by rw [h.len]; exact hi), val_take_getD X, val_take_getD Y, Nat.pow_succ]
  have e1 : (low : Int) + 1000000000 * k' = t := by omega
  clear hlow hk' p1 p2 h1 h2 h3 h4 hl h
  generalize (1000000000 : Nat) ^ i = Q at *
  simp only [Int.natCast_add, Int.natCast_mul]
  rw [show ((1000000000 : Nat) : Int) = 1000000000 from rfl]
  generalize (Q : Int) = P at *
  generalize ((X.getD i 0 : Nat) : Int) = xd at *
  generalize ((Y.getD i 0 : Nat) : Int) = yd at *
  generalize ((val (List.take i S) : Nat) : Int) = vs at *
  generalize ((val (List.take i X) : Nat) : Int) = vx at *
  generalize ((val (List.take i Y) : Nat) : Int) = vy at *
  generalize (low : Int) = lw at *
  have e2 : (lw + 1000000000 * k') * P = (k + a * xd + b * yd) * P := by rw [e1, ht]
  clear ht e1
  grind
theorem CombInv.done {X Y S : List Nat} {a b k : Int} {n : Nat} (h : CombInv X Y S a b n n k) (hX : X.length = n) (hY : Y.length ≤ n) {Z : Nat}
    (hZ : (Z : Int) = a * (val X : Nat) + b * (val Y : Nat)) (hlt : Z < 1000000000 ^ n) : val S = Z := by
  have h5 := h.eq
  rw [List.take_of_length_le (by rw [h.len]; exact Nat.le_refl _), List.take_of_length_le (by omega), List.take_of_length_le (by omega), ← hZ] at h5
  have h6 := val_lt h.small
  rw [h.len] at h6
  generalize (1000000000 : Nat) ^ n = P at *
  have hk : k = 0 := by
    rcases Int.lt_trichotomy k 0 with hk | hk | hk
    · exfalso
      have : k * (P : Int) ≤ -1 * (P : Int) := Int.mul_le_mul_of_nonneg_right (by omega) (by omega)
      omega
    · exact hk
    · exfalso
      have : 1 * (P : Int) ≤ k * (P : Int) := Int.mul_le_mul_of_nonneg_right (by omega) (by omega)
      omega
  rw [hk, Int.zero_mul] at h5
  omega
theorem tmod_low {t : Int} (h : t < 0) : (t.tmod 1000000000 = 0 ∧ t % 1000000000 = 0 ∧ t.tdiv 1000000000 = t / 1000000000) ∨ (t.tmod 1000000000 < 0 ∧ -1000000000 < t.tmod 1000000000 ∧ t % 1000000000 = t.tmod 1000000000 + 1000000000 ∧ (t - (t.tmod 1000000000 + 1000000000)).tdiv 1000000000 = t / 1000000000) := by
  obtain ⟨u, rfl⟩ : ∃ u : Nat, t = -(u : Int) := ⟨t.natAbs, by omega⟩
  have e1 : (-(u : Int)).tmod 1000000000 = -((u % 1000000000 : Nat) : Int) := by
    rw [Int.neg_tmod, Int.tmod_eq_emod_of_nonneg (by omega)]; omega
  have e2 : ∀ v : Nat, (-(v : Int)).tdiv 1000000000 = -((v / 1000000000 : Nat) : Int) := fun v => by
    rw [Int.neg_tdiv, Int.tdiv_eq_ediv_of_nonneg (by omega)]; omega
  rw [e1]
  by_cases h0 : u % 1000000000 = 0
  · left
    refine ⟨by omega, by omega, ?_⟩
    rw [e2]; omega
  · right
    refine ⟨by omega, by omega, by omega, ?_⟩
    obtain ⟨v, hv⟩ : ∃ v : Nat, -(u : Int) - (-((u % 1000000000 : Nat) : Int) + 1000000000) = -(v : Int) := ⟨u - u % 1000000000 + 1000000000, by omega⟩
    rw [hv, e2]; omega

set_option maxRecDepth 20000 in
set_option maxHeartbeats 8000000 in
theorem combine_any (x y Z : Nat) (a b : Int) (vx vy : Value) (w : World) (hx : NumAt w vx x) (hy : NumAt w vy y) (hbig : (limbs x).length ≤ 1000000000000) (hyx : (limbs y).length ≤ (limbs x).length)
    (ha1 : -1000000000 < a) (ha2 : a < 1000000000) (hb1 : -1000000000 < b) (hb2 : b < 1000000000) (hZ : (Z : Int) = a * (x : Nat) + b * (y : Nat)) (hle : Z ≤ x) :
    Calls Tryz.prog 226 #[.int .i64 a, vx, .int .i64 b, vy] w (RetN Z w) := by
  obtain ⟨i0, hi, hz0, hz1, hz2⟩ := info_parts infoU32
  have hlt := Nat.lt_of_le_of_lt hle (lt_pow_limbs x)
  obtain ⟨ao, c, rfl, hx⟩ := hx
  obtain ⟨ap, d, rfl, hy⟩ := hy
  have hsx := limbs_small x; have hsy := limbs_small y
  have e1 := val_limbs x; have e2 := val_limbs y
  generalize limbs x = X at *
  generalize limbs y = Y at *
  subst e1; subst e2
  have HX := Lib.hid hx; have HY := Lib.hid hy
  generalize hn : X.length = n at *
  generalize hm : Y.length = m at *
  have hstep := fun (S : List Nat) (i : Nat) (k : Int) (h : CombInv X Y S a b n i k) (hi : i < n) (low : Nat) (k' t : Int) (h1 : t = k + a * (X.getD i 0 : Nat) + b * (Y.getD i 0 : Nat)) (h2 : (low : Int) = t % 1000000000) (h3 : k' = t / 1000000000) => h.step hi hsx hsy ha1 ha2 hb1 hb2 low k' t h1 h2 h3
  have hdone := fun (S : List Nat) (k : Int) (h : CombInv X Y S a b n n k) => h.done hn (by omega) hZ hlt
  have HN := Lib.hid hn; have HM := Lib.hid hm; have HSX := Lib.hid hsx; have HSY := Lib.hid hsy; have HST := Lib.hid hstep; have HDN := Lib.hid hdone
  clear hn hm hx hy hsx hsy hstep hdone hZ hle hlt
  go_enter Tryz.func226, Tryz.ntmps226
  go_wp2_with (at_make; refine wpList_make_full _ rfl _ _ 91 rfl (w.heap.size + 3) 159 i0 (.int .u32 0) 1 Tryz.underlying91 hi hz0 hz1 .i64 .i64 _ _ n rfl rfl ?a1 ?a2 ?a3 ?a4 ?a5 ?_)
  case a1 => simp
  case a2 => simp
  case a3 => rw [hz2]; omega
  case a4 => unfold maxLen; omega
  case a5 => simp
  intro W0 hown hg
  have A := (three_new w (Value.slice ao n c) (Value.slice ap m d) (Value.slice none 0 0) 93 93 93).boxes
  have hb0 := blk_of_made hown
  clear hown
  generalize (((w.alloc (Obj.cells #[Value.slice ao n c] 93)).alloc (Obj.cells #[Value.slice ap m d] 93)).alloc (Obj.cells #[Value.slice none 0 0] 93)) = V0 at A hg
  generalize hgg : w.heap.size + 1 + 1 + 1 = g at hb0 ⊢
  have HG := Lib.hid hgg; clear hgg
  have B := A.mono (below_of_grown hg)
  clear A hg
  have k1 := B.c1
  go_wp2_with fail
  have HB0 := Lib.hid hb0; clear hb0 k1
  go_loopw [10, 21] (fun cv iv wr => ∃ (i : Nat) (k : Int) (S : List Nat), i ≤ n ∧ iv = .int .i64 i ∧ cv = .int .i64 k ∧ Blk wr g S ∧ CombInv X Y S a b n i k ∧ W0.grownBy wr (some g)) (fun _ iv _ => n - (intOf iv).toNat)
  case atStart => exact ⟨0, 0, _, Nat.zero_le _, rfl, rfl, HB0.out, CombInv.start X Y a b n, grown_refl _ _⟩
  case round =>
    obtain ⟨i, k, S, hi, rfl, rfl, hblk, hinv, hgr⟩ := hrel
    have B1 := B.grown hgr (by have := HG.out; omega)
    have d2 := B1.c2
    have hk1 := hinv.lo; have hk2 := hinv.hi; have hSl := hinv.len
    have HI := Lib.hid hinv; have HGR := Lib.hid hgr; have HBL := Lib.hid hblk; have HSL := Lib.hid hSl
    clear hinv hgr hblk hSl
    by_cases hin : i < n
    · obtain ⟨bx, ox, rfl⟩ := HX.out.addr (fun h => by have := HN.out; rw [h] at this; simp at this; omega)
      have cx := (HX.out.mono B1.below).get i (by rw [HN.out]; exact hin)
      have cs := HBL.out.cell i (by rw [HSL.out]; omega)
      have fs := HBL.out.frozen i
      have hst := HST.out S i k HI.out hin
      have hxd := HSX.out.getD i; have hyd := HSY.out.getD i
      have hy0 : m ≤ i → Y.getD i 0 = 0 := fun h => getD_ge _ _ (by rw [HM.out]; exact h)
      have cy : i < m → ∃ by_ oy, ap = some ⟨by_, oy, none⟩ ∧ wr.cell? ⟨by_, oy + i, none⟩ = some (.int .u32 (Y.getD i 0 : Nat)) := fun h => by
        obtain ⟨by_, oy, rfl⟩ := HY.out.addr (fun h0 => by have := HM.out; rw [h0] at this; simp at this; omega)
        exact ⟨by_, oy, rfl, (HY.out.mono B1.below).get i (by rw [HM.out]; exact h)⟩
      have hset := fun (v : Nat) => HBL.out.set i v
      generalize S.getD i 0 = s0 at *
      generalize X.getD i 0 = xd at *
      generalize Y.getD i 0 = yd at *
      have HSE := Lib.hid hset; have HY0 := Lib.hid hy0; have HS := Lib.hid hst
      clear hset hy0 hst
      have pb1 : -1000000000000000000 ≤ a * (xd : Int) ∧ a * (xd : Int) ≤ 1000000000000000000 := by
        have m1 : a * (xd : Int) ≤ 1000000000 * (xd : Int) := Int.mul_le_mul_of_nonneg_right (by omega) (by omega)
        have m2 : (-1000000000) * (xd : Int) ≤ a * (xd : Int) := Int.mul_le_mul_of_nonneg_right (by omega) (by omega)
        omega
      have pb2 : -1000000000000000000 ≤ b * (yd : Int) ∧ b * (yd : Int) ≤ 1000000000000000000 := by
        have m1 : b * (yd : Int) ≤ 1000000000 * (yd : Int) := Int.mul_le_mul_of_nonneg_right (by omega) (by omega)
        have m2 : (-1000000000) * (yd : Int) ≤ b * (yd : Int) := Int.mul_le_mul_of_nonneg_right (by omega) (by omega)
        omega
      obtain ⟨pa, hpa⟩ : ∃ pa, pa = a * (xd : Int) := ⟨_, rfl⟩
      obtain ⟨pb, hpb⟩ : ∃ pb, pb = b * (yd : Int) := ⟨_, rfl⟩
      rw [← hpa] at pb1
      rw [← hpb] at pb2
      rw [← hpa, ← hpb] at HS
      have ra : a * (xd : Int) = pa := hpa.symm
      have rb : b * (yd : Int) = pb := hpb.symm
      obtain ⟨pa1, pa2⟩ := pb1
      obtain ⟨pbl, pbh⟩ := pb2
      obtain ⟨low, hlow⟩ : ∃ low : Nat, (low : Int) = (k + pa + pb) % 1000000000 := ⟨((k + pa + pb) % 1000000000).toNat, by omega⟩
      obtain ⟨hnew, ht1, ht2, hl9⟩ := HS.out low _ _ rfl hlow rfl
      have hset := HSE.out low
      have HNEW := Lib.hid hnew; have HSET := Lib.hid hset; have HLOW := Lib.hid hlow
      clear hnew hset hlow hpa hpb HS HSE
      by_cases him : i < m
      · obtain ⟨by_, oy, rfl, cy'⟩ := cy him
        clear cy
        obtain ⟨T, hT⟩ : ∃ T, k + pa + pb = T := ⟨_, rfl⟩
        rw [hT] at HNEW HLOW ht1 ht2
        by_cases hneg : T < 0
        · rcases tmod_low hneg with ⟨r1, r2, r3⟩ | ⟨r1, r2, r3, r4⟩
          · have hl0 : low = 0 := by have := HLOW.out; omega
            subst hl0
            have hk' := r3
            have HK := Lib.hid hk'; clear r2 r3 hk'
            simp only [Int.natCast_zero] at HSET
            go_wp2
            go_roundw
            case rel => exact ⟨i + 1, _, _, by omega, by go_num, congrArg (Value.int .i64) HK.out, HSET.out, HNEW.out, grown_set HGR.out _ _⟩
            case measure => simp [intOf]; omega
          · obtain ⟨r, hr⟩ : ∃ r, T.tmod 1000000000 = r := ⟨_, rfl⟩
            rw [hr] at r1 r2 r3 r4
            have hlr : r + 1000000000 = (low : Int) := by have := HLOW.out; omega
            rw [hlr] at r4
            have HK := Lib.hid r4; clear r3 r4
            go_wp2
            go_roundw
            case rel => exact ⟨i + 1, _, _, by omega, by go_num, congrArg (Value.int .i64) HK.out, HSET.out, HNEW.out, grown_set HGR.out _ _⟩
            case measure => simp [intOf]; omega
        · have hpos : 0 ≤ T := by omega
          have hr : T % 1000000000 = (low : Int) := HLOW.out.symm
          have hsub : 0 ≤ T - (low : Int) := by have := HLOW.out; omega
          have hkk : (T - (low : Int)) / 1000000000 = T / 1000000000 := by have := HLOW.out; omega
          have HK := Lib.hid hkk; clear hkk hneg
          go_wp2
          go_roundw
          case rel => exact ⟨i + 1, _, _, by omega, by go_num, congrArg (Value.int .i64) HK.out, HSET.out, HNEW.out, grown_set HGR.out _ _⟩
          case measure => simp [intOf]; omega
      · have hyd0 : yd = 0 := HY0.out (by omega)
        subst hyd0
        have hpb0 : pb = 0 := by rw [← rb]; simp
        subst hpb0
        rw [Int.add_zero] at HNEW HLOW ht1 ht2
        clear cy rb
        obtain ⟨T, hT⟩ : ∃ T, k + pa = T := ⟨_, rfl⟩
        rw [hT] at HNEW HLOW ht1 ht2
        by_cases hneg : T < 0
        · rcases tmod_low hneg with ⟨r1, r2, r3⟩ | ⟨r1, r2, r3, r4⟩
          · have hl0 : low = 0 := by have := HLOW.out; omega
            subst hl0
            have hk' := r3
            have HK := Lib.hid hk'; clear r2 r3 hk'
            simp only [Int.natCast_zero] at HSET
            go_wp2
            go_roundw
            case rel => exact ⟨i + 1, _, _, by omega, by go_num, congrArg (Value.int .i64) HK.out, HSET.out, HNEW.out, grown_set HGR.out _ _⟩
            case measure => simp [intOf]; omega
          · obtain ⟨r, hr⟩ : ∃ r, T.tmod 1000000000 = r := ⟨_, rfl⟩
            rw [hr] at r1 r2 r3 r4
            have hlr : r + 1000000000 = (low : Int) := by have := HLOW.out; omega
            rw [hlr] at r4
            have HK := Lib.hid r4; clear r3 r4
            go_wp2
            go_roundw
            case rel => exact ⟨i + 1, _, _, by omega, by go_num, congrArg (Value.int .i64) HK.out, HSET.out, HNEW.out, grown_set HGR.out _ _⟩
            case measure => simp [intOf]; omega
        · have hpos : 0 ≤ T := by omega
          have hr : T % 1000000000 = (low : Int) := HLOW.out.symm
          have hsub : 0 ≤ T - (low : Int) := by have := HLOW.out; omega
          have hkk : (T - (low : Int)) / 1000000000 = T / 1000000000 := by have := HLOW.out; omega
          have HK := Lib.hid hkk; clear hkk hneg
          go_wp2
          go_roundw
          case rel => exact ⟨i + 1, _, _, by omega, by go_num, congrArg (Value.int .i64) HK.out, HSET.out, HNEW.out, grown_set HGR.out _ _⟩
          case measure => simp [intOf]; omega
    · have hi0 : i = n := by omega
      subst hi0
      have hval := HDN.out S k HI.out
      have k5 := B1.c3; have g5 := B1.f3
      have HV := Lib.hid hval; clear hval d2
      go_wp2_with fail
      refine (trimmed_at S i _ _ _ HSL.out (HBL.out.row (by rw [HSL.out]; exact Nat.le_refl _) (by omega)) HI.out.small).mono ?_
      rintro e w4 ⟨v, rfl, hv, hb4⟩
      obtain ⟨ao', c', rfl, hr4⟩ := hv
      have B4 := B1.mono hb4
      have k7 := B4.c3; have g7 := B4.f3
      clear k5 g5
      go_wp2
      refine bodyPost_ret (v := .agg #[.slice ao' (limbs (val S)).length c']) (by simp [results, Tryz.results226, go_sem, cellSet k7]) rfl ?_
      rw [HV.out] at hr4 ⊢
      exact ⟨_, rfl, ⟨ao', c', rfl, hr4.box k7 _⟩, B4.below.setCell (p := ⟨w.heap.size + 1 + 1, 0, none⟩) (by simp; omega) _⟩
end Go.Proofs.YtbadibbdoljjhaaGreatDoor
