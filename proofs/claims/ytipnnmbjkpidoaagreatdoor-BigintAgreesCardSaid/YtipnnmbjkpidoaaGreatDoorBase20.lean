import Derived.Test.YtipnnmbjkpidoaaGreatDoorBase19
import Derived.Test.YtipnnmbjkpidoaaGreatDoorBase7

set_option linter.unusedVariables false
/-
  Plain mathematics of the division by one limb.
-/
namespace Go.Proofs.YtipnnmbjkpidoaaGreatDoor

/-- The limbs from k on are divided. -/
structure DivInv (x q : List Nat) (y k r : Nat) : Prop where
  len : q.length = x.length
  small : Small q
  lt : r < y
  eq : val (q.drop k) * y + r = val (x.drop k)

theorem val_drop (l : List Nat) (k : Nat) (h : k < l.length) : val (l.drop k) = l.getD k 0 + 1000000000 * val (l.drop (k + 1)) := by
  rw [List.drop_eq_getElem_cons h, val_cons, getD_lt l k h]

theorem div_bound {r a y : Nat} (hr : r < y) (ha : a < 1000000000) : (r * 1000000000 + a) / y < 1000000000 :=
  Nat.div_lt_of_lt_mul (by
    have : (r + 1) * 1000000000 ≤ y * 1000000000 := Nat.mul_le_mul_right _ hr
    omega)

theorem DivInv.start {x : List Nat} {y : Nat} (hy : 0 < y) : DivInv x (List.replicate x.length 0) y x.length 0 :=
  ⟨by simp, Small.replicate _, hy, by simp [val]⟩

theorem DivInv.step {x q : List Nat} {y k r : Nat} (h : DivInv x q y (k + 1) r) (hk : k < x.length) (hx : Small x) :
    DivInv x (q.set k ((r * 1000000000 + x.getD k 0) / y)) y k ((r * 1000000000 + x.getD k 0) % y) := by
  have h1 := hx.getD k; have h2 := h.lt; have h3 := h.eq
  have hkq : k < q.length := by rw [h.len]; exact hk
  have hd := Nat.div_add_mod (r * 1000000000 + x.getD k 0) y
  refine ⟨by simp [h.len], h.small.set _ _ (div_bound h2 h1), Nat.mod_lt _ (by omega), ?_⟩
  rw [val_drop _ _ (by simpa using hkq), val_drop x k hk, List.drop_set_of_lt (by omega)]
  have e : (q.set k ((r * 1000000000 + x.getD k 0) / y)).getD k 0 = (r * 1000000000 + x.getD k 0) / y := by
    rw [getD_lt _ _ (by simpa using hkq), List.getElem_set_self]
  rw [e]
  generalize (r * 1000000000 + x.getD k 0) / y = u at *
  generalize (r * 1000000000 + x.getD k 0) % y = v at *
  generalize x.getD k 0 = a at *
  generalize val (q.drop (k + 1)) = Q at *
  generalize val (x.drop (k + 1)) = X at *
  subst h3
  grind

theorem DivInv.done {x q : List Nat} {y r : Nat} (h : DivInv x q y 0 r) : val q = val x / y ∧ r = val x % y := by
  have h3 := h.eq; have h2 := h.lt
  simp only [List.drop_zero] at h3
  rw [← h3]
  constructor
  · rw [Nat.mul_comm, Nat.mul_add_div (by omega), Nat.div_eq_of_lt h2]; omega
  · rw [Nat.mul_comm, Nat.mul_add_mod, Nat.mod_eq_of_lt h2]

end Go.Proofs.YtipnnmbjkpidoaaGreatDoor

/-
  Plain mathematics of scaling and of adding back.
-/
namespace Go.Proofs.YtipnnmbjkpidoaaGreatDoor

structure ScaleInv (x s : List Nat) (t i c : Nat) : Prop where
  len : s.length = x.length + 1
  small : Small s
  carry : c < 1000000000
  eq : val (s.take i) + c * 1000000000 ^ i = val (x.take i) * t

theorem ScaleInv.start (x : List Nat) (t : Nat) : ScaleInv x (List.replicate (x.length + 1) 0) t 0 0 :=
  ⟨by simp, Small.replicate _, by omega, by simp [val]⟩

theorem ScaleInv.step {x s : List Nat} {t i c : Nat} (h : ScaleInv x s t i c) (hi : i < x.length) (ht : t < 1000000000) (hx : Small x) :
    ScaleInv x (s.set i ((c + x.getD i 0 * t) % 1000000000)) t (i + 1) ((c + x.getD i 0 * t) / 1000000000) := by
  have h1 := hx.getD i; have h3 := h.carry; have h4 := h.eq
  have hlt := mul_lt (x.getD i 0) t c 0 h1 ht h3 (by decide)
  have hd := Nat.div_add_mod (c + x.getD i 0 * t) 1000000000
  refine ⟨by simp [h.len], h.small.set _ _ (Nat.mod_lt _ (by decide)), Nat.div_lt_of_lt_mul hlt, ?_⟩
  rw [val_set_take _ _ _ (by rw [h.len]; omega), val_take_getD, Nat.pow_succ]
  generalize (c + x.getD i 0 * t) / 1000000000 = u at *
  have e7 : (1000000000 * u + (c + x.getD i 0 * t) % 1000000000) * 1000000000 ^ i = (c + x.getD i 0 * t) * 1000000000 ^ i := by rw [hd]
  generalize (c + x.getD i 0 * t) % 1000000000 = v at *
  clear hd hlt h1 h3 hi ht hx h
  generalize 1000000000 ^ i = P at *
  generalize x.getD i 0 = a at *
  generalize val (List.take i s) = A at *
  generalize val (List.take i x) = Z at *
  grind

theorem ScaleInv.done {x s : List Nat} {t c : Nat} (h : ScaleInv x s t x.length c) :
    Small (s.set x.length c) ∧ (s.set x.length c).length = x.length + 1 ∧ val (s.set x.length c) = val x * t := by
  refine ⟨h.small.set _ _ h.carry, by simp [h.len], ?_⟩
  have e : (s.set x.length c).take (x.length + 1) = s.set x.length c := List.take_of_length_le (by simp [h.len])
  rw [← e, val_set_take _ _ _ (by rw [h.len]; omega), h.eq, List.take_of_length_le (Nat.le_refl _)]

/-- Adding y to the lowest limbs of x. -/
structure BackInv (x0 x y : List Nat) (i c : Nat) : Prop where
  len : x.length = x0.length
  small : Small x
  rest : x.drop i = x0.drop i
  carry : c ≤ 1
  eq : val (x.take i) + c * 1000000000 ^ i = val (x0.take i) + val (y.take i)

theorem BackInv.start {x0 y : List Nat} (hs : Small x0) : BackInv x0 x0 y 0 0 := ⟨rfl, hs, rfl, by omega, by simp [val]⟩

theorem BackInv.step {x0 x y : List Nat} {i c : Nat} (h : BackInv x0 x y i c) (hi : i < x0.length) (hy : Small y) :
    BackInv x0 (x.set i ((y.getD i 0 + (x.getD i 0 + c)) % 1000000000)) y (i + 1) ((y.getD i 0 + (x.getD i 0 + c)) / 1000000000) := by
  have h1 := h.small.getD i; have h2 := hy.getD i; have h3 := h.carry; have h4 := h.eq
  have e0 := getD_of_drop h.rest
  refine ⟨by simp [h.len], h.small.set _ _ (by omega), drop_set_succ h.rest, by omega, ?_⟩
  rw [val_set_take _ _ _ (by rw [h.len]; exact hi), val_take_getD x0, val_take_getD y, ← e0, Nat.pow_succ]
  have hd := Nat.div_add_mod (y.getD i 0 + (x.getD i 0 + c)) 1000000000
  generalize (y.getD i 0 + (x.getD i 0 + c)) / 1000000000 = u at *
  have e7 : (1000000000 * u + (y.getD i 0 + (x.getD i 0 + c)) % 1000000000) * 1000000000 ^ i = (y.getD i 0 + (x.getD i 0 + c)) * 1000000000 ^ i := by rw [hd]
  generalize (y.getD i 0 + (x.getD i 0 + c)) % 1000000000 = v at *
  clear hd h1 h2 h3 hi hy h e0
  generalize 1000000000 ^ i = P at *
  generalize x.getD i 0 = a at *
  generalize y.getD i 0 = b at *
  grind

end Go.Proofs.YtipnnmbjkpidoaaGreatDoor

namespace Go.Proofs.YtipnnmbjkpidoaaGreatDoor
open Go Go.Proofs Go.RowKit

theorem prod_bound' (t y : Nat) (ht : t < 1000000000) (hy : y < 1000000000) : 0 ≤ (t : Int) * (y : Int) ∧ (t : Int) * (y : Int) ≤ 999999998000000001 := by
  have h : t * y ≤ 999999999 * 999999999 := Nat.mul_le_mul (by omega) (by omega)
  have e : (t : Int) * (y : Int) = ((t * y : Nat) : Int) := by rw [Int.natCast_mul]
  rw [e]; omega

set_option maxHeartbeats 4000000 in
theorem mul_any (x y : Nat) (vx vy : Value) (w : World) (hx : NumAt w vx x) (hy : NumAt w vy y) (hbx : (limbs x).length ≤ 1000000000000) (hby : (limbs y).length ≤ 1000000000000) :
    Calls Tryz.prog 132 #[vx, vy] w (RetN (x * y) w) := by
  obtain ⟨i0, hi, hz0, hz1, hz2⟩ := info_parts infoU32
  obtain ⟨ao, c, rfl, hx⟩ := hx
  obtain ⟨ap, d, rfl, hy⟩ := hy
  have hsx := limbs_small x; have hsy := limbs_small y
  have e1 := val_limbs x; have e2 := val_limbs y
  generalize limbs x = X at *
  generalize limbs y = Y at *
  have HX := Lib.hid hx; have HY := Lib.hid hy
  generalize hn : X.length = n at *
  generalize hm : Y.length = m at *
  have HN := Lib.hid hn; have HM := Lib.hid hm; have HE1 := Lib.hid e1; have HE2 := Lib.hid e2; have HSX := Lib.hid hsx; have HSY := Lib.hid hsy
  clear hn hm e1 e2 hx hy hsx hsy
  go_enter Tryz.func132, Tryz.ntmps132
  go_wp2_with (at_make; refine wpList_make_full _ rfl _ _ 77 rfl (w.heap.size + 3) 123 i0 (.int .u32 0) 1 Tryz.underlying77 hi hz0 hz1 .i64 .i64 _ _ (n + m) rfl rfl ?a1 ?a2 ?a3 ?a4 ?a5 ?_)
  case a1 => simp
  case a2 => simp
  case a3 => rw [hz2]; omega
  case a4 => unfold maxLen; omega
  case a5 => simp
  intro W0 hown hg
  have A := (three_new w (Value.slice ao n c) (Value.slice ap m d) (Value.slice none 0 0) 79 79 79).boxes
  have hb0 := blk_of_made hown
  clear hown
  generalize (((w.alloc (Obj.cells #[Value.slice ao n c] 79)).alloc (Obj.cells #[Value.slice ap m d] 79)).alloc (Obj.cells #[Value.slice none 0 0] 79)) = V0 at A hg
  generalize hgg : w.heap.size + 1 + 1 + 1 = g at hb0 ⊢
  have HG := Lib.hid hgg; clear hgg
  have B := A.mono (below_of_grown hg)
  clear A hg
  have k1 := B.c1; have k2 := B.c2
  go_wp2_with fail
  have HB0 := Lib.hid hb0; clear hb0 k1 k2
  go_loopw [22] (fun iv wr => ∃ (i : Nat) (P : List Nat), i ≤ n ∧ iv = .int .i64 i ∧ Blk wr g P ∧ Small P ∧ P.length = n + m ∧ val (P.take (i + m)) = val (X.take i) * val Y ∧ W0.grownBy wr (some g)) (fun iv _ => n - (intOf iv).toNat)
  case atStart =>
    refine ⟨0, _, Nat.zero_le _, rfl, HB0.out, Small.replicate _, by simp, ?_, grown_refl _ _⟩
    rw [List.take_replicate, val_replicate]; simp [val]
  case round =>
    obtain ⟨wo, rfl⟩ : ∃ wo : World, wo = wr := ⟨_, rfl⟩
    obtain ⟨i, P, hi, rfl, hbl, hsm, hln, hva, hgr⟩ := hrel
    have B1 := B.grown hgr (by have := HG.out; omega)
    have HBL := Lib.hid hbl; have HSM := Lib.hid hsm; have HLN := Lib.hid hln; have HVA := Lib.hid hva; have HGR := Lib.hid hgr
    clear hbl hsm hln hva hgr
    have k2 := B1.c2
    by_cases hin : i < n
    · obtain ⟨bx, ox, rfl⟩ := HX.out.addr (fun h => by have := HN.out; rw [h] at this; simp at this; omega)
      have cx := (HX.out.mono B1.below).get i (by rw [HN.out]; exact hin)
      have ha := HSX.out.getD i
      generalize hae : X.getD i 0 = a at *
      have HAE := Lib.hid hae; clear hae
      go_wp2_with fail
      go_loopw [8, 30] (fun cv jv wr => ∃ (j q : Nat) (S : List Nat), j ≤ m ∧ jv = .int .i64 j ∧ cv = .int .u64 q ∧ Blk wr g S ∧ MulInv P S Y a i j q ∧ wo.grownBy wr (some g)) (fun _ jv _ => m - (intOf jv).toNat)
      case atStart => exact ⟨0, 0, P, Nat.zero_le _, rfl, rfl, HBL.out, MulInv.start HSM.out, grown_refl _ _⟩
      case round =>
        clear cx k2
        obtain ⟨j, q, S, hj, rfl, rfl, hbl, hinv, hgr⟩ := hrel
        have B2 := B1.grown hgr (by have := HG.out; omega)
        have hq := hinv.carry
        have HBS := Lib.hid hbl; have HI := Lib.hid hinv; have HGS := Lib.hid hgr
        clear hbl hinv hgr
        by_cases hjm : j < m
        · obtain ⟨by_, oy, rfl⟩ := HY.out.addr (fun h => by have := HM.out; rw [h] at this; simp at this; omega)
          have cy := (HY.out.mono B2.below).get j (by rw [HM.out]; exact hjm)
          have hSl : i + j < S.length := by rw [HI.out.len, HLN.out]; omega
          have cs := HBS.out.cell (i + j) hSl
          have fs := HBS.out.frozen (i + j)
          have hstep := HI.out.step (by rw [HLN.out]; omega) ha HSY.out
          have hset := HBS.out.set (i + j) ((q + (a * Y.getD j 0 + S.getD (i + j) 0)) % 1000000000)
          have hy1 := HSY.out.getD j
          have hs1 := HI.out.small.getD (i + j)
          generalize Y.getD j 0 = b at *
          generalize S.getD (i + j) 0 = s at *
          obtain ⟨hp1, hp2⟩ := prod_bound' a b ha hy1
          have ec : ((q + (a * b + s) : Nat) : Int) = (q : Int) + ((a : Int) * (b : Int) + (s : Int)) := by rw [Int.natCast_add, Int.natCast_add, Int.natCast_mul]
          have ev : (((q + (a * b + s)) % 1000000000 : Nat) : Int) = ((q : Int) + ((a : Int) * (b : Int) + (s : Int))) % 1000000000 := by omega
          have eq : (((q + (a * b + s)) / 1000000000 : Nat) : Int) = ((q : Int) + ((a : Int) * (b : Int) + (s : Int))) / 1000000000 := by omega
          rw [ev] at hset
          have HST := Lib.hid hstep; have HSE := Lib.hid hset; have EQ := Lib.hid eq
          clear hstep hset ec ev eq hSl
          go_wp2
          go_roundw
          case rel => exact ⟨j + 1, _, _, by omega, by go_num, by rw [← EQ.out], HSE.out, HST.out, grown_set HGS.out _ _⟩
          case measure => simp [intOf]; omega
        · have hj1 : j = m := by omega
          subst hj1
          have k3 := B2.c2
          have hSl : i + j < S.length := by rw [HI.out.len, HLN.out]; omega
          have cs := HBS.out.cell (i + j) hSl
          have fs := HBS.out.frozen (i + j)
          have hset := HBS.out.set (i + j) q
          have hI := HI.out
          rw [← HAE.out] at hI
          have hd := hI.done HM.out (by rw [HLN.out]; omega) HVA.out
          rw [HLN.out] at hd
          have HSE := Lib.hid hset; have HD := Lib.hid hd
          generalize S.getD (i + j) 0 = s at *
          clear hset hd hI hSl
          go_wp2
          go_roundw
          case rel => exact ⟨i + 1, _, by omega, by go_num, HSE.out, HD.out.1, HD.out.2.1, HD.out.2.2, grown_set (grown_trans HGR.out HGS.out) _ _⟩
          case measure => simp [intOf]; omega
    · have hi1 : i = n := by omega
      subst hi1
      have k5 := B1.c3; have g5 := B1.f3
      have hval : val P = x * y := by
        have h1 := HVA.out
        rw [List.take_of_length_le (by rw [HLN.out]; exact Nat.le_refl _), List.take_of_length_le (by rw [HN.out]; exact Nat.le_refl _), HE1.out, HE2.out] at h1
        exact h1
      have HV := Lib.hid hval; clear hval k2
      go_wp2_with fail
      refine (trimmed_at P (i + m) _ _ _ HLN.out (HBL.out.row (by rw [HLN.out]; exact Nat.le_refl _) (by omega)) HSM.out).mono ?_
      rintro e w4 ⟨v, rfl, hv, hb4⟩
      obtain ⟨ao', c', rfl, hr4⟩ := hv
      have B4 := B1.mono hb4
      have k7 := B4.c3; have g7 := B4.f3
      clear k5 g5
      go_wp2
      refine bodyPost_ret (v := .agg #[.slice ao' (limbs (val P)).length c']) (by simp [results, Tryz.results132, go_sem, cellSet k7]) rfl ?_
      rw [HV.out] at hr4 ⊢
      exact ⟨_, rfl, ⟨ao', c', rfl, hr4.box k7 _⟩, B4.below.setCell (p := ⟨w.heap.size + 1 + 1, 0, none⟩) (by simp; omega) _⟩
end Go.Proofs.YtipnnmbjkpidoaaGreatDoor
