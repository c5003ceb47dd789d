import Derived.Test.YtmnbjkbkjmgmkaaGreatDoorCut4
import Derived.Test.YtmnbjkbkjmgmkaaGreatDoorCut7
import Derived.Test.YtmnbjkbkjmgmkaaGreatDoorCut5

set_option linter.unusedVariables false
set_option linter.unusedSimpArgs false
set_option linter.unusedVariables false
namespace Go.Proofs.YtmnbjkbkjmgmkaaGreatDoor
open Go Go.Proofs Go.RowKit
theorem prod_bound' (t y : Nat) (ht : t < 1000000000) (hy : y < 1000000000) : 0 ≤ (t : Int) * (y : Int) ∧ (t : Int) * (y : Int) ≤ 999999998000000001 := by
  have h : t * y ≤ 999999999 * 999999999 := Nat.mul_le_mul (by omega) (by omega)
  have e : (t : Int) * (y : Int) = ((t * y : Nat) : Int) := by rw [Int.natCast_mul]
  rw [e]; omega
set_option maxHeartbeats 4000000 in
theorem mul_any (x y : Nat) (vx vy : Value) (w : World) (hx : NumAt w vx x) (hy : NumAt w vy y) (hbx : (limbs x).length ≤ 1000000000000) (hby : (limbs y).length ≤ 1000000000000) :
    Calls Tryz.prog 68 #[vx, vy] w (RetN (x * y) w) := by
  obtain ⟨i0, hi, hz0, hz1, hz2⟩ := info_parts infoU32
  obtain ⟨ao, c, rfl, hx⟩ := hx
  obtain ⟨ap, d, rfl, hy⟩ := hy
  have hsx := limbs_small x; have hsy := limbs_small y
  have e1 := val_limbs x; have e2 := val_limbs y
  generalize limbs x = X at *
  generalize limbs y = Y at *
  have HX := Lib.hid hx; have HY := Lib.hid hy
  generalize hn : X.length = n at *
  generalize hm : Y.length = m at *
  have HN := Lib.hid hn; have HM := Lib.hid hm; have HE1 := Lib.hid e1; have HE2 := Lib.hid e2; have HSX := Lib.hid hsx; have HSY := Lib.hid hsy
  clear hn hm e1 e2 hx hy hsx hsy
  go_enter Tryz.func68, Tryz.ntmps68
  go_wp2_with (at_make; refine wpList_make_full _ rfl _ _ 69 rfl (w.heap.size + 3) 97 i0 (.int .u32 0) 1 Tryz.underlying69 hi hz0 hz1 .i64 .i64 _ _ (n + m) rfl rfl ?a1 ?a2 ?a3 ?a4 ?a5 ?_)
  case a1 => simp
  case a2 => simp
  case a3 => rw [hz2]; omega
  case a4 => unfold maxLen; omega
  case a5 => simp
  intro W0 hown hg
  have A := (three_new w (Value.slice ao n c) (Value.slice ap m d) (Value.slice none 0 0) 71 71 71).boxes
  have hb0 := blk_of_made hown
  clear hown
  generalize (((w.alloc (Obj.cells #[Value.slice ao n c] 71)).alloc (Obj.cells #[Value.slice ap m d] 71)).alloc (Obj.cells #[Value.slice none 0 0] 71)) = V0 at A hg
  generalize hgg : w.heap.size + 1 + 1 + 1 = g at hb0 ⊢
  have HG := Lib.hid hgg; clear hgg
  have B := A.mono (below_of_grown hg)
  clear A hg
  have k1 := B.c1; have k2 := B.c2
  go_wp2_with fail
  have HB0 := Lib.hid hb0; clear hb0 k1 k2
  go_loopw [22] (fun iv wr => ∃ (i : Nat) (P : List Nat), i ≤ n ∧ iv = .int .i64 i ∧ Blk wr g P ∧ Small P ∧ P.length = n + m ∧ val (P.take (i + m)) = val (X.take i) * val Y ∧ W0.grownBy wr (some g)) (fun iv _ => n - (intOf iv).toNat)
  case atStart =>
    refine ⟨0, _, Nat.zero_le _, rfl, HB0.out, Small.replicate _, by simp, ?_, grown_refl _ _⟩
    rw [List.take_replicate, val_replicate]; simp [val]
  case round =>
    obtain ⟨wo, rfl⟩ : ∃ wo : World, wo = wr := ⟨_, rfl⟩
    obtain ⟨i, P, hi, rfl, hbl, hsm, hln, hva, hgr⟩ := hrel
    have B1 := B.grown hgr (by have := HG.out; omega)
    have HBL := Lib.hid hbl; have HSM := Lib.hid hsm; have HLN := Lib.hid hln; have HVA := Lib.hid hva; have HGR := Lib.hid hgr
    clear hbl hsm hln hva hgr
    have k2 := B1.c2
    by_cases hin : i < n
    · obtain ⟨bx, ox, rfl⟩ := HX.out.addr (fun h => by have := HN.out; rw [h] at this; simp at this; omega)
      have cx := (HX.out.mono B1.below).get i (by rw [HN.out]; exact hin)
      have ha := HSX.out.getD i
      generalize hae : X.getD i 0 = a at *
      have HAE := Lib.hid hae; clear hae
      go_wp2_with fail
      go_loopw [8, 30] (fun cv jv wr => ∃ (j q : Nat) (S : List Nat), j ≤ m ∧ jv = .int .i64 j ∧ cv = .int .u64 q ∧ Blk wr g S ∧ MulInv P S Y a i j q ∧ wo.grownBy wr (some g)) (fun _ jv _ => m - (intOf jv).toNat)
      case atStart => exact ⟨0, 0, P, Nat.zero_le _, rfl, rfl, HBL.out, MulInv.start HSM.out, grown_refl _ _⟩
      case round =>
        clear cx k2
        obtain ⟨j, q, S, hj, rfl, rfl, hbl, hinv, hgr⟩ := hrel
        have B2 := B1.grown hgr (by have := HG.out; omega)
        have hq := hinv.carry
        have HBS := Lib.hid hbl; have HI := Lib.hid hinv; have HGS := Lib.hid hgr
        clear hbl hinv hgr
        by_cases hjm : j < m
        · obtain ⟨by_, oy, rfl⟩ := HY.out.addr (fun h => by have := HM.out; rw [h] at this; simp at this; omega)
          have cy := (HY.out.mono B2.below).get j (by rw [HM.out]; exact hjm)
          have hSl : i + j < S.length := by rw [HI.out.len, HLN.out]; omega
          have cs := HBS.out.cell (i + j) hSl
          have fs := HBS.out.frozen (i + j)
          have hstep := HI.out.step (by rw [HLN.out]; omega) ha HSY.out
          have hset := HBS.out.set (i + j) ((q + (a * Y.getD j 0 + S.getD (i + j) 0)) % 1000000000)
          have hy1 := HSY.out.getD j
          have hs1 := HI.out.small.getD (i + j)
          generalize Y.getD j 0 = b at *
          generalize S.getD (i + j) 0 = s at *
          obtain ⟨hp1, hp2⟩ := prod_bound' a b ha hy1
          have ec : ((q + (a * b + s) : Nat) : Int) = (q : Int) + ((a : Int) * (b : Int) + (s : Int)) := by rw [Int.natCast_add, Int.natCast_add, Int.natCast_mul]
          have ev : (((q + (a * b + s)) % 1000000000 : Nat) : Int) = ((q : Int) + ((a : Int) * (b : Int) + (s : Int))) % 1000000000 := by omega
          have eq : (((q + (a * b + s)) / 1000000000 : Nat) : Int) = ((q : Int) + ((a : Int) * (b : Int) + (s : Int))) / 1000000000 := by omega
          rw [ev] at hset
          have HST := Lib.hid hstep; have HSE := Lib.hid hset; have EQ := Lib.hid eq
          clear hstep hset ec ev eq hSl
          go_wp2
          go_roundw
          case rel => exact ⟨j + 1, _, _, by omega, by go_num, by rw [← EQ.out], HSE.out, HST.out, grown_set HGS.out _ _⟩
          case measure => simp [intOf]; omega
        · have hj1 : j = m := by omega
          subst hj1
          have k3 := B2.c2
          have hSl : i + j < S.length := by rw [HI.out.len, HLN.out]; omega
          have cs := HBS.out.cell (i + j) hSl
          have fs := HBS.out.frozen (i + j)
          have hset := HBS.out.set (i + j) q
          have hI := HI.out
          rw [← HAE.out] at hI
          have hd := hI.done HM.out (by rw [HLN.out]; omega) HVA.out
          rw [HLN.out] at hd
          have HSE := Lib.hid hset; have HD := Lib.hid hd
          generalize S.getD (i + j) 0 = s at *
          clear hset hd hI hSl
          go_wp2
          go_roundw
          case rel => exact ⟨i + 1, _, by omega, by go_num, HSE.out, HD.out.1, HD.out.2.1, HD.out.2.2, grown_set (grown_trans HGR.out HGS.out) _ _⟩
          case measure => simp [intOf]; omega
    · have hi1 : i = n := by omega
      subst hi1
      have k5 := B1.c3; have g5 := B1.f3
      have hval : val P = x * y := by
        have h1 := HVA.out
        rw [List.take_of_length_le (by rw [HLN.out]; exact Nat.le_refl _), List.take_of_length_le (by rw [HN.out]; exact Nat.le_refl _), HE1.out, HE2.out] at h1
        exact h1
      have HV := Lib.hid hval; clear hval k2
      go_wp2_with fail
      refine (trimmed_at P (i + m) _ _ _ HLN.out (HBL.out.row (by rw [HLN.out]; exact Nat.le_refl _) (by omega)) HSM.out).mono ?_
      rintro e w4 ⟨v, rfl, hv, hb4⟩
      obtain ⟨ao', c', rfl, hr4⟩ := hv
      have B4 := B1.mono hb4
      have k7 := B4.c3; have g7 := B4.f3
      clear k5 g5
      go_wp2
      refine bodyPost_ret (v := .agg #[.slice ao' (limbs (val P)).length c']) (by simp [results, Tryz.results68, go_sem, cellSet k7]) rfl ?_
      rw [HV.out] at hr4 ⊢
      exact ⟨_, rfl, ⟨ao', c', rfl, hr4.box k7 _⟩, B4.below.setCell (p := ⟨w.heap.size + 1 + 1, 0, none⟩) (by simp; omega) _⟩
def Scaled (x t n : Nat) (w : World) (e : Ending) (w' : World) : Prop :=
  ∃ g Q, e = .returned (.slice (some ⟨g, 0, none⟩) (n + 1) (n + 1)) ∧ w.heap.size ≤ g ∧ Blk w' g Q ∧ Small Q ∧ Q.length = n + 1 ∧ val Q = x * t ∧ Below w.heap.size w w'
set_option maxHeartbeats 2000000 in
theorem scaled_any (ao : Option Addr) (c n : Nat) (X : List Nat) (t : Nat) (w : World) (hx : RowAt w ao c X) (hX : Small X) (hn : X.length = n) (ht : t < 1000000000) (hbig : n ≤ 1000000000000) :
    Calls Tryz.prog 111 #[.slice ao n c, .int .u32 t] w (Scaled (val X) t n w) := by
  obtain ⟨i0, hi, hz0, hz1, hz2⟩ := info_parts infoU32
  have HX := Lib.hid hx; have HSX := Lib.hid hX; have HN := Lib.hid hn
  clear hx hX hn
  go_enter Tryz.func111, Tryz.ntmps111
  go_wp2_with (at_make; refine wpList_make_full _ rfl _ _ 69 rfl w.heap.size 97 i0 (.int .u32 0) 1 Tryz.underlying69 hi hz0 hz1 .i64 .i64 _ _ (n + 1) rfl rfl ?a1 ?a2 ?a3 ?a4 ?a5 ?_)
  case a1 => simp
  case a2 => simp
  case a3 => rw [hz2]; omega
  case a4 => unfold maxLen; omega
  case a5 => exact Nat.le_refl _
  intro W0 hown hg
  have hb0 := blk_of_made hown
  clear hown
  generalize hgg : w.heap.size = g at hb0 ⊢
  have HG := Lib.hid hgg; clear hgg
  have hB := below_of_grown hg
  clear hg
  go_wp2_with fail
  have HB0 := Lib.hid hb0; have HB := Lib.hid hB; clear hb0 hB
  go_loopw [6, 15] (fun cv iv wr => ∃ (i q : Nat) (S : List Nat), i ≤ n ∧ iv = .int .i64 i ∧ cv = .int .u64 q ∧ Blk wr g S ∧ ScaleInv X S t i q ∧ W0.grownBy wr (some g)) (fun _ iv _ => n - (intOf iv).toNat)
  case atStart => exact ⟨0, 0, _, Nat.zero_le _, rfl, rfl, HB0.out, by rw [← HN.out]; exact ScaleInv.start X t, grown_refl _ _⟩
  case round =>
    obtain ⟨i, q, S, hi, rfl, rfl, hbl, hinv, hgr⟩ := hrel
    have hq := hinv.carry
    have HBL := Lib.hid hbl; have HI := Lib.hid hinv; have HGR := Lib.hid hgr
    clear hbl hinv hgr
    by_cases hin : i < n
    · obtain ⟨bx, ox, rfl⟩ := HX.out.addr (fun h => by have := HN.out; rw [h] at this; simp at this; omega)
      have hbw : Below w.heap.size w wr := below_grown HB.out HGR.out (by have := HG.out; omega)
      have cx := (HX.out.mono hbw).get i (by rw [HN.out]; exact hin)
      have cs := HBL.out.cell i (by rw [HI.out.len, HN.out]; omega)
      have fs := HBL.out.frozen i
      have hstep := HI.out.step (by rw [HN.out]; exact hin) ht HSX.out
      have hset := HBL.out.set i ((q + X.getD i 0 * t) % 1000000000)
      have ha := HSX.out.getD i
      generalize X.getD i 0 = a at *
      generalize S.getD i 0 = s at *
      obtain ⟨hp1, hp2⟩ := prod_bound' a t ha ht
      have ec : ((q + a * t : Nat) : Int) = (q : Int) + (a : Int) * (t : Int) := by rw [Int.natCast_add, Int.natCast_mul]
      have ev : (((q + a * t) % 1000000000 : Nat) : Int) = ((q : Int) + (a : Int) * (t : Int)) % 1000000000 := by omega
      have eq : (((q + a * t) / 1000000000 : Nat) : Int) = ((q : Int) + (a : Int) * (t : Int)) / 1000000000 := by omega
      rw [ev] at hset
      have HST := Lib.hid hstep; have HSE := Lib.hid hset; have EQ := Lib.hid eq
      clear hstep hset ec ev eq hbw
      go_wp2
      go_roundw
      case rel => exact ⟨i + 1, _, _, by omega, by go_num, by rw [← EQ.out], HSE.out, HST.out, grown_set HGR.out _ _⟩
      case measure => simp [intOf]; omega
    · have hi1 : i = n := by omega
      subst hi1
      have cs := HBL.out.cell i (by rw [HI.out.len, HN.out]; omega)
      have fs := HBL.out.frozen i
      have hset := HBL.out.set i q
      have hd : Small (S.set i q) ∧ (S.set i q).length = i + 1 ∧ val (S.set i q) = val X * t := by
        have h1 := HI.out
        have e := HN.out
        subst e
        exact h1.done
      generalize S.getD i 0 = s at *
      have HSE := Lib.hid hset; have HD := Lib.hid hd
      clear hset hd
      go_wp2
      go_ret
      exact ⟨g, _, rfl, by rw [HG.out]; exact Nat.le_refl _, HSE.out, HD.out.1, HD.out.2.1, HD.out.2.2, below_grown HB.out (grown_set HGR.out _ _) (by have := HG.out; omega)⟩
set_option maxHeartbeats 2000000 in
theorem addBack_any (b c d n m : Nat) (ap : Option Addr) (A X Y C : List Nat) (w : World) (hb : Blk w b (A ++ X ++ C)) (hX : Small X) (hy : RowAt w ap d Y) (hY : Small Y)
    (hyb : ∀ b' o, ap = some ⟨b', o, none⟩ → Y ≠ [] → b' ≠ b) (hn : X.length = n) (hm : Y.length = m) (hmn : m ≤ n) (hnb : n ≤ 1000000000000) :
    Calls Tryz.prog 130 #[.slice (some ⟨b, A.length, none⟩) n c, .slice ap m d] w fun e w' =>
      ∃ q X', e = .returned (.tuple #[]) ∧ Blk w' b (A ++ X' ++ C) ∧ BackInv X X' Y m q ∧ w.grownBy w' (some b) := by
  have HB := Lib.hid hb; have HX := Lib.hid hX; have HYR := Lib.hid hy; have HY := Lib.hid hY; have HYB := Lib.hid hyb; have HN := Lib.hid hn; have HM := Lib.hid hm; have HMN := Lib.hid hmn
  clear hb hX hy hY hyb hn hm hmn
  generalize ho : A.length = o
  have HO := Lib.hid ho; clear ho
  go_enter Tryz.func130, Tryz.ntmps130
  go_wp2_with fail
  go_loopw [4, 9] (fun cv iv wr => ∃ (i q : Nat) (S : List Nat), i ≤ m ∧ iv = .int .i64 i ∧ cv = .int .u32 q ∧ Blk wr b (A ++ S ++ C) ∧ BackInv X S Y i q ∧ w.grownBy wr (some b)) (fun _ iv _ => m - (intOf iv).toNat)
  case atStart => exact ⟨0, 0, X, Nat.zero_le _, rfl, rfl, HB.out, BackInv.start HX.out, grown_refl _ _⟩
  case round =>
    obtain ⟨i, q, S, hi, rfl, rfl, hbl, hinv, hgr⟩ := hrel
    have hq := hinv.carry
    have HBL := Lib.hid hbl; have HI := Lib.hid hinv; have HG := Lib.hid hgr; clear hbl hinv hgr
    by_cases him : i < m
    · have hmn := HMN.out
      have hin : i < S.length := by have := HI.out.len; have := HN.out; omega
      have hYne : Y ≠ [] := fun h => by have := HM.out; rw [h] at this; simp at this; omega
      obtain ⟨b', o', rfl⟩ := HYR.out.addr hYne
      have hne := HYB.out b' o' rfl hYne
      have cy : wr.cell? ⟨b', o' + i, none⟩ = some (.int .u32 (Y.getD i 0 : Nat)) := gcell HG.out (HYR.out.get i (by rw [HM.out]; exact him)) (by simp; exact hne)
      have cx : wr.cell? ⟨b, o + i, none⟩ = some (.int .u32 (S.getD i 0 : Nat)) := by rw [← HO.out]; have := HBL.out.cell (A.length + i) (by simp; omega); rwa [getD_mid _ _ _ _ hin] at this
      have fx : wr.frozen? ⟨b, o + i, none⟩ = false := HBL.out.frozen _
      have hstep := HI.out.step (by have := HI.out.len; omega) HY.out
      have hset : ∀ v, Blk (wr.setCell ⟨b, o + i, none⟩ (.int .u32 ((v : Nat) : Int))) b (A ++ S.set i v ++ C) := fun v => by have := HBL.out.set (A.length + i) v; rw [set_mid _ _ _ _ _ hin, HO.out] at this; exact this
      have hy1 := HY.out.getD i
      have hx1 := HI.out.small.getD i
      generalize Y.getD i 0 = y at *
      generalize S.getD i 0 = a at *
      have h2 := hset ((y + (a + q)) % 1000000000)
      have ev : (((y + (a + q)) % 1000000000 : Nat) : Int) = ((y : Int) + ((a : Int) + (q : Int))) % 1000000000 := by omega
      have eq : (((y + (a + q)) / 1000000000 : Nat) : Int) = ((y : Int) + ((a : Int) + (q : Int))) / 1000000000 := by omega
      rw [ev] at h2
      have H2 := Lib.hid h2; have HST := Lib.hid hstep; have EQ := Lib.hid eq
      have hil : i < n := by omega
      have HHN := Lib.hid hne
      clear hstep hset hne hYne hin hmn h2 ev eq
      go_wp2
      go_roundw
      case rel => exact ⟨i + 1, _, _, by omega, by go_num, by rw [← EQ.out], H2.out, HST.out, grown_set HG.out _ _⟩
      case measure => simp [intOf]; omega
    · have hi0 : i = m := by omega
      subst hi0
      go_wp2
      go_end0
      exact ⟨q, S, rfl, HBL.out, HI.out, HG.out⟩
end Go.Proofs.YtmnbjkbkjmgmkaaGreatDoor

set_option linter.unusedSimpArgs false
set_option linter.unusedVariables false
namespace Go.Proofs.YtmnbjkbkjmgmkaaGreatDoor
structure Heads (x y top next head x2 P : Nat) : Prop where
  pos : 0 < P
  half : 500000000 ≤ top
  topB : top < 1000000000
  nextB : next < 1000000000
  x2B : x2 < 1000000000
  yl : (top * 1000000000 + next) * P ≤ y
  yu : y < (top * 1000000000 + next + 1) * P
  xl : (head * 1000000000 + x2) * P ≤ x
  xu : x < (head * 1000000000 + x2 + 1) * P
  lt : x < y * 1000000000
theorem Heads.ypos {x y top next head x2 P : Nat} (h : Heads x y top next head x2 P) : 0 < y := by
  have h1 := h.yl; have h2 := h.pos; have h3 := h.half
  have : 1 * 1 ≤ (top * 1000000000 + next) * P := Nat.mul_le_mul (by omega) h2
  omega
theorem Heads.head_lt {x y top next head x2 P : Nat} (h : Heads x y top next head x2 P) : head < (top + 1) * 1000000000 := by
  rcases Nat.lt_or_ge head ((top + 1) * 1000000000) with h1 | h1
  · exact h1
  · exfalso
    have a1 := h.xl; have a2 := h.yu; have a3 := h.lt; have a4 := h.nextB
    have b1 : ((top + 1) * 1000000000 * 1000000000) * P ≤ (head * 1000000000 + x2) * P := Nat.mul_le_mul_right _ (Nat.le_trans (Nat.mul_le_mul_right _ h1) (Nat.le_add_right _ _))
    have b2 : (top * 1000000000 + next + 1) * P ≤ ((top + 1) * 1000000000) * P := Nat.mul_le_mul_right _ (by omega)
    have b3 : ((top + 1) * 1000000000 * 1000000000) * P = ((top + 1) * 1000000000) * P * 1000000000 := by grind
    omega
theorem Heads.q_lt {x y top next head x2 P : Nat} (h : Heads x y top next head x2 P) : x / y < 1000000000 :=
  Nat.div_lt_of_lt_mul h.lt
structure GuessInv (x y top head g r : Nat) : Prop where
  eq : g * top + r = head
  ge : x / y ≤ g
  gB : g ≤ 1000000001
  rB : r < 2000000000
theorem head_aux (head top : Nat) (h : head < (top + 1) * 1000000000) (ht : 500000000 ≤ top) : head < top * 1000000002 := by
  rw [Nat.add_mul] at h
  have e : top * 1000000002 = top * 1000000000 + top * 2 := by rw [← Nat.mul_add]
  rw [e]; omega
theorem Heads.start {x y top next head x2 P : Nat} (h : Heads x y top next head x2 P) : GuessInv x y top head (head / top) (head % top) := by
  have ht := h.half
  have hh := h.head_lt
  have htB := h.topB
  refine ⟨by have := Nat.div_add_mod head top; rw [Nat.mul_comm]; exact this, ?_, ?_, by have := Nat.mod_lt head (show 0 < top by omega); omega⟩
  · refine (Nat.le_div_iff_mul_le (by omega)).2 ?_
    have h1 : x / y * y ≤ x := Nat.div_mul_le_self x y
    have h2 := h.yl; have h3 := h.xu; have h4 := h.x2B
    have h5 : x / y * ((top * 1000000000) * P) ≤ x / y * y := Nat.mul_le_mul_left _ (Nat.le_trans (Nat.mul_le_mul_right _ (by omega)) h2)
    have h6 : (head * 1000000000 + x2 + 1) * P ≤ ((head + 1) * 1000000000) * P := Nat.mul_le_mul_right _ (by omega)
    have h7 : x / y * ((top * 1000000000) * P) = (x / y * top) * (1000000000 * P) := by grind
    have h8 : ((head + 1) * 1000000000) * P = (head + 1) * (1000000000 * P) := by grind
    have h9 : (x / y * top) * (1000000000 * P) < (head + 1) * (1000000000 * P) := by omega
    have := Nat.lt_of_mul_lt_mul_right h9
    omega
  · have : head / top < 1000000002 := Nat.div_lt_of_lt_mul (head_aux head top hh ht)
    exact Nat.le_of_lt_succ this
theorem GuessInv.step {x y top next head x2 P g r : Nat} (h : Heads x y top next head x2 P) (k : GuessInv x y top head g r)
    (hr : r < 1000000000) (hc : 1000000000 ≤ g ∨ r * 1000000000 + x2 < g * next) : 0 < g ∧ GuessInv x y top head (g - 1) (r + top) := by
  have hq := h.q_lt
  have htB := h.topB
  have hg : x / y < g := by
    rcases hc with hc | hc
    · omega
    · refine (Nat.div_lt_iff_lt_mul h.ypos).2 ?_
      have h1 := h.yl; have h2 := h.xu; have h3 := k.eq
      have h4 : g * ((top * 1000000000 + next) * P) ≤ g * y := Nat.mul_le_mul_left _ h1
      have h5 : g * ((top * 1000000000 + next) * P) = ((g * top) * 1000000000 + g * next) * P := by grind
      have h6 : (head * 1000000000 + x2 + 1) * P ≤ ((g * top) * 1000000000 + g * next) * P := Nat.mul_le_mul_right _ (by omega)
      omega
  have hg0 : 0 < g := Nat.zero_lt_of_lt hg
  refine ⟨hg0, ⟨?_, Nat.le_sub_one_of_lt hg, by have := k.gB; omega, by omega⟩⟩
  have h3 := k.eq
  obtain ⟨g', rfl⟩ : ∃ g', g = g' + 1 := ⟨g - 1, by omega⟩
  rw [Nat.add_sub_cancel]
  rw [Nat.add_mul] at h3
  omega
theorem GuessInv.done {x y top next head x2 P g r : Nat} (h : Heads x y top next head x2 P) (k : GuessInv x y top head g r)
    (hc : ¬ r < 1000000000 ∨ (¬ 1000000000 ≤ g ∧ ¬ r * 1000000000 + x2 < g * next)) : x / y ≤ g ∧ g ≤ x / y + 1 ∧ g < 1000000000 := by
  have h3 := k.eq; have hh := h.head_lt; have ht := h.half; have htB := h.topB; have hn := h.nextB
  refine ⟨k.ge, ?_⟩
  rcases hc with hc | ⟨hc1, hc2⟩
  · have hgB : g < 1000000000 := by
      rcases Nat.lt_or_ge g 1000000000 with h1 | h1
      · exact h1
      · have : 1000000000 * top ≤ g * top := Nat.mul_le_mul_right _ h1
        omega
    have hle : g ≤ x / y := by
      refine (Nat.le_div_iff_mul_le h.ypos).2 ?_
      have h1 := h.yu; have h2 := h.xl
      have h4 : g * y ≤ g * ((top * 1000000000 + next + 1) * P) := Nat.mul_le_mul_left _ (by omega)
      have h5 : g * ((top * 1000000000 + next + 1) * P) ≤ g * ((top * 1000000000 + 1000000000) * P) := Nat.mul_le_mul_left _ (Nat.mul_le_mul_right _ (by omega))
      have h6 : g * ((top * 1000000000 + 1000000000) * P) = ((g * top) * 1000000000 + g * 1000000000) * P := by grind
      have h7 : ((g * top) * 1000000000 + g * 1000000000) * P ≤ (head * 1000000000 + x2) * P := Nat.mul_le_mul_right _ (by omega)
      omega
    exact ⟨Nat.le_succ_of_le hle, hgB⟩
  · refine ⟨?_, by omega⟩
    rcases Nat.eq_zero_or_pos g with h0 | h0
    · rw [h0]; exact Nat.zero_le _
    obtain ⟨g', rfl⟩ : ∃ g', g = g' + 1 := ⟨g - 1, by omega⟩
    have hle : g' ≤ x / y := by
      refine (Nat.le_div_iff_mul_le h.ypos).2 ?_
      have h1 := h.yu; have h2 := h.xl; have h8 := h.yl
      have h4 : (g' + 1) * y ≤ (g' + 1) * ((top * 1000000000 + next + 1) * P) := Nat.mul_le_mul_left _ (by omega)
      have h5 : (g' + 1) * ((top * 1000000000 + next + 1) * P) = (((g' + 1) * top) * 1000000000 + (g' + 1) * next) * P + (g' + 1) * P := by grind
      have h6 : (((g' + 1) * top) * 1000000000 + (g' + 1) * next) * P ≤ (head * 1000000000 + x2) * P := Nat.mul_le_mul_right _ (by omega)
      have h7 : (g' + 1) * P ≤ (top * 1000000000 + next) * P := Nat.mul_le_mul_right _ (by omega)
      have h9 : (g' + 1) * y = g' * y + y := by grind
      omega
    exact Nat.succ_le_succ hle
theorem heads_of {X Y : List Nat} {m : Nat} (hX : Small X) (hY : Small Y) (hx : X.length = m + 1) (hy : Y.length = m) (hm : 2 ≤ m)
    (ht : 500000000 ≤ Y.getD (m - 1) 0) (hlt : val X < val Y * 1000000000) :
    Heads (val X) (val Y) (Y.getD (m - 1) 0) (Y.getD (m - 2) 0) (X.getD m 0 * 1000000000 + X.getD (m - 1) 0) (X.getD (m - 2) 0) (1000000000 ^ (m - 2)) := by
  obtain ⟨k, rfl⟩ : ∃ k, m = k + 2 := ⟨m - 2, by omega⟩
  have ey : val Y = val (Y.take k) + Y.getD k 0 * 1000000000 ^ k + Y.getD (k + 1) 0 * 1000000000 ^ (k + 1) := by
    have : Y.take (k + 1 + 1) = Y := List.take_of_length_le (by omega)
    rw [← this, val_take_getD, val_take_getD, this]
  have ex : val X = val (X.take k) + X.getD k 0 * 1000000000 ^ k + X.getD (k + 1) 0 * 1000000000 ^ (k + 1) + X.getD (k + 2) 0 * 1000000000 ^ (k + 2) := by
    have : X.take (k + 1 + 1 + 1) = X := List.take_of_length_le (by omega)
    rw [← this, val_take_getD, val_take_getD, val_take_getD, this]
  have h1 := val_lt (hX.take k); have h2 := val_lt (hY.take k)
  rw [List.length_take, Nat.min_eq_left (by omega)] at h1 h2
  have e1 : k + 2 - 1 = k + 1 := by omega
  have e2 : k + 2 - 2 = k := by omega
  rw [e1] at ht ⊢
  rw [e2]
  have a1 : (Y.getD (k + 1) 0 * 1000000000 + Y.getD k 0) * 1000000000 ^ k = Y.getD k 0 * 1000000000 ^ k + Y.getD (k + 1) 0 * 1000000000 ^ (k + 1) := by rw [Nat.pow_succ]; grind
  have a2 : ((X.getD (k + 2) 0 * 1000000000 + X.getD (k + 1) 0) * 1000000000 + X.getD k 0) * 1000000000 ^ k = X.getD k 0 * 1000000000 ^ k + X.getD (k + 1) 0 * 1000000000 ^ (k + 1) + X.getD (k + 2) 0 * 1000000000 ^ (k + 2) := by
    rw [Nat.pow_succ, Nat.pow_succ]; grind
  have a3 : ∀ z P : Nat, (z + 1) * P = z * P + P := fun z P => by grind
  refine ⟨Nat.pow_pos (by decide), ht, hY.getD _, hY.getD _, hX.getD _, ?_, ?_, ?_, ?_, hlt⟩
  · rw [a1, ey]; omega
  · rw [a3, a1, ey]; omega
  · rw [a2, ex]; omega
  · rw [a3, a2, ex]; omega
end Go.Proofs.YtmnbjkbkjmgmkaaGreatDoor

set_option linter.unusedSimpArgs false
set_option linter.unusedVariables false
namespace Go.Proofs.YtmnbjkbkjmgmkaaGreatDoor
open Go Go.Proofs Go.RowKit
def Guessed (q : Nat) (w : World) (e : Ending) (w' : World) : Prop :=
  ∃ g k : Nat, e = .returned (.int .u64 g) ∧ q ≤ g ∧ g ≤ q + 1 ∧ g < 1000000000 ∧ w' = w.drewN k
set_option maxHeartbeats 4000000 in
theorem guess_any (bx ox c b o d m : Nat) (X Y : List Nat) (w : World) (hx : RowAt w (some ⟨bx, ox, none⟩) c X) (hX : Small X) (hy : RowAt w (some ⟨b, o, none⟩) d Y) (hY : Small Y)
    (hn : X.length = m + 1) (hm : Y.length = m) (hm2 : 2 ≤ m) (hmb : m ≤ 1000000000000) (ht : 500000000 ≤ Y.getD (m - 1) 0) (hlt : val X < val Y * 1000000000) :
    Calls Tryz.prog 129 #[.slice (some ⟨bx, ox, none⟩) (m + 1) c, .slice (some ⟨b, o, none⟩) m d] w (Guessed (val X / val Y) w) := by
  have hh := heads_of hX hY hn hm hm2 ht hlt
  have c1 := hx.get m (by omega); have c2 := hx.get (m - 1) (by omega); have c3 := hx.get (m - 2) (by omega)
  have c4 := hy.get (m - 1) (by omega); have c5 := hy.get (m - 2) (by omega)
  have b1 := hX.getD m; have b2 := hX.getD (m - 1); have b3 := hX.getD (m - 2); have b4 := hY.getD (m - 1); have b5 := hY.getD (m - 2)
  generalize X.getD m 0 = x0 at *
  generalize X.getD (m - 1) 0 = x1 at *
  generalize X.getD (m - 2) 0 = x2 at *
  generalize Y.getD (m - 1) 0 = top at *
  generalize Y.getD (m - 2) 0 = next at *
  generalize 1000000000 ^ (m - 2) = P at *
  have hst := hh.start
  have HH := Lib.hid hh; have HS := Lib.hid hst
  have eh : ((x0 * 1000000000 + x1 : Nat) : Int) = (x0 : Int) * 1000000000 + (x1 : Int) := by omega
  have eq : (((x0 * 1000000000 + x1) / top : Nat) : Int) = ((x0 : Int) * 1000000000 + (x1 : Int)) / (top : Int) := by rw [Int.natCast_ediv, eh]
  have er : (((x0 * 1000000000 + x1) % top : Nat) : Int) = ((x0 : Int) * 1000000000 + (x1 : Int)) % (top : Int) := by rw [Int.natCast_emod, eh]
  have EQ := Lib.hid eq; have ER := Lib.hid er
  have ht1 : 1 ≤ top := by omega
  clear hh hst hx hX hy hY hn hm ht hlt eq er eh
  go_enter Tryz.func129, Tryz.ntmps129
  go_wp2_with fail
  go_quiet (fail)
  go_wp2_with fail
  go_quiet (fail)
  go_wp2_with fail
  go_quiet (fail)
  go_wp2_with fail
  clear c1 c2 c4 c5 b1 b2
  go_loop [8, 9] (fun gv rv => ∃ g r : Nat, gv = .int .u64 g ∧ rv = .int .u64 r ∧ GuessInv (val X) (val Y) top (x0 * 1000000000 + x1) g r) (fun gv _ => (intOf gv).toNat)
  case atStart => exact ⟨_, _, by rw [← EQ.out], by rw [← ER.out], HS.out⟩
  case round =>
    obtain ⟨g, r, rfl, rfl, hinv⟩ := hrel
    have hg := hinv.gB; have hrb := hinv.rB
    have hgt : g * next ≤ 1000000001 * 1000000000 := Nat.mul_le_mul hg (by omega)
    have egt : ((g * next : Nat) : Int) = (g : Int) * (next : Int) := Int.natCast_mul ..
    have hp1 : 0 ≤ (g : Int) * (next : Int) := by rw [← egt]; omega
    have hp2 : (g : Int) * (next : Int) ≤ 1000000001000000000 := by rw [← egt]; omega
    have HI := Lib.hid hinv; have EG := Lib.hid egt
    clear hinv hgt egt
    by_cases hr : r < 1000000000
    · have hr' : decide ((r : Int) < 1000000000) = true := by simp; omega
      have HR := Lib.hid hr
      by_cases hgB : 1000000000 ≤ g
      · have hs := HI.out.step HH.out hr (.inl hgB)
        have hg0 := hs.1
        have HS2 := Lib.hid hs.2
        have hg' : decide ((1000000000 : Int) ≤ (g : Int)) = true := by simp; omega
        clear hs hgB hr
        go_wp2
        go_round
        case rel => exact ⟨g - 1, by omega, r + top, by omega, HS2.out⟩
        case measure => simp [intOf]; omega
      · have hg' : decide ((1000000000 : Int) ≤ (g : Int)) = false := by simp; omega
        by_cases hc : (r : Int) * 1000000000 + (x2 : Int) < (g : Int) * (next : Int)
        · have hs := HI.out.step HH.out hr (.inr (by have := EG.out; omega))
          have hg0 := hs.1
          have HS2 := Lib.hid hs.2
          have hc' : decide ((r : Int) * 1000000000 + (x2 : Int) < (g : Int) * (next : Int)) = true := by simp [hc]
          clear hs hgB hr hc
          go_wp2
          go_round
          case rel => exact ⟨g - 1, by omega, r + top, by omega, HS2.out⟩
          case measure => simp [intOf]; omega
        · have hd := HI.out.done HH.out (.inr ⟨hgB, by have := EG.out; omega⟩)
          have HD := Lib.hid hd
          have hc' : decide ((r : Int) * 1000000000 + (x2 : Int) < (g : Int) * (next : Int)) = false := by simp; omega
          clear hd hgB hr hc
          go_wp2
          go_ret
          exact ⟨g, _, rfl, HD.out.1, HD.out.2.1, HD.out.2.2, rfl⟩
    · have hd := HI.out.done HH.out (.inl hr)
      have HD := Lib.hid hd
      have hr' : decide ((r : Int) < 1000000000) = false := by simp; omega
      clear hd hr
      go_wp2
      go_ret
      exact ⟨g, _, rfl, HD.out.1, HD.out.2.1, HD.out.2.2, rfl⟩
end Go.Proofs.YtmnbjkbkjmgmkaaGreatDoor

set_option linter.unusedSimpArgs false
set_option linter.unusedVariables false
namespace Go.Proofs.YtmnbjkbkjmgmkaaGreatDoor
theorem step_right {L xm B q' g X1 y q : Nat} (hq : q = (L + xm * B) / y) (hy : 0 < y) (hyB : y < B) (h : L + q' * B = X1 + g * y) (hg : q ≤ g) (hle : ¬ xm < q') : g = q ∧ X1 = (L + xm * B) % y := by
  obtain ⟨k, rfl⟩ : ∃ k, xm = q' + k := ⟨xm - q', by omega⟩
  have e1 : L + (q' + k) * B = g * y + (X1 + k * B) := by rw [Nat.add_mul]; omega
  have h1 : g * y ≤ L + (q' + k) * B := by omega
  have h2 : g ≤ q := by rw [hq]; exact (Nat.le_div_iff_mul_le hy).2 h1
  have e : g = q := by omega
  refine ⟨e, ?_⟩
  have h3 := Nat.div_add_mod (L + (q' + k) * B) y
  have h4 := Nat.mod_lt (L + (q' + k) * B) hy
  rw [← hq, ← e, Nat.mul_comm] at h3
  rcases Nat.eq_zero_or_pos k with rfl | hk
  · omega
  · have : 1 * B ≤ k * B := Nat.mul_le_mul_right _ hk
    omega
theorem step_lt {L xm B q' g X1 y q : Nat} (hq : q = (L + xm * B) / y) (hy : 0 < y) (h : L + q' * B = X1 + g * y) (hlt : xm < q') (hX1 : X1 < B) : q < g := by
  obtain ⟨k, rfl⟩ : ∃ k, q' = xm + (k + 1) := ⟨q' - xm - 1, by omega⟩
  have e1 : (xm + (k + 1)) * B = xm * B + k * B + B := by grind
  rw [e1] at h
  have h1 : L + xm * B < g * y := by omega
  rw [hq]; exact (Nat.div_lt_iff_lt_mul hy).2 h1
theorem step_back {L xm B q' g X1 X2 c y q : Nat} (hq : q = (L + xm * B) / y) (hy : 0 < y) (hyB : y < B) (h : L + q' * B = X1 + g * y) (hg : g ≤ q + 1) (hlt : xm < q') (hX1 : X1 < B) (hX2 : X2 < B)
    (hb : X2 + c * B = X1 + y) : g = q + 1 ∧ X2 = (L + xm * B) % y := by
  obtain ⟨k, rfl⟩ : ∃ k, q' = xm + (k + 1) := ⟨q' - xm - 1, by omega⟩
  have e1 : (xm + (k + 1)) * B = xm * B + k * B + B := by grind
  rw [e1] at h
  have h1 : L + xm * B < g * y := by omega
  have h2 : q < g := by rw [hq]; exact (Nat.div_lt_iff_lt_mul hy).2 h1
  have e : g = q + 1 := by omega
  refine ⟨e, ?_⟩
  have h3 := Nat.div_add_mod (L + xm * B) y
  have h4 := Nat.mod_lt (L + xm * B) hy
  rw [← hq, Nat.mul_comm] at h3
  rw [e, Nat.add_mul] at h
  generalize (L + xm * B) % y = r at *
  have e2 : X2 + c * B = r + k * B + B := by omega
  -- both remainders modulo B
  rcases Nat.lt_trichotomy c (k + 1) with hc | hc | hc
  · have : (c + 1) * B ≤ (k + 1) * B := Nat.mul_le_mul_right _ hc
    rw [Nat.add_mul, Nat.add_mul] at this
    omega
  · subst hc; rw [Nat.add_mul] at e2; omega
  · have : (k + 1 + 1) * B ≤ c * B := Nat.mul_le_mul_right _ hc
    rw [Nat.add_mul, Nat.add_mul] at this
    omega
end Go.Proofs.YtmnbjkbkjmgmkaaGreatDoor

set_option linter.unusedSimpArgs false
set_option linter.unusedVariables false
namespace Go.Proofs.YtmnbjkbkjmgmkaaGreatDoor
open Go Go.Proofs Go.RowKit
theorem grown_of_drew {w w' : World} {k : Nat} (h : w' = w.drewN k) (row : Option Nat) : w.grownBy w' row := by subst h; exact grown_drew (grown_refl _ _) _
theorem RowAt.grown {w w' : World} {b' o c : Nat} {l : List Nat} {row : Option Nat} (h : RowAt w (some ⟨b', o, none⟩) c l) (hg : w.grownBy w' row) (hne : some b' ≠ row) : RowAt w' (some ⟨b', o, none⟩) c l := by
  obtain ⟨h1, h2, h3⟩ := h
  refine ⟨h1, h2, ?_⟩
  rcases h3 with h3 | ⟨b, off, he, hlt, hc⟩
  · exact .inl h3
  · injection he with he; injection he with e1 e2 _
    subst e1; subst e2
    exact .inr ⟨_, _, rfl, Nat.lt_of_lt_of_le hlt hg.size, fun k hk => gcell hg (hc k hk) hne⟩
def Stepped (w : World) (b : Nat) (A X C : List Nat) (y m : Nat) (e : Ending) (w' : World) : Prop :=
  ∃ X', e = .returned (.int .u32 ((val X / y : Nat) : Int)) ∧ Blk w' b (A ++ X' ++ C) ∧ X'.length = m + 1 ∧ Small X' ∧ val (X'.take m) = val X % y ∧ w.grownBy w' (some b)
set_option maxHeartbeats 4000000 in
theorem divStep_any (b c b' o d m : Nat) (A X Y C : List Nat) (w : World) (hb : Blk w b (A ++ X ++ C)) (hX : Small X) (hy : RowAt w (some ⟨b', o, none⟩) d Y) (hY : Small Y) (hne : b' ≠ b)
    (hn : X.length = m + 1) (hm : Y.length = m) (hm2 : 2 ≤ m) (hmb : m < 1000000000000) (hc : m + 1 ≤ c) (hc2 : c ≤ 9223372036854775807) (ht : 500000000 ≤ Y.getD (m - 1) 0) (hlt : val X < val Y * 1000000000) :
    Calls Tryz.prog 112 #[.slice (some ⟨b, A.length, none⟩) (m + 1) c, .slice (some ⟨b', o, none⟩) m d] w (Stepped w b A X C (val Y) m) := by
  have hxr : RowAt w (some ⟨b, A.length, none⟩) c X := ⟨by omega, hc2, .inr ⟨b, A.length, rfl, hb.lt, fun k hk => by have := hb.cell (A.length + k) (by simp; omega); rwa [getD_mid _ _ _ _ hk] at this⟩⟩
  have G := guess_any b A.length c b' o d m X Y w hxr hX hy hY hn hm hm2 (Nat.le_of_lt hmb) ht hlt
  -- the window and its top limb
  obtain ⟨L, xm, rfl⟩ : ∃ L xm, X = L ++ [xm] := ⟨X.take m, X[m], by rw [← List.take_succ_eq_append_getElem (by omega), List.take_of_length_le (by omega)]⟩
  have hL : L.length = m := by simpa using hn
  have hLs : Small L := fun z hz => hX z (by simp [hz])
  have hxm : xm < 1000000000 := hX xm (by simp)
  have hv : val (L ++ [xm]) = val L + xm * 1000000000 ^ m := by rw [val_append, hL]; simp [val, Nat.mul_comm]
  rw [hv] at G hlt
  have hyp : 0 < val Y := by
    rcases Nat.eq_zero_or_pos (val Y) with h | h
    · rw [h] at hlt; simp at hlt
    · exact h
  have hyB : val Y < 1000000000 ^ m := by have := val_lt hY; rwa [hm] at this
  have hbA : A ++ (L ++ [xm]) ++ C = A ++ L ++ ([xm] ++ C) := by simp
  rw [hbA] at hb
  unfold Stepped
  rw [hv]
  generalize hq : (val L + xm * 1000000000 ^ m) / val Y = q at *
  have HG := Lib.hid G; have HB := Lib.hid hb; have HY := Lib.hid hy; have HSY := Lib.hid hY; have HM := Lib.hid hm; have HL := Lib.hid hL; have HLS := Lib.hid hLs; have HQ := Lib.hid hq; have HYP := Lib.hid hyp; have HYB := Lib.hid hyB; have HC := Lib.hid (And.intro hc hc2)
  have hcm : m ≤ c := by omega
  clear G hb hy hY hm hL hLs hq hyp hyB hX hn ht hlt hv hbA hxr hc hc2
  go_enter Tryz.func112, Tryz.ntmps112
  go_wp2_with fail
  refine HG.out.mono ?_
  rintro e w1 ⟨g, k, rfl, hg1, hg2, hg3, hw1⟩
  have hgr1 := grown_of_drew hw1 (some b)
  have hb1 : Blk w1 b (A ++ L ++ ([xm] ++ C)) := by rw [hw1]; exact HB.out.keep (grown_drew (grown_refl _ none) _) (by simp)
  have hy1 := HY.out.grown hgr1 (by simpa using hne)
  have HB1 := Lib.hid hb1; have HY1 := Lib.hid hy1; have HGR1 := Lib.hid hgr1; have HG1 := Lib.hid hg1; have HG2 := Lib.hid hg2
  clear hw1 hgr1 hb1 hy1 hg1 hg2
  go_wp2_with fail
  refine (subtract_any b _ d m m (some ⟨b', o, none⟩) A L Y ([xm] ++ C) g w1 HB1.out HLS.out HY1.out HSY.out (fun b'' o'' he _ => by injection he with he; injection he with e1 _ _; rw [← e1]; exact hne) HL.out HM.out (Nat.le_refl _) (Nat.le_of_lt hmb) hg3).mono ?_
  rintro e w2 ⟨q', X1, rfl, hb2, hl2, hs2, hq2, he2, hgr2⟩
  rw [HL.out] at hl2 he2
  have hb2' := hb2.cell (A.length + m) (by simp; omega)
  have em : (A ++ X1 ++ ([xm] ++ C)).getD (A.length + m) 0 = xm := by
    rw [getD_lt _ _ (by simp; omega)]
    simp [hl2]
  rw [em] at hb2'
  have hy2 := HY1.out.grown hgr2 (by simpa using hne)
  have hX1 := val_lt hs2
  rw [hl2] at hX1
  have HB2 := Lib.hid hb2; have HL2 := Lib.hid hl2; have HS2 := Lib.hid hs2; have HE2 := Lib.hid he2; have HGR2 := Lib.hid hgr2; have HY2 := Lib.hid hy2; have HX1 := Lib.hid hX1
  clear hb2 hl2 hs2 he2 hgr2 hy2 em hX1
  have hBq : q < 1000000000 := by have := HG1.out; omega
  by_cases hlt : xm < q'
  · have hgq := step_lt HQ.out.symm HYP.out HE2.out hlt HX1.out
    have hg0 : 0 < g := by omega
    have HGQ := Lib.hid hgq; have HLT := Lib.hid hlt
    clear hgq
    have hb3 : Blk w2 b (A ++ (X1 ++ [xm]) ++ C) := by have := HB2.out; rwa [show A ++ X1 ++ ([xm] ++ C) = A ++ (X1 ++ [xm]) ++ C from by simp] at this
    have HB3 := Lib.hid hb3; clear hb3
    go_wp2_with fail
    refine (addBack_any b c d (m + 1) m (some ⟨b', o, none⟩) A (X1 ++ [xm]) Y C w2 HB3.out (HS2.out.append (Small.cons hxm Small.nil)) HY2.out HSY.out (fun b'' o'' he _ => by injection he with he; injection he with e1 _ _; rw [← e1]; exact hne) (by simp [HL2.out]) HM.out (by omega) (by omega)).mono ?_
    rintro e w3 ⟨c3, X3, rfl, hb4, hinv, hgr4⟩
    have h1 := hinv.eq
    rw [List.take_of_length_le (l := Y) (by rw [HM.out]; exact Nat.le_refl _), show (X1 ++ [xm]).take m = X1 from by rw [List.take_append_of_le_length (by rw [HL2.out]; exact Nat.le_refl _), List.take_of_length_le (by rw [HL2.out]; exact Nat.le_refl _)]] at h1
    have hl3 : X3.length = m + 1 := by rw [hinv.len]; simp [HL2.out]
    have h2 := val_lt (hinv.small.take m)
    rw [List.length_take, hl3, Nat.min_eq_left (by omega)] at h2
    have hd := step_back HQ.out.symm HYP.out HYB.out HE2.out HG2.out HLT.out HX1.out h2 h1
    have hs3 := hinv.small
    have HB4 := Lib.hid hb4; have HL3 := Lib.hid hl3; have HS3 := Lib.hid hs3; have HD := Lib.hid hd; have HGR4 := Lib.hid hgr4
    clear hb4 hinv h1 hl3 h2 hd hs3 hgr4
    go_wp2
    go_ret
    have e0 : (g : Int) - 1 = (q : Int) := by have := HD.out.1; omega
    exact ⟨X3, by rw [← e0]; rfl, HB4.out, HL3.out, HS3.out, HD.out.2, grown_trans (grown_trans HGR1.out HGR2.out) HGR4.out⟩
  · have hd := step_right HQ.out.symm HYP.out HYB.out HE2.out HG1.out hlt
    have HD := Lib.hid hd; clear hd
    go_wp2
    go_ret
    have hb3 : Blk w2 b (A ++ (X1 ++ [xm]) ++ C) := by have := HB2.out; rwa [show A ++ X1 ++ ([xm] ++ C) = A ++ (X1 ++ [xm]) ++ C from by simp] at this
    refine ⟨X1 ++ [xm], by rw [← HD.out.1]; rfl, hb3, by simp [HL2.out], HS2.out.append (Small.cons hxm Small.nil), ?_, grown_trans HGR1.out HGR2.out⟩
    rw [List.take_append_of_le_length (by rw [HL2.out]; exact Nat.le_refl _), List.take_of_length_le (by rw [HL2.out]; exact Nat.le_refl _)]
    exact HD.out.2
def DivL (x y n : Nat) (w : World) (e : Ending) (w' : World) : Prop :=
  ∃ g Q, e = .returned (.tuple #[.slice (some ⟨g, 0, none⟩) n n, .int .u32 ((x % y : Nat) : Int)]) ∧ Blk w' g Q ∧ Small Q ∧ Q.length = n ∧ val Q = x / y ∧ Below w.heap.size w w'
set_option maxHeartbeats 2000000 in
theorem divLimb_any (ao : Option Addr) (c n : Nat) (X : List Nat) (y : Nat) (w : World) (hx : RowAt w ao c X) (hX : Small X) (hn : X.length = n) (hy0 : 0 < y) (hy : y < 1000000000) (hbig : n ≤ 1000000000000) :
    Calls Tryz.prog 94 #[.slice ao n c, .int .u32 y] w (DivL (val X) y n w) := by
  obtain ⟨i0, hi, hz0, hz1, hz2⟩ := info_parts infoU32
  have HX := Lib.hid hx; have HSX := Lib.hid hX; have HN := Lib.hid hn
  clear hx hX hn
  go_enter Tryz.func94, Tryz.ntmps94
  go_wp2_with (at_make; refine wpList_make_full _ rfl _ _ 69 rfl w.heap.size 97 i0 (.int .u32 0) 1 Tryz.underlying69 hi hz0 hz1 .i64 .i64 _ _ n rfl rfl ?a1 ?a2 ?a3 ?a4 ?a5 ?_)
  case a1 => rfl
  case a2 => rfl
  case a3 => rw [hz2]; omega
  case a4 => unfold maxLen; omega
  case a5 => exact Nat.le_refl _
  intro W0 hown hg
  have hb0 := blk_of_made hown
  clear hown
  generalize hgg : w.heap.size = g at hb0 ⊢
  have HG := Lib.hid hgg; clear hgg
  have hB := below_of_grown hg
  clear hg
  go_wp2_with fail
  have HB0 := Lib.hid hb0; have HB := Lib.hid hB; clear hb0 hB
  go_loopw [7, 8] (fun rv iv wr => ∃ (k r : Nat) (Q : List Nat), k ≤ n ∧ iv = .int .i64 ((k : Int) - 1) ∧ rv = .int .u64 r ∧ Blk wr g Q ∧ DivInv X Q y k r ∧ W0.grownBy wr (some g)) (fun _ iv _ => (intOf iv + 1).toNat)
  case atStart => exact ⟨n, 0, _, Nat.le_refl _, rfl, rfl, HB0.out, by rw [← HN.out]; exact DivInv.start hy0, grown_refl _ _⟩
  case round =>
    obtain ⟨k, r, Q, hk, rfl, rfl, hbl, hinv, hgr⟩ := hrel
    have hr := hinv.lt
    have HBL := Lib.hid hbl; have HI := Lib.hid hinv; have HGR := Lib.hid hgr
    clear hbl hinv hgr
    rcases Nat.eq_zero_or_pos k with rfl | hk0
    · have hd := HI.out.done
      have HD := Lib.hid hd; clear hd
      have e0 : (((0 : Nat) : Int) - 1) = (-1 : Int) := by omega
      rw [e0]; clear e0
      go_wp2
      go_ret2
      refine ⟨g, Q, by rw [← HD.out.2]; rfl, HBL.out, HI.out.small, by rw [HI.out.len, HN.out], HD.out.1, ?_⟩
      exact below_grown HB.out HGR.out (by have := HG.out; omega)
    · obtain ⟨j, rfl⟩ : ∃ j, k = j + 1 := ⟨k - 1, by omega⟩
      have ej : (((j + 1 : Nat) : Int) - 1) = (j : Int) := by omega
      rw [ej]
      clear ej hk0
      have hjn : j < n := by omega
      obtain ⟨bx, ox, rfl⟩ := HX.out.addr (fun h => by have := HN.out; rw [h] at this; simp at this; omega)
      have hbw : Below w.heap.size w wr := below_grown HB.out HGR.out (by have := HG.out; omega)
      have cx := (HX.out.mono hbw).get j (by rw [HN.out]; exact hjn)
      have cs := HBL.out.cell j (by rw [HI.out.len, HN.out]; exact hjn)
      have fs := HBL.out.frozen j
      have hstep := HI.out.step (by rw [HN.out]; exact hjn) HSX.out
      have hset := HBL.out.set j ((r * 1000000000 + X.getD j 0) / y)
      have ha := HSX.out.getD j
      generalize X.getD j 0 = a at *
      generalize Q.getD j 0 = s at *
      have eq : (((r * 1000000000 + a) / y : Nat) : Int) = ((r : Int) * 1000000000 + (a : Int)) / (y : Int) := by
        rw [Int.natCast_ediv, Int.natCast_add, Int.natCast_mul]; rfl
      have er : (((r * 1000000000 + a) % y : Nat) : Int) = ((r : Int) * 1000000000 + (a : Int)) % (y : Int) := by
        rw [Int.natCast_emod, Int.natCast_add, Int.natCast_mul]; rfl
      have hb := div_bound hr ha
      have hq1 : 0 ≤ ((r : Int) * 1000000000 + (a : Int)) / (y : Int) := by rw [← eq]; exact Int.natCast_nonneg _
      have hq2 : ((r : Int) * 1000000000 + (a : Int)) / (y : Int) < 1000000000 := by rw [← eq]; exact Int.ofNat_lt.2 hb
      rw [eq] at hset
      have HST := Lib.hid hstep; have HSE := Lib.hid hset; have ER := Lib.hid er
      clear hstep hset eq er hb hbw
      go_wp2
      go_roundw
      case rel => exact ⟨j, _, _, by omega, rfl, by rw [← ER.out], HSE.out, HST.out, grown_set HGR.out _ _⟩
      case measure => simp [intOf]
end Go.Proofs.YtmnbjkbkjmgmkaaGreatDoor

set_option linter.unusedSimpArgs false
set_option linter.unusedVariables false
namespace Go.Proofs.YtmnbjkbkjmgmkaaGreatDoor
theorem scale_half (v : Nat) (h1 : 1 ≤ v) (h2 : v < 1000000000) : 500000000 ≤ v * (1000000000 / (v + 1)) := by
  by_cases hv : 500000000 ≤ v
  · have : 1 ≤ 1000000000 / (v + 1) := (Nat.le_div_iff_mul_le (by omega)).2 (by omega)
    have := Nat.mul_le_mul_left v this
    omega
  · have hd := Nat.div_add_mod 1000000000 (v + 1)
    have hm := Nat.mod_lt 1000000000 (show 0 < v + 1 by omega)
    generalize 1000000000 / (v + 1) = t at *
    -- v t >= 500000000: (v+1) t >= B - v, so (v+1) (v t) >= v (B - v), and 2 v (B - v) >= (B - 1) (v + 1)
    have h3 : 1000000000 - v ≤ (v + 1) * t := by omega
    rcases Nat.lt_or_ge (v * t) 500000000 with h4 | h4
    · exfalso
      have h5 : v * (1000000000 - v) ≤ v * ((v + 1) * t) := Nat.mul_le_mul_left _ h3
      have h6 : v * ((v + 1) * t) = (v + 1) * (v * t) := by grind
      have h7 : (v + 1) * (v * t) ≤ (v + 1) * 499999999 := Nat.mul_le_mul_left _ (by omega)
      obtain ⟨u, rfl⟩ : ∃ u, v = u + 1 := ⟨v - 1, by omega⟩
      obtain ⟨z, hz⟩ : ∃ z, 1000000000 - (u + 1) = 500000000 + z ∧ u + 1 + z = 500000000 := ⟨500000000 - (u + 1), by omega⟩
      rw [hz.1] at h5
      have h8 : (u + 1) * (500000000 + z) = (u + 1) * 500000000 + (u + 1) * z := Nat.mul_add ..
      have h9 : u * 1 ≤ u * z ∨ z = 0 := by
        rcases Nat.eq_zero_or_pos z with h | h
        · exact .inr h
        · exact .inl (Nat.mul_le_mul_left _ h)
      have h10 : (u + 1) * z = u * z + z := by grind
      have hz2 := hz.2
      rcases h9 with h9 | h9
      · omega
      · omega
    · exact h4
theorem scaled_top {Y S : List Nat} {m t : Nat} (hY : Small Y) (hS : Small S) (hm : Y.length = m) (hm1 : 1 ≤ m) (hs : S.length = m + 1) (ht : t = 1000000000 / (Y.getD (m - 1) 0 + 1)) (htop : 1 ≤ Y.getD (m - 1) 0) (hv : val S = val Y * t) :
    S.getD m 0 = 0 ∧ 500000000 ≤ S.getD (m - 1) 0 ∧ val (S.take m) = val Y * t := by
  obtain ⟨k, rfl⟩ : ∃ k, m = k + 1 := ⟨m - 1, by omega⟩
  rw [Nat.add_sub_cancel] at *
  have hv1 := hY.getD k
  have hh := scale_half _ htop hv1
  rw [← ht] at hh
  have ey : val Y = val (Y.take k) + Y.getD k 0 * 1000000000 ^ k := by
    have : Y.take (k + 1) = Y := List.take_of_length_le (by omega)
    rw [← this, val_take_getD, this]
  have hyk := val_lt (hY.take k)
  rw [List.length_take, Nat.min_eq_left (by omega)] at hyk
  have es : val S = val (S.take k) + S.getD k 0 * 1000000000 ^ k + S.getD (k + 1) 0 * (1000000000 ^ k * 1000000000) := by
    have : S.take (k + 1 + 1) = S := List.take_of_length_le (by omega)
    rw [← this, val_take_getD, val_take_getD, this, Nat.pow_succ]
  have hsk := val_lt (hS.take k)
  rw [List.length_take, Nat.min_eq_left (by omega)] at hsk
  have hs1 := hS.getD k
  -- (v + 1) t <= B
  have h1 : (Y.getD k 0 + 1) * t ≤ 1000000000 := by rw [ht]; exact Nat.mul_div_le _ _
  have h2 : val Y * t < 1000000000 ^ k * 1000000000 := by
    have a1 : val Y * t ≤ ((Y.getD k 0 + 1) * 1000000000 ^ k - 1) * t := Nat.mul_le_mul_right _ (by rw [ey, Nat.add_mul]; omega)
    have hp : 0 < 1000000000 ^ k := Nat.pow_pos (by decide)
    have ht0 : 0 < t := by rcases Nat.eq_zero_or_pos t with h | h; (rw [h] at hh; omega); exact h
    have a2 : ((Y.getD k 0 + 1) * 1000000000 ^ k - 1) * t < ((Y.getD k 0 + 1) * 1000000000 ^ k) * t := Nat.mul_lt_mul_of_pos_right (by
      have : 1 * 1 ≤ (Y.getD k 0 + 1) * 1000000000 ^ k := Nat.mul_le_mul (by omega) hp
      omega) ht0
    have a3 : ((Y.getD k 0 + 1) * 1000000000 ^ k) * t = ((Y.getD k 0 + 1) * t) * 1000000000 ^ k := by grind
    have a4 : ((Y.getD k 0 + 1) * t) * 1000000000 ^ k ≤ 1000000000 * 1000000000 ^ k := Nat.mul_le_mul_right _ h1
    have a5 : 1000000000 * 1000000000 ^ k = 1000000000 ^ k * 1000000000 := Nat.mul_comm ..
    omega
  have h3 : S.getD (k + 1) 0 = 0 := by
    rcases Nat.eq_zero_or_pos (S.getD (k + 1) 0) with h | h
    · exact h
    · have := Nat.mul_le_mul_right (1000000000 ^ k * 1000000000) h
      omega
  refine ⟨h3, ?_, ?_⟩
  · rcases Nat.lt_or_ge (S.getD k 0) (Y.getD k 0 * t) with h | h
    · exfalso
      have b1 : (S.getD k 0 + 1) * 1000000000 ^ k ≤ (Y.getD k 0 * t) * 1000000000 ^ k := Nat.mul_le_mul_right _ h
      have b2 : (Y.getD k 0 * t) * 1000000000 ^ k ≤ val Y * t := by
        rw [ey, Nat.add_mul]
        have : Y.getD k 0 * t * 1000000000 ^ k = Y.getD k 0 * 1000000000 ^ k * t := by grind
        omega
      rw [Nat.add_mul] at b1
      rw [h3] at es
      omega
    · omega
  · rw [val_take_getD, ← hv, es, h3]; omega
structure LongInv (s q r : List Nat) (y m k : Nat) : Prop where
  lens : s.length = r.length
  smallq : Small q
  smallr : Small r
  low : r.take k = s.take k
  lt : val ((r.drop k).take m) < y
  eq : val (s.drop k) = val (q.drop k) * y + val ((r.drop k).take m)
theorem LongInv.start {s : List Nat} {y m n : Nat} (hs : Small s) (hl : s.length = n + m) (hlt : val (s.drop n) < y) : LongInv s (List.replicate n 0) s y m n := by
  have e : (s.drop n).take m = s.drop n := List.take_of_length_le (by simp; omega)
  exact ⟨rfl, Small.replicate _, hs, rfl, by rw [e]; exact hlt, by rw [e]; simp [val]⟩
theorem LongInv.window {s q r : List Nat} {y m i : Nat} (h : LongInv s q r y m (i + 1)) (hi : i + m < s.length) :
    ∃ A W C, r = A ++ W ++ C ∧ A.length = i ∧ W.length = m + 1 ∧ Small W ∧ val W = s.getD i 0 + 1000000000 * val ((r.drop (i + 1)).take m) ∧ val W < y * 1000000000 := by
  have hl := h.lens
  have hri : i < r.length := by omega
  have e1 : r.getD i 0 = s.getD i 0 := by
    have := congrArg (fun l => l[i]?) h.low
    simp only [List.getElem?_take_of_lt (Nat.lt_succ_self i)] at this
    simp [List.getD_eq_getElem?_getD, this]
  have e2 : (r.drop i).take (m + 1) = r.getD i 0 :: (r.drop (i + 1)).take m := by
    rw [List.drop_eq_getElem_cons hri, List.take_succ_cons, getD_lt r i hri]
  have h1 := h.lt
  have h2 : s.getD i 0 < 1000000000 := by rw [← e1]; exact h.smallr.getD i
  refine ⟨r.take i, (r.drop i).take (m + 1), (r.drop i).drop (m + 1), ?_, by simp; omega, by simp; omega, (h.smallr.drop _).take _, ?_, ?_⟩
  · rw [List.append_assoc, List.take_append_drop, List.take_append_drop]
  · rw [e2, val_cons, e1]
  · rw [e2, val_cons, e1]; omega
theorem LongInv.step {s q A W W' C : List Nat} {y m i : Nat} (h : LongInv s q (A ++ W ++ C) y m (i + 1)) (hi : i + m < s.length) (hiq : i < q.length) (hA : A.length = i) (hW : W.length = m + 1)
    (hV : val W = s.getD i 0 + 1000000000 * val (((A ++ W ++ C).drop (i + 1)).take m)) (hVy : val W < y * 1000000000)
    (hl : W'.length = m + 1) (hs : Small W') (hw : val (W'.take m) = val W % y) :
    LongInv s (q.set i (val W / y)) (A ++ W' ++ C) y m i := by
  have hlr := h.lens
  have hy : 0 < y := by
    rcases Nat.eq_zero_or_pos y with h0 | h0
    · rw [h0] at hVy; simp at hVy
    · exact h0
  have e1 : (A ++ W' ++ C).drop i = W' ++ C := by rw [List.append_assoc, ← hA, List.drop_left]
  have e2 : (W' ++ C).take m = W'.take m := List.take_append_of_le_length (by omega)
  refine ⟨?_, h.smallq.set _ _ (Nat.div_lt_of_lt_mul hVy), ?_, ?_, ?_, ?_⟩
  · rw [hlr]; simp; omega
  · have h1 := h.smallr
    refine Small.append (Small.append ?_ hs) ?_
    · exact fun z hz => h1 z (by simp [hz])
    · exact fun z hz => h1 z (by simp [hz])
  · have h1 := congrArg (fun l => l.take i) h.low
    simp only [List.take_take, Nat.min_eq_left (Nat.le_succ i)] at h1
    rw [← h1, ← hA, List.append_assoc, List.append_assoc, List.take_left, List.take_left]
  · rw [e1, e2, hw]; exact Nat.mod_lt _ hy
  · rw [e1, e2, hw, val_drop s i (by omega), val_drop (q.set i (val W / y)) i (by simpa using hiq), List.drop_set_of_lt (by omega), getD_lt (q.set i (val W / y)) i (by simpa using hiq), List.getElem_set_self, h.eq]
    have hd := Nat.div_add_mod (val W) y
    generalize val W / y = u at *
    generalize val W % y = v at *
    rw [hV] at hd
    clear hw hV hVy e1 e2 hlr h
    generalize val (((A ++ W ++ C).drop (i + 1)).take m) = z at *
    generalize val (q.drop (i + 1)) = g at *
    generalize s.getD i 0 = a at *
    grind
theorem LongInv.done {s q r : List Nat} {y m : Nat} (h : LongInv s q r y m 0) (hy : 0 < y) : val q = val s / y ∧ val (r.take m) = val s % y := by
  have h1 := h.eq; have h2 := h.lt
  simp only [List.drop_zero] at h1 h2
  rw [h1]
  constructor
  · rw [Nat.mul_comm, Nat.mul_add_div hy, Nat.div_eq_of_lt h2]; omega
  · rw [Nat.mul_comm, Nat.mul_add_mod, Nat.mod_eq_of_lt h2]
theorem long_first {X Y S : List Nat} {n m t : Nat} (hX : Small X) (hn : X.length = n) (hm : Y.length = m) (hm1 : 1 ≤ m) (hmn : m ≤ n) (ht : 0 < t) (htop : 1 ≤ Y.getD (m - 1) 0)
    (hS : S.length = n + 1) (hv : val S = val X * t) : val (S.drop (n + 1 - m)) < val Y * t := by
  obtain ⟨k, rfl⟩ : ∃ k, m = k + 1 := ⟨m - 1, by omega⟩
  rw [Nat.add_sub_cancel] at htop
  have h1 := val_split S (n + 1 - (k + 1)) (by omega)
  have h2 := val_lt hX
  rw [hn] at h2
  have ey : val Y = val (Y.take k) + Y.getD k 0 * 1000000000 ^ k := by
    have : Y.take (k + 1) = Y := List.take_of_length_le (by omega)
    rw [← this, val_take_getD, this]
  have h3 : 1000000000 ^ k ≤ val Y := by
    have := Nat.mul_le_mul_right (1000000000 ^ k) htop
    omega
  have h4 : 1000000000 ^ k * t ≤ val Y * t := Nat.mul_le_mul_right _ h3
  have h5 : val X * t < 1000000000 ^ n * t := Nat.mul_lt_mul_of_pos_right h2 ht
  have e : 1000000000 ^ n = 1000000000 ^ (n + 1 - (k + 1)) * 1000000000 ^ k := by rw [← Nat.pow_add]; congr 1; omega
  rw [e] at h5
  have h6 : 1000000000 ^ (n + 1 - (k + 1)) * val (S.drop (n + 1 - (k + 1))) < 1000000000 ^ (n + 1 - (k + 1)) * (1000000000 ^ k * t) := by
    rw [← Nat.mul_assoc]; omega
  have h7 := Nat.lt_of_mul_lt_mul_left h6
  omega
theorem scale_div (x y t : Nat) (ht : 0 < t) : x * t / (y * t) = x / y := Nat.mul_div_mul_right x y ht
theorem scale_mod (x y t : Nat) : x * t % (y * t) = x % y * t := Nat.mul_mod_mul_right t x y
end Go.Proofs.YtmnbjkbkjmgmkaaGreatDoor
