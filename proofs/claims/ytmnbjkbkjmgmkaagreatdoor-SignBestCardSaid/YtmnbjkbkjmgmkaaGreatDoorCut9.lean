import Derived.Test.YtmnbjkbkjmgmkaaGreatDoorCut8

set_option linter.unusedVariables false
set_option linter.unusedSimpArgs false
set_option linter.unusedVariables false
namespace Go.Proofs.YtmnbjkbkjmgmkaaGreatDoor
open Go Go.Proofs Go.RowKit
theorem divStep_at (b c b' o d m off : Nat) (A X Y C : List Nat) (w : World) (hA : A.length = off) (hb : Blk w b (A ++ X ++ C)) (hX : Small X) (hy : RowAt w (some ⟨b', o, none⟩) d Y) (hY : Small Y) (hne : b' ≠ b)
    (hn : X.length = m + 1) (hm : Y.length = m) (hm2 : 2 ≤ m) (hmb : m < 1000000000000) (hc : m + 1 ≤ c) (hc2 : c ≤ 9223372036854775807) (ht : 500000000 ≤ Y.getD (m - 1) 0) (hlt : val X < val Y * 1000000000) :
    Calls Tryz.prog 112 #[.slice (some ⟨b, off, none⟩) (m + 1) c, .slice (some ⟨b', o, none⟩) m d] w (Stepped w b A X C (val Y) m) := by
  subst hA; exact divStep_any b c b' o d m A X Y C w hb hX hy hY hne hn hm hm2 hmb hc hc2 ht hlt
def Divided (x y : Nat) (w : World) (e : Ending) (w' : World) : Prop :=
  ∃ v1 v2, e = .returned (.tuple #[v1, v2]) ∧ NumAt w' v1 (x / y) ∧ NumAt w' v2 (x % y) ∧ Below w.heap.size w w'
structure Pair (w W : World) (v1 v2 : Value) : Prop where
  lt : w.heap.size + 1 < W.heap.size
  c1 : W.cell? ⟨w.heap.size, 0, none⟩ = some v1
  c2 : W.cell? ⟨w.heap.size + 1, 0, none⟩ = some v2
  f1 : W.frozen? ⟨w.heap.size, 0, none⟩ = false
  f2 : W.frozen? ⟨w.heap.size + 1, 0, none⟩ = false
  below : Below w.heap.size w W
theorem pair_new (w : World) (v1 v2 : Value) (t1 t2 : TypeId) : Pair w ((w.alloc (Obj.cells #[v1] t1)).alloc (Obj.cells #[v2] t2)) v1 v2 :=
  ⟨by simp, by go_cell, by go_cell, by go_cell, by go_cell, by go_grown⟩
theorem Pair.mono {w W W' : World} {v1 v2 : Value} (h : Pair w W v1 v2) (k : Below W.heap.size W W') : Pair w W' v1 v2 := by
  have hl := h.lt
  exact ⟨Nat.lt_of_lt_of_le h.lt k.size, (k.cell (p := ⟨w.heap.size, 0, none⟩) (by simp; omega)).trans h.c1, (k.cell (p := ⟨w.heap.size + 1, 0, none⟩) (by simp; omega)).trans h.c2,
    (k.frozen (p := ⟨w.heap.size, 0, none⟩) (by simp; omega)).trans h.f1, (k.frozen (p := ⟨w.heap.size + 1, 0, none⟩) (by simp; omega)).trans h.f2, Below.chain h.below k⟩
theorem Pair.grown {w W W' : World} {v1 v2 : Value} {b : Nat} (h : Pair w W v1 v2) (k : W.grownBy W' (some b)) (hb : w.heap.size + 1 < b) : Pair w W' v1 v2 := by
  have hl := h.lt
  exact ⟨Nat.lt_of_lt_of_le h.lt k.size, gcell k h.c1 (by simp; omega), gcell k h.c2 (by simp; omega),
    gfree k (by simp; omega) h.f1 (by simp; omega), gfree k (by simp; omega) h.f2 (by simp; omega), below_grown h.below k (by omega)⟩
theorem Blk.mono {w w' : World} {b : Nat} {l : List Nat} (h : Blk w b l) (k : Below w.heap.size w w') : Blk w' b l := h.keep (grown_of_below k) (by simp)
theorem Pair.under {w W W' : World} {v1 v2 : Value} {B : Nat} (h : Pair w W v1 v2) (k : Below B W W') (hB : w.heap.size + 1 < B) : Pair w W' v1 v2 :=
  ⟨Nat.lt_of_lt_of_le h.lt k.size, (k.cell (p := ⟨w.heap.size, 0, none⟩) (by simp; omega)).trans h.c1, (k.cell (p := ⟨w.heap.size + 1, 0, none⟩) hB).trans h.c2,
    (k.frozen (p := ⟨w.heap.size, 0, none⟩) (by simp; omega)).trans h.f1, (k.frozen (p := ⟨w.heap.size + 1, 0, none⟩) hB).trans h.f2, h.below.trans (k.mono (by omega))⟩
theorem Pair.both {w W : World} {v1 v2 : Value} (h : Pair w W v1 v2) (u1 u2 : Value) : Pair w ((W.setCell ⟨w.heap.size, 0, none⟩ u1).setCell ⟨w.heap.size + 1, 0, none⟩ u2) u1 u2 := by
  have hl := h.lt
  refine ⟨by simpa [World.setCell] using hl, ?_, ?_, ?_, ?_, ?_⟩
  · rw [World.cell?_setCell_other (h := by simp)]; exact cellSet h.c1 _
  · exact cellSet (u := v2) (by rw [World.cell?_setCell_other (h := by simp)]; exact h.c2) _
  · rw [World.frozen?_setCell, World.frozen?_setCell]; exact h.f1
  · rw [World.frozen?_setCell, World.frozen?_setCell]; exact h.f2
  · exact (h.below.setCell (p := ⟨w.heap.size, 0, none⟩) (Nat.le_refl _) _).setCell (p := ⟨w.heap.size + 1, 0, none⟩) (by simp) _
theorem RowAt.boxes {w W : World} {x1 x2 : Option Addr} {n1 n2 m1 m2 : Nat} (h : Pair w W (.slice x1 n1 m1) (.slice x2 n2 m2)) (u1 u2 : Value) {ao : Option Addr} {c : Nat} {l : List Nat} (hr : RowAt W ao c l) :
    RowAt ((W.setCell ⟨w.heap.size, 0, none⟩ u1).setCell ⟨w.heap.size + 1, 0, none⟩ u2) ao c l :=
  (hr.box h.c1 u1).box (p := ⟨w.heap.size + 1, 0, none⟩) (by rw [World.cell?_setCell_other (h := by simp)]; exact h.c2) u2
theorem below_of_row {B b : Nat} {a w w' : World} (h : Below B a w) (k : w.grownBy w' (some b)) (hb : B ≤ b) (hB : B ≤ w.heap.size) : Below B a w' :=
  h.trans ⟨k.os, k.tape, k.output, k.size, fun i hi => k.block i (by omega) (fun e => by injection e with e; omega)⟩
set_option maxHeartbeats 4000000 in
theorem divLong_any (ao ap : Option Addr) (c d n m : Nat) (X Y : List Nat) (w : World) (hx : RowAt w ao c X) (hX : Small X) (hy : RowAt w ap d Y) (hY : Small Y) (hn : X.length = n) (hm : Y.length = m) (hm2 : 2 ≤ m) (hmn : m ≤ n)
    (htop : 1 ≤ Y.getD (m - 1) 0) (hbig : n ≤ 100000000000) :
    Calls Tryz.prog 95 #[.slice ao n c, .slice ap m d] w (Divided (val X) (val Y) w) := by
  obtain ⟨i0, hi, hz0, hz1, hz2⟩ := info_parts infoU32
  obtain ⟨by_, oy, rfl⟩ := hy.addr (fun h => by rw [h] at hm; simp at hm; omega)
  have hbl := hy.block (fun h => by rw [h] at hm; simp at hm; omega)
  have ct := hy.get (m - 1) (by omega)
  have ht1 := hY.getD (m - 1)
  generalize hT : Y.getD (m - 1) 0 = top at *
  have hquo : (1000000000 : Int) / ((top : Int) + 1) = ((1000000000 / (top + 1) : Nat) : Int) := by rw [Int.natCast_ediv]; rfl
  have hsc0 : 0 < 1000000000 / (top + 1) := (Nat.le_div_iff_mul_le (by omega)).2 (by omega)
  have hsc1 : 1000000000 / (top + 1) < 1000000000 := Nat.div_lt_self (by decide) (by omega)
  generalize ht : 1000000000 / (top + 1) = t at *
  have HX := Lib.hid hx; have HSX := Lib.hid hX; have HY := Lib.hid hy; have HSY := Lib.hid hY; have HN := Lib.hid hn; have HM := Lib.hid hm; have HT := Lib.hid hT; have HTT := Lib.hid ht; have HTOP := Lib.hid htop
  have hq1 : 0 ≤ (1000000000 : Int) / ((top : Int) + 1) := by rw [hquo]; exact Int.natCast_nonneg _
  have hq2 : (1000000000 : Int) / ((top : Int) + 1) < 1000000000 := by rw [hquo]; exact Int.ofNat_lt.2 hsc1
  have HQ := Lib.hid hquo
  clear hx hX hy hY hn hm hT ht htop hquo
  go_enter Tryz.func95, Tryz.ntmps95
  go_wp2_with fail
  have A := pair_new w (Value.slice none 0 0) (Value.slice none 0 0) 71 71
  generalize (w.alloc (Obj.cells #[Value.slice none 0 0] 71)).alloc (Obj.cells #[Value.slice none 0 0] 71) = W0 at A ⊢
  rw [HQ.out]
  refine (scaled_any ao c n X t W0 (HX.out.mono A.below) HSX.out HN.out hsc1 (by omega)).mono ?_
  rintro e w1 ⟨gx, SX, rfl, hgx, hbx, hsx, hlx, hvx, hb1⟩
  have A1 := A.mono hb1
  have hlt0 := A.lt
  have HBX := Lib.hid hbx; have HSXX := Lib.hid hsx; have HLX := Lib.hid hlx; have HVX := Lib.hid hvx
  have hgx1 : w.heap.size + 1 < gx := by omega
  clear hbx hsx hlx hvx hb1 hlt0 hgx A
  go_wp2_with fail
  refine (scaled_any _ d m Y t w1 (HY.out.mono A1.below) HSY.out HM.out hsc1 (by omega)).mono ?_
  rintro e w2 ⟨gy, SY, rfl, hgy, hby, hsy, hly, hvy, hb2⟩
  have A2 := A1.mono hb2
  have hbx2 := HBX.out.mono hb2
  have hgxl := HBX.out.lt
  have hgy1 : gx < gy := by omega
  obtain ⟨-, htop2, hvt⟩ := scaled_top HSY.out hsy HM.out (by omega) hly (by rw [HT.out]; exact HTT.out.symm) (by rw [HT.out]; exact HTOP.out) hvy
  have hry : RowAt w2 (some ⟨gy, 0, none⟩) (m + 1) (SY.take m) := (hby.row (by omega) (by omega)).take m (by omega)
  have hlt2 : (SY.take m).length = m := by simp; omega
  have htop3 : 500000000 ≤ (SY.take m).getD (m - 1) 0 := by
    rw [getD_lt _ _ (by omega), List.getElem_take, ← getD_lt SY (m - 1) (by omega)]; exact htop2
  have hst := hsy.take m
  clear htop2 hby hsy hly hvy hb2 hgy
  generalize SY.take m = Z at *
  have HBX2 := Lib.hid hbx2; have HRY := Lib.hid hry; have HLZ := Lib.hid hlt2; have HTZ := Lib.hid htop3; have HVZ := Lib.hid hvt; have HSZ := Lib.hid hst
  clear hbx2 hry hlt2 htop3 hvt hst hgxl
  have hnm : n + 1 - m ≤ n := by omega
  go_wp2_with (at_make; refine wpList_make_full _ rfl _ _ 69 rfl w2.heap.size 97 i0 (.int .u32 0) 1 Tryz.underlying69 hi hz0 hz1 .i64 .i64 _ _ (n + 1 - m) rfl rfl ?a1 ?a2 ?a3 ?a4 ?a5 ?_)
  case a1 => omega
  case a2 => omega
  case a3 => rw [hz2]; omega
  case a4 => unfold maxLen; omega
  case a5 => exact Nat.le_refl _
  intro W3 hown hg
  have hb0 := blk_of_made hown
  clear hown
  have A3 := A2.mono (below_of_grown hg)
  have hbx3 := HBX2.out.keep hg (by simp)
  have hry3 := HRY.out.grown hg (by simp)
  have hgq : gy < w2.heap.size := HRY.out.block (fun h => by have := HLZ.out; rw [h] at this; simp at this; omega)
  generalize hgg : w2.heap.size = gq at hb0 hgq ⊢
  have HBX3 := Lib.hid hbx3; have HRY3 := Lib.hid hry3; have HB0 := Lib.hid hb0
  clear hbx3 hry3 hb0 hgg hg
  go_wp2_with fail
  have hNm : n + 1 - m + m = n + 1 := by omega
  generalize hN : n + 1 - m = N at *
  have HNM := Lib.hid hNm
  clear hN hNm
  have hlx := HLX.out
  have hfirst := long_first HSX.out HN.out HM.out (by omega) (by omega) hsc0 (by rw [HT.out]; exact HTOP.out) HLX.out HVX.out
  rw [← HVZ.out, show n + 1 - m = N from by have := HNM.out; omega] at hfirst
  have hstart := LongInv.start (n := N) (m := m) HSXX.out (by rw [HLX.out, HNM.out]) hfirst
  have HST := Lib.hid hstart
  clear hfirst hstart hlx
  go_loopw [11] (fun iv wr => ∃ (k : Nat) (Q R : List Nat), k ≤ N ∧ iv = .int .i64 ((k : Int) - 1) ∧ Blk wr gx R ∧ Blk wr gq Q ∧ Q.length = N ∧ LongInv SX Q R (val Z) m k ∧ Below gx W3 wr ∧ RowAt wr (some ⟨gy, 0, none⟩) (m + 1) Z) (fun iv _ => (intOf iv + 1).toNat)
  case atStart => exact ⟨N, _, SX, Nat.le_refl _, rfl, HBX3.out, HB0.out, by simp, HST.out, Below.refl _ _, HRY3.out⟩
  case round =>
    obtain ⟨k, Q, R, hk, rfl, hbr, hbq, hql, hinv, hbw, hrz⟩ := hrel
    have HBR := Lib.hid hbr; have HBQ := Lib.hid hbq; have HQL := Lib.hid hql; have HI := Lib.hid hinv; have HBW := Lib.hid hbw; have HRZ := Lib.hid hrz
    clear hbr hbq hql hinv hbw hrz
    rcases Nat.eq_zero_or_pos k with rfl | hk0
    · have e0 : (((0 : Nat) : Int) - 1) = (-1 : Int) := by omega
      rw [e0]; clear e0
      have hyp : 0 < val Z := by
        have h1 := HI.out.lt
        omega
      have hd := HI.out.done hyp
      rw [HVX.out, HVZ.out, scale_div _ _ _ hsc0, scale_mod] at hd
      have hrl : R.length = n + 1 := by rw [← HI.out.lens]; exact HLX.out
      have hrw : RowAt wr (some ⟨gx, 0, none⟩) (n + 1) (R.take m) := (HBR.out.row (by omega) (by omega)).take m (by omega)
      have hrt : (R.take m).length = m := by simp; omega
      have hrs := HI.out.smallr.take m
      have B1 := A3.under HBW.out (by omega)
      have hqr : RowAt wr (some ⟨gq, 0, none⟩) N Q := HBQ.out.row (by rw [HQL.out]; exact Nat.le_refl _) (by omega)
      have HD := Lib.hid hd; have HRW := Lib.hid hrw; have HRT := Lib.hid hrt; have HRS := Lib.hid hrs; have HQR := Lib.hid hqr
      have hsm := HI.out.smallq
      have HSQ := Lib.hid hsm
      clear hyp hd hrl hrw hrt hrs hqr hsm
      go_wp2_with fail
      refine (divLimb_any _ (n + 1) m (R.take m) t wr HRW.out HRS.out HRT.out hsc0 hsc1 (by omega)).mono ?_
      rintro e w6 ⟨g6, Q6, rfl, hb6, hs6, hl6, hv6, hbw6⟩
      rw [HD.out.2, Nat.mul_div_cancel _ hsc0] at hv6
      have B2 := B1.mono hbw6
      have hqr6 := HQR.out.mono hbw6
      have HB6 := Lib.hid hb6; have HS6 := Lib.hid hs6; have HL6 := Lib.hid hl6; have HV6 := Lib.hid hv6; have HQR6 := Lib.hid hqr6
      clear hb6 hs6 hl6 hv6 hbw6 hqr6
      go_wp2_with fail
      refine (trimmed_at Q N _ _ _ HQL.out HQR6.out HSQ.out).mono ?_
      rintro e w7 ⟨v7, rfl, hv7, hbw7⟩
      have B3 := B2.mono hbw7
      have hb7 := HB6.out.mono hbw7
      have HB7 := Lib.hid hb7; have HV7 := Lib.hid hv7
      clear hv7 hbw7 hb7
      go_wp2_with fail
      refine (trimmed_at Q6 m _ _ _ HL6.out (HB7.out.row (by rw [HL6.out]; exact Nat.le_refl _) (by omega)) HS6.out).mono ?_
      rintro e w8 ⟨v8, rfl, hv8, hbw8⟩
      have B4 := B3.mono hbw8
      obtain ⟨a7, c7, rfl, hr7⟩ := HV7.out.mono hbw8
      obtain ⟨a8, c8, rfl, hr8⟩ := hv8
      have k1 := B4.c1; have k2 := B4.c2; have g1 := B4.f1; have g2 := B4.f2
      have HR7 := Lib.hid hr7; have HR8 := Lib.hid hr8
      clear hr7 hr8 hbw8
      go_wp2
      have B5 := B4.both (Value.slice a7 (limbs (val Q)).length c7) (Value.slice a8 (limbs (val Q6)).length c8)
      refine bodyPost_ret (v := .tuple #[.agg #[.slice a7 (limbs (val Q)).length c7], .agg #[.slice a8 (limbs (val Q6)).length c8]]) (by simp [results, Tryz.results95, go_sem, B5.c1, B5.c2]) rfl ?_
      refine ⟨_, _, rfl, ⟨a7, c7, by rw [HD.out.1], ?_⟩, ⟨a8, c8, by rw [HV6.out], ?_⟩, B5.below⟩
      · rw [← HD.out.1]; exact RowAt.boxes B4 _ _ HR7.out
      · rw [← HV6.out]; exact RowAt.boxes B4 _ _ HR8.out
    · obtain ⟨j, rfl⟩ : ∃ j, k = j + 1 := ⟨k - 1, by omega⟩
      have ej : (((j + 1 : Nat) : Int) - 1) = (j : Int) := by omega
      rw [ej]; clear ej hk0
      have hjn : j + m < n + 1 := by have := HNM.out; omega
      obtain ⟨A, V, C, rfl, hA, hV, hVs, hVe, hVy⟩ := HI.out.window (i := j) (by rw [HLX.out]; exact hjn)
      have HA := Lib.hid hA; have HV := Lib.hid hV; have HVS := Lib.hid hVs; have HVE := Lib.hid hVe; have HVY := Lib.hid hVy
      clear hA hV hVs hVe hVy
      go_wp2_with fail
      rw [show j + m + 1 - j = m + 1 from by omega]
      refine (divStep_at gx _ gy 0 (m + 1) m j A V Z C wr HA.out HBR.out HVS.out HRZ.out HSZ.out (by omega) HV.out HLZ.out hm2 (by omega) (by omega) (by omega) HTZ.out HVY.out).mono ?_
      rintro e w5 ⟨X', rfl, hb5, hl5, hs5, hv5, hgr5⟩
      have hbq5 := HBQ.out.keep hgr5 (by simp; omega)
      have hrz5 := HRZ.out.grown hgr5 (by simp; omega)
      have hbw5 : Below gx W3 w5 := below_of_row HBW.out hgr5 (Nat.le_refl _) (by have := HBR.out.lt; omega)
      have hnext := HI.out.step (by rw [HLX.out]; exact hjn) (by rw [HQL.out]; omega) HA.out HV.out HVE.out HVY.out hl5 hs5 hv5
      have cq := hbq5.cell j (by rw [HQL.out]; omega)
      have fq := hbq5.frozen j
      have hset := hbq5.set j (val V / val Z)
      have hbr6 : Blk (w5.setCell ⟨gq, j, none⟩ (.int .u32 ((val V / val Z : Nat) : Int))) gx (A ++ X' ++ C) := hb5.keep (grown_set (grown_refl _ (some gq)) _ _) (by simp; omega)
      have hrz6 := hrz5.grown (grown_set (grown_refl w5 (some gq)) j (.int .u32 ((val V / val Z : Nat) : Int))) (by simp; omega)
      have hbw6 := below_of_row hbw5 (grown_set (grown_refl w5 (some gq)) j (.int .u32 ((val V / val Z : Nat) : Int))) (by omega) (by have := hb5.lt; omega)
      generalize Q.getD j 0 = s0 at *
      generalize val V / val Z = qq at *
      have HN1 := Lib.hid hnext; have HS6 := Lib.hid hset; have HB6 := Lib.hid hbr6; have HR6 := Lib.hid hrz6; have HW6 := Lib.hid hbw6
      clear hb5 hl5 hs5 hv5 hgr5 hbq5 hrz5 hbw5 hnext hset hbr6 hrz6 hbw6
      have hjN : j < N := by omega
      go_wp2
      go_roundw
      case rel => exact ⟨j, _, _, by omega, rfl, HB6.out, HS6.out, by rw [List.length_set]; exact HQL.out, HN1.out, HW6.out, HR6.out⟩
      case measure => simp [intOf]
end Go.Proofs.YtmnbjkbkjmgmkaaGreatDoor
