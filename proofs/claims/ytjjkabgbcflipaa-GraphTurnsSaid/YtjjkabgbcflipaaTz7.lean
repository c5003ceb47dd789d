import Derived.Test.YtjjkabgbcflipaaTz4
import Derived.Test.YtjjkabgbcflipaaTz5
import Derived.Test.YtjjkabgbcflipaaTz6
set_option linter.unusedSimpArgs false
set_option linter.unusedVariables false
namespace Go.Proofs.Ytjjkabgbcflipaa
open Go Go.Proofs Go.RowKit Go.Shelf GM

attribute [local go_sem] Oper.semAt_some

set_option maxRecDepth 100000 in
set_option maxHeartbeats 8000000 in
theorem graphTurns_walk {A : Nat → Prop} (n x : Int) (ao : Option Addr) (c : Nat) (E : List Ed) (w : World) (hr : ERow A w ao c E) :
    Calls Try.prog 11 #[.agg #[.int .i64 n, .int .i64 x, .slice ao E.length c]] w fun e w' => e = .returned (.bool true) ∧ Below w.heap.size w w' := by
  have hA : Below w.heap.size w (w.alloc (Obj.cells #[.int .i64 n, .int .i64 x, .slice ao E.length c] 24)) := (Below.refl _ _).alloc (Nat.le_refl _) _
  have hX := GBx.new w n x ao E.length c
  have HB := Lib.hid hA; have HX := Lib.hid hX
  have hR := fun W (hW : Below w.heap.size w W) => hr.keep (B := A) (But.of_below (S := fun _ => False) (w' := W) hW) (fun _ h _ => ⟨id, h⟩)
  have HR := Lib.hid hR
  have KF := Lib.hid (good_any n x ao c E (w.alloc (Obj.cells #[.int .i64 n, .int .i64 x, .slice ao E.length c] 24)) (hR _ hA))
  have KW := Lib.hid awake_any
  obtain ⟨y0, y1, y2, y3⟩ := hX
  clear hA hR
  cases hf : (fewG n E && decide (ckG n x E = 0)) with
  | false =>
    rw [hf] at KF
    go_enter Try.func11, Try.ntmps11
    go_wp2_with (first | (go_at_call 38; refine (KF.out).mono ?_; rintro e w1 ⟨rfl, hb⟩; refine Hid.out ?_) | fail)
    have HB1 := Lib.hid (Below.chain HB.out hb); clear hb HB
    refine Lib.hid ?_
    go_wp2_with (first | (go_at_call 14; refine (KW.out _).mono ?_; rintro e w2 ⟨rfl, hb⟩; refine Hid.out ?_) | fail)
    have HB2 := Lib.hid (Below.chain HB1.out hb); clear hb
    refine Lib.hid ?_
    go_wp2_with fail
    go_ret
    exact ⟨rfl, HB2.out⟩
  | true =>
    rw [hf] at KF
    rw [Bool.and_eq_true, decide_eq_true_iff] at hf
    have h0 := hf.2
    clear hf
    obtain ⟨hn1, hn2, hpx⟩ := ckG_pos h0
    obtain ⟨P, rfl⟩ := Int.eq_ofNat_of_zero_le (show 0 ≤ n by omega)
    obtain ⟨-, -, hlen, -⟩ := ckG_ok h0
    have hat : ∀ j, j < E.length → ∃ b o, ao = some ⟨b, o, none⟩ ∧ b < w.heap.size ∧ EdAt w b (o + j * 21) (edD E j) := fun j hj => by
      obtain ⟨b, o, e, -, h1, h2, -⟩ := hr.get j hj
      exact ⟨b, o, e, h1, h2⟩
    have HAT := Lib.hid hat; have H0 := Lib.hid h0; have HLEN := Lib.hid hlen
    have hx0 := isPt_true hpx
    obtain ⟨rx, rfl⟩ := Int.eq_ofNat_of_zero_le (show 0 ≤ x by omega)
    have hrx : rx < P := by omega
    have HRX := Lib.hid hrx
    clear hat h0 hr hpx hx0 hrx
    go_enter Try.func11, Try.ntmps11
    go_wp2_with (first | (go_at_call 38; refine (KF.out).mono ?_; rintro e w1 ⟨rfl, hb⟩; refine Hid.out ?_) | fail)
    have hx1 := HX.out.below hb; clear HX; have HX := Lib.hid hx1
    have hb1 := Below.chain HB.out hb; clear HB; have HB := Lib.hid hb1
    have hsw : ∀ W, Below w1.heap.size w1 W → ∀ p : Nat, Calls Try.prog 44 #[.int .i64 (p : Int), .pointer (some ⟨w.heap.size, 0, none⟩)] W fun e w' => e = .returned (.int .i64 (swF rx p : Nat)) ∧ Below W.heap.size W w' := fun W hW p => swap_any w.heap.size rx p W (hx1.below hW).c1
    have HSW := Lib.hid hsw
    clear hb hb1 y0 y1 y2 y3 KF hsw
    refine Lib.hid ?_
    go_wp2_with fail
    refine nw_region w.heap.size P rx _ _ _ _ _ _ _ _ _ _ _ _ _ _ _ _ _ _ _ _ _ _ _ _ _ _ _ _ _ _ _ _ _ _ _ _ _ _ _ _ _ _ _ _ _ _ _ _ _ _ _ _ _ _ _ _ _ _ _ _ _ _ _ _ _ _ _ _ _ _ _ _ _ _ _ _ _ _ _ _ _ _ _ _ _ _ _ _ _ _ _ _ _ _ _ _ _ _ _ _ _ _ _ _ _ _ _ _ _ _ _ _ _ _ _ _ _ _ _ _ _ _ _ hx1.lt hx1.c0 (fun W hW => by have h := HSW.out W hW 0; rw [swF_zero] at h; exact h) ?_
    intro u4 u17 u18 u19 u20 u21 w2 hq h0 h1 h2 h3 h4
    obtain ⟨⟨LS, rfl, hLS1, hLS2⟩, hb2⟩ := hq
    clear h0 h1 h2 h3 h4 hx1
    have hx2 := HX.out.below hb2
    have hb3 := Below.chain HB.out hb2
    have hgl : GBx w2 LS P rx none 0 0 := ⟨by rw [cell_of_row _ _ 0 _ _ (0, 0) hLS2]; rfl, by rw [cell_of_row _ _ 1 _ _ (0, 0) hLS2]; rfl, by rw [cell_of_row _ _ 2 _ _ (0, 0) hLS2]; rfl, (Array.getElem?_eq_some_iff.1 hLS2).1⟩
    have f0 : ∀ j, w2.frozen? ⟨LS, j, none⟩ = false := fun j => frozen_of_row _ _ j _ _ hLS2
    have HX2 := Lib.hid hx2; have HB2 := Lib.hid hb3; have G0 := Lib.hid hgl; have F0 := Lib.hid f0; have HB12 := Lib.hid hb2
    have HLS : Hid (w.heap.size < LS ∧ w1.heap.size ≤ LS ∧ LS < w2.heap.size) := Lib.hid ⟨by have := HX.out.lt; omega, hLS1, hgl.lt⟩
    obtain ⟨y0, y1, y2, y3⟩ := hx2
    clear hb2 hb3 hgl f0 hLS1 hLS2
    unfold nwAct
    go_wp2_with fail
    clear y0 y1 y2 y3
    go_loopw [25] (fun iv wr => ∃ (k : Nat) (vo : Option Addr) (vc : Nat), k ≤ E.length ∧ iv = .int .i64 (k : Int) ∧ EOwn w2.heap.size wr (.slice vo ((E.take k).map (swE rx)).length vc) ((E.take k).map (swE rx)) ∧ GBx wr LS P rx vo ((E.take k).map (swE rx)).length vc ∧ (∀ j, wr.frozen? ⟨LS, j, none⟩ = false) ∧ But (fun b => b = LS) w2 wr) (fun iv _ => E.length - (intOf iv).toNat)
    case atStart => exact ⟨0, none, 0, Nat.zero_le _, rfl, by rw [List.take_zero, List.map_nil]; exact EOwn.nil, by rw [List.take_zero, List.map_nil]; exact G0.out, F0.out, But.refl _ _⟩
    case round =>
      obtain ⟨wr1, rfl⟩ : ∃ W1 : World, W1 = wr := ⟨_, rfl⟩
      obtain ⟨k, vo, vc, hk, rfl, hown, hgb, hff, hB⟩ := hrel
      have hwz : w2.heap.size ≤ wr1.heap.size := hB.size
      have hbw1 : Below w1.heap.size w1 wr1 := HB12.out.trans ⟨hB.os, hB.tape, hB.output, hB.size, fun j hj => hB.block j (by have := HB12.out.size; omega) (by have := HLS.out; omega)⟩
      by_cases hlt : k < E.length
      · obtain ⟨b, o, rfl, hbl, he⟩ := HAT.out k hlt
        have j1 : (k : Int) < (E.length : Int) := by omega
        have j0 : (0 : Int) ≤ (k : Int) := by omega
        have he2 : EdAt wr1 b (o + k * 21) (edD E k) := (he.below' HB2.out hbl).but hB (by have := HB2.out.size; omega) (by have := HLS.out; omega)
        have htk := edD_take hlt
        have hpts := ckG_mem H0.out (edD_mem hlt)
        have hlk : ((E.take k).map (swE rx)).length = k := by rw [List.length_map, List.length_take]; omega
        generalize edD E k = d at *
        have q1 := isPt_true hpts.1; have q2 := isPt_true hpts.2
        obtain ⟨r, hr9⟩ : ∃ r : Nat, d.f = (r : Int) := ⟨d.f.toNat, by omega⟩
        obtain ⟨s, hs9⟩ : ∃ s : Nat, d.t = (s : Int) := ⟨d.t.toNat, by omega⟩
        have hse : swE rx d = zE ((swF rx s : Nat) : Int) ((swF rx r : Nat) : Int) := by unfold swE; rw [hr9, hs9, Int.toNat_natCast, Int.toNat_natCast]
        have htk2 : (E.take (k + 1)).map (swE rx) = ((E.take k).map (swE rx)) ++ [zE ((swF rx s : Nat) : Int) ((swF rx r : Nat) : Int)] := by rw [htk, List.map_append, List.map_cons, List.map_nil, hse]
        have bA : Below wr1.heap.size wr1 (wr1.alloc (.cells d.cs 55)) := (Below.refl _ _).alloc (Nat.le_refl _) _
        have hzA : (wr1.alloc (.cells d.cs 55)).heap.size = wr1.heap.size + 1 := by simp
        have q5 := ed_box0 wr1 d; have q6 := ed_box1 wr1 d
        rw [hr9] at q5
        rw [hs9] at q6
        have hoA := hown.below bA
        have hgA := hgb.below bA
        have hfA := (bA.frozen (p := ⟨LS, 2, none⟩) (by have := HLS.out; dsimp only; omega)).trans (hff 2)
        have hb1A := Below.chain hbw1 bA
        have HH := Lib.hid (And.intro hown (And.intro hgb (And.intro hff hB))); have HLT := Lib.hid hlt; have HE := Lib.hid he2; have HTK2 := Lib.hid htk2; have HBA := Lib.hid bA; have HZA := Lib.hid hzA; have HOA := Lib.hid hoA; have HGA := Lib.hid hgA; have HFA := Lib.hid hfA; have HB1A := Lib.hid hb1A; have Q5 := Lib.hid q5; have Q6 := Lib.hid q6; have HLK := Lib.hid hlk; have HWZ := Lib.hid hwz
        clear hown hgb hff hB hlt he he2 htk htk2 bA hzA hoA hgA hfA hb1A hbw1 hbl hpts q1 q2 hse hr9 hs9 hlk hwz q5 q6
        go_wp2_with (first | (refine wpList_load_ed (.tmp 27) rfl rfl b (o + k * 21) (by simp [Act.eval, Act.put]) d HE.out ?_) | (refine wpList_store_ed (.tmp 6) (.tmp 28) rfl rfl rfl (by simp [Act.eval, Act.put]) d (by simp [Act.eval, Act.put]) ?_) | fail)
        refine tv_region w2.heap.size LS w.heap.size wr1.heap.size r s ((swF rx s : Nat) : Int) ((swF rx r : Nat) : Int) (.slice vo ((E.take k).map (swE rx)).length vc) ((E.take k).map (swE rx)) _ _ _ _ _ _ _ _ _ _ _ _ _ _ _ _ _ _ _ _ _ _ _ _ _ _ _ _ _ _ _ _ _ _ _ _ _ _ _ _ _ _ _ _ _ _ _ _ _ _ _ _ _ _ _ _ _ _ _ _ _ _ _ _ _ _ _ _ _ _ _ _ _ _ _ _ _ _ _ _ _ _ _ _ _ _ _ _ _ _ _ _ _ _ _ _ _ _ _ _ _ _ _ _ _ _ _ _ _ _ _ _ _ _ _ _ _ _ _ _ _ _ (by rw [HLK.out]; omega) HGA.out.lt (fun b' e => by have := (HOA.out.lt e).1; have := HLS.out; omega) (fun b' e q => by have h := HH.out.1; have := (h.lt e).2; omega) (by rw [HZA.out]; omega) Q5.out Q6.out HGA.out.c2 HFA.out HOA.out (by have := HZA.out; have := HWZ.out; omega) (fun W hW => HSW.out W (Below.chain HB1A.out hW) s) (fun W hW => HSW.out W (Below.chain HB1A.out hW) r) ?_
        intro u29 u30 u31 u32 u33 u34 u35 u36 u37 u38 u39 u40 u41 u42 w5 hq h0 h1 h2 h3 h4 h5 h6 h7 h8 h9 h10 h13
        obtain ⟨e1, e2, ⟨g9, n9, cap, rfl, hg9⟩, w6, b6, rfl⟩ := hq
        clear h0 h1 h2 h3 h4 h5 h6 h7 h8 h9 h10 h13
        have hno : ¬ (Value.slice vo ((E.take k).map (swE rx)).length vc).ownBlock = some LS := fun e => by have := (HOA.out.lt e).1; have := HLS.out; omega
        have hgA := HGA.out
        have d0 := (b6.cell (p := ⟨LS, 0, none⟩) hgA.lt hno).trans hgA.c0
        have d1 := (b6.cell (p := ⟨LS, 1, none⟩) hgA.lt hno).trans hgA.c1
        have df := fun j => (b6.frozen (p := ⟨LS, j, none⟩) hgA.lt hno).trans ((HBA.out.frozen (p := ⟨LS, j, none⟩) (by have := HLS.out; have := HWZ.out; dsimp only; omega)).trans (HH.out.2.2.1 j))
        have hb6 := (HH.out.2.2.2.next HBA.out).trans b6 (fun k' hk' e => by have := (HOA.out.lt e).1; omega)
        have hn9 : n9 = k + 1 := by
          obtain ⟨ao9, c9, e9⟩ := e1.slice
          rw [List.length_append, HLK.out] at e9
          cases e9; rfl
        subst hn9
        have hln : ((E.take (k + 1)).map (swE rx)).length = k + 1 := by rw [HTK2.out, List.length_append, HLK.out]; rfl
        have E1 := Lib.hid e1; have E2 := Lib.hid e2; have D0 := Lib.hid d0; have D1 := Lib.hid d1; have DF := Lib.hid df; have HB6 := Lib.hid hb6; have HLN := Lib.hid hln
        have HS6 : Hid (LS < w6.heap.size) := Lib.hid (by have := b6.size; have := hgA.lt; omega)
        clear e1 e2 d0 d1 df hb6 b6 hno hgA hln
        unfold tvAct
        go_wp2_with fail
        go_roundw
        case rel =>
          refine ⟨k + 1, some ⟨g9, 0, none⟩, cap, HLT.out, by go_num, ?_, ⟨?_, ?_, by rw [HLN.out]; exact E2.out, by rw [World.size_setCell]; exact HS6.out⟩, fun j => ?_, HB6.out.set _ _ (fun _ => rfl)⟩
          · have h := E1.out
            rw [← HTK2.out] at h
            rw [HLN.out]
            exact h
          · rw [World.cell?_setCell_other (h := by intro q; cases q)]; exact D0.out
          · rw [World.cell?_setCell_other (h := by intro q; cases q)]; exact D1.out
          · rw [World.frozen?_setCell]; exact DF.out j
        case measure => have := HLT.out; simp [intOf]; omega
      · have hkm : k = E.length := by omega
        subst hkm
        rw [List.take_length] at hown hgb
        have hgx := HX2.out.but hB (by have := HLS.out; omega)
        have hbw : Below w.heap.size w wr1 := HB2.out.trans ⟨hB.os, hB.tape, hB.output, hB.size, fun j hj => hB.block j (by have := HB2.out.size; omega) (by have := HLS.out; omega)⟩
        have hrow := hown.row
        have hc0 := ckG_sw H0.out
        have HGB := Lib.hid hgb; have HGX := Lib.hid hgx; have HBW := Lib.hid hbw; have HC0 := Lib.hid hc0; have HROW := Lib.hid hrow; have HBW1 := Lib.hid hbw1
        obtain ⟨y0, y1, y2, y3⟩ := hgx
        obtain ⟨g0, g1, g2, g3⟩ := hgb
        clear hown hff hB hbw hrow hc0 HAT G0 F0 HX2 HB2 hwz hlt hbw1
        go_wp2_with fail
        have k1 := pdom_u (P : Int) (rx : Int) ao c E wr1 (HR.out _ HBW.out)
        unfold RDomsQ at k1
        rw [H0.out] at k1
        have K1 := Lib.hid k1
        clear k1
        go_wp2_with (first | (go_at_call 30; refine (K1.out).mono ?_; rintro e w3 ⟨hb, vd, rfl, hd⟩; refine Hid.out ?_) | fail)
        unfold domL at hd
        rw [if_pos H0.out, Int.toNat_natCast, Int.toNat_natCast] at hd
        have hb1 := Below.chain HBW.out hb
        obtain ⟨g0, g1, g2, g3⟩ := HGB.out.below hb
        have k2 := dom_u (P : Int) (rx : Int) vo vc (E.map (swE rx)) w3 (HROW.out.keep (B := fun b => w2.heap.size ≤ b) (But.of_below (S := fun _ => False) hb) (fun _ h _ => ⟨id, h⟩))
        unfold RDomsQ at k2
        rw [HC0.out, List.length_map] at k2
        have K2 := Lib.hid k2; have HX3 := Lib.hid (HGX.out.below hb); have HB3 := Lib.hid hb1; have HD3 := Lib.hid hd; have HBW3 := Lib.hid (Below.chain HBW1.out hb)
        clear k2 hb hd hb1 K1 y0 y1 y2 y3
        refine Lib.hid ?_
        go_wp2_with (first | (go_at_call 28; refine (K2.out).mono ?_; rintro e w4 ⟨hb, ve, rfl, hd⟩; refine Hid.out ?_) | fail)
        unfold domL at hd
        rw [if_pos HC0.out, Int.toNat_natCast] at hd
        have hd3 := HD3.out.below hb
        obtain ⟨ra, ca, rfl, ha1, ha2⟩ := hd3.shape (by omega)
        obtain ⟨rb, cb, rfl, hb9, hb10⟩ := hd.shape (by omega)
        have HB4 := Lib.hid (Below.chain HB3.out hb); have hx4 := HX3.out.below hb; have HX4 := Lib.hid hx4; have HBW4 := Lib.hid (Below.chain HBW3.out hb)
        have HA := Lib.hid (And.intro ha1 ha2); have HBB := Lib.hid (And.intro hb9 hb10)
        obtain ⟨y0, y1, y2, y3⟩ := hx4
        clear hb hd hd3 ha1 ha2 hb9 hb10 K2 g0 g1 g2 g3
        refine Lib.hid ?_
        go_wp2_with fail
        go_loopw [74] (fun iv wr => ∃ (p : Nat), p ≤ P ∧ iv = .int .i64 (p : Int) ∧ Below w4.heap.size w4 wr) (fun iv _ => P - (intOf iv).toNat)
        case atStart => exact ⟨0, Nat.zero_le _, rfl, Below.refl _ _⟩
        case round =>
          clear y0 y1 y2 y3
          obtain ⟨wr5, rfl⟩ : ∃ W1 : World, W1 = wr := ⟨_, rfl⟩
          obtain ⟨p, hp, rfl, hb5⟩ := hrel
          by_cases hlt : p < P
          · have j1 : (p : Int) < (P : Int) := by omega
            have j0 : (0 : Int) ≤ (p : Int) := by omega
            have hsp := swF_lt HRX.out hlt
            have z1 := (hb5.cell (p := ⟨ra, p, none⟩) HA.out.1).trans (HA.out.2 p hlt)
            have z2 := (hb5.cell (p := ⟨rb, swF rx p, none⟩) HBB.out.1).trans (HBB.out.2 _ hsp)
            have hgx := HX4.out.below hb5
            have hsw := fun W hW => HSW.out W (Below.chain (Below.chain HBW4.out hb5) hW)
            have hra := Nat.lt_of_lt_of_le HA.out.1 hb5.size
            have hrb := Nat.lt_of_lt_of_le HBB.out.1 hb5.size
            have HB5 := Lib.hid hb5; have HLT := Lib.hid hlt; have HSP := Lib.hid hsp; have HSW5 := Lib.hid hsw; have HGX5 := Lib.hid hgx; have HRR := Lib.hid (And.intro hra hrb)
            rcases sw_idF H0.out HRX.out hlt with ⟨i1, i2⟩ | ⟨s, hs, i1, i2⟩
            · rw [i1] at z1
              rw [i2] at z2
              have Z := Lib.hid (And.intro z1 z2)
              clear hb5 hlt hsp hsw hgx hra hrb z1 z2 i1 i2
              go_wp2_with fail
              refine ta_region w.heap.size ra rb ca cb P p (swF rx p) _ _ _ _ _ _ _ _ _ _ _ _ _ _ _ _ _ _ _ _ _ _ _ _ _ _ _ _ _ _ _ _ _ _ _ _ _ _ _ _ _ _ _ _ _ _ _ _ _ _ _ _ _ _ _ _ _ _ _ _ _ _ _ _ _ _ _ _ _ _ _ _ _ _ _ _ _ _ _ _ _ _ _ _ _ _ _ _ _ _ _ _ _ _ _ _ _ _ _ _ _ _ _ _ _ _ _ _ _ _ _ _ _ _ _ _ _ _ _ _ HLT.out HSP.out (by omega) HRR.out.1 HRR.out.2 Z.out.1 Z.out.2 (fun W hW => HSW5.out W hW p) ?_
              intro u77 u78 u79 u80 u81 u82 u83 u84 u85 u86 u87 u88 u89 u90 u91 u92 u93 u94 u95 u96 u97 u98 u99 u100 u101 u102 u103 u104 u105 u106 u107 u108 u109 u110 u111 u112 u113 u114 u115 u116 u117 u118 u119 u120 u121 w6 b6 h0 h1 h2 h3 h4 h5 h6 h7 h8 h9 h10 h11 h12 h13 h14 h15 h16 h17 h18 h19 h20 h21 h22 h23 h24 h25 h26 h27 h28 h29 h30 h31 h32 h33 h34 h35 h36 h37 h38 h39 h40 h41 h42 h43 h44
              clear h0 h1 h2 h3 h4 h5 h6 h7 h8 h9 h10 h11 h12 h13 h14 h15 h16 h17 h18 h19 h20 h21 h22 h23 h24 h25 h26 h27 h28 h29 h30 h31 h32 h33 h34 h35 h36 h37 h38 h39 h40 h41 h42 h43
              subst h44
              have HB6 := Lib.hid (Below.chain HB5.out b6)
              clear b6
              unfold taAct
              go_wp2_with fail
              go_roundw
              case rel => exact ⟨p + 1, HLT.out, by go_num, HB6.out⟩
              case measure => have := HLT.out; simp [intOf]; omega
            · rw [i1] at z1
              rw [i2] at z2
              have Z := Lib.hid (And.intro z1 z2); have HS := Lib.hid hs
              clear hb5 hlt hsp hsw hgx hra hrb z1 z2 i1 i2 hs
              go_wp2_with fail
              refine tb_region w.heap.size ra rb ca cb P p (swF rx p) s (swF rx s) _ _ _ _ _ _ _ _ _ _ _ _ _ _ _ _ _ _ _ _ _ _ _ _ _ _ _ _ _ _ _ _ _ _ _ _ _ _ _ _ _ _ _ _ _ _ _ _ _ _ _ _ _ _ _ _ _ _ _ _ _ _ _ _ _ _ _ _ _ _ _ _ _ _ _ _ _ _ _ _ _ _ _ _ _ _ _ _ _ _ _ _ _ _ _ _ _ _ _ _ _ _ _ _ _ _ _ _ _ _ _ _ _ _ _ _ _ _ _ _ HLT.out HSP.out (by omega) HRR.out.1 HRR.out.2 HS.out HGX5.out.lt HGX5.out.c0 Z.out.1 Z.out.2 (fun W hW => HSW5.out W hW p) (fun W hW => HSW5.out W hW s) ?_
              intro u77 u78 u79 u80 u81 u82 u83 u84 u85 u86 u87 u88 u89 u90 u91 u92 u93 u94 u95 u96 u97 u98 u99 u100 u101 u102 u103 u104 u105 u106 u107 u108 u109 u110 u111 u112 u113 u114 u115 u116 u117 u118 u119 u120 u121 w6 b6 h0 h1 h2 h3 h4 h5 h6 h7 h8 h9 h10 h11 h12 h13 h14 h15 h16 h17 h18 h19 h20 h21 h22 h23 h24 h25 h26 h27 h28 h29 h30 h31 h32 h33 h34 h35 h36 h37 h38 h39 h40 h41 h42 h43 h44
              clear h0 h1 h2 h3 h4 h5 h6 h7 h8 h9 h10 h11 h12 h13 h14 h15 h16 h17 h18 h19 h20 h21 h22 h23 h24 h25 h26 h27 h28 h29 h30 h31 h32 h33 h34 h35 h36 h37 h38 h39 h40 h41 h42 h43
              subst h44
              have HB6 := Lib.hid (Below.chain HB5.out b6)
              clear b6
              unfold tbAct
              go_wp2_with fail
              go_roundw
              case rel => exact ⟨p + 1, HLT.out, by go_num, HB6.out⟩
              case measure => have := HLT.out; simp [intOf]; omega
          · have hpm : p = P := by omega
            subst hpm
            have HB5 := Lib.hid (Below.chain HB4.out hb5)
            clear hb5
            go_wp2_with (first | (go_at_call 14; refine (KW.out _).mono ?_; rintro e w7 ⟨rfl, hb⟩; refine Hid.out ?_) | fail)
            have HB7 := Lib.hid (Below.chain HB5.out hb)
            clear hb
            refine Lib.hid ?_
            go_wp2_with fail
            go_ret
            exact ⟨rfl, HB7.out⟩
end Go.Proofs.Ytjjkabgbcflipaa
