import Derived.Test.YtjjkabgbcflipaaHe1
import Derived.Test.YtjjkabgbcflipaaHe2
import Derived.Test.YtjjkabgbcflipaaHe3
import Derived.Test.YtjjkabgbcflipaaHe5
set_option linter.unusedSimpArgs false
set_option linter.unusedVariables false
namespace Go.Proofs.Ytjjkabgbcflipaa
open Go Go.Proofs Go.RowKit Go.Shelf GM

attribute [local go_sem] Oper.semAt_some

set_option maxRecDepth 100000 in
set_option maxHeartbeats 10000000 in
theorem graphHeads_walk {A : Nat → Prop} (n x : Int) (ao : Option Addr) (c : Nat) (E : List Ed) (w : World) (hr : ERow A w ao c E) :
    Calls Try.prog 12 #[.agg #[.int .i64 n, .int .i64 x, .slice ao E.length c]] w fun e w' => e = .returned (.bool true) ∧ Below w.heap.size w w' := by
  have hA : Below w.heap.size w (w.alloc (Obj.cells #[.int .i64 n, .int .i64 x, .slice ao E.length c] 24)) := (Below.refl _ _).alloc (Nat.le_refl _) _
  have hX := GBx.new w n x ao E.length c
  have HB := Lib.hid hA; have HX := Lib.hid hX
  have hR := fun W (hW : Below w.heap.size w W) => hr.keep (B := A) (But.of_below (S := fun _ => False) (w' := W) hW) (fun _ h _ => ⟨id, h⟩)
  have HR := Lib.hid hR
  have KF := Lib.hid (good_any n x ao c E (w.alloc (Obj.cells #[.int .i64 n, .int .i64 x, .slice ao E.length c] 24)) (hR _ hA))
  have KW := Lib.hid awake_any
  obtain ⟨y0, y1, y2, y3⟩ := hX
  clear hA hR
  cases hf : (fewG n E && decide (ckG n x E = 0)) with
  | false =>
    rw [hf] at KF
    go_enter Try.func12, Try.ntmps12
    go_wp2_with (first | (go_at_call 38; refine (KF.out).mono ?_; rintro e w1 ⟨rfl, hb⟩; refine Hid.out ?_) | fail)
    have HB1 := Lib.hid (Below.chain HB.out hb); clear hb HB
    refine Lib.hid ?_
    go_wp2_with (first | (go_at_call 14; refine (KW.out _).mono ?_; rintro e w2 ⟨rfl, hb⟩; refine Hid.out ?_) | fail)
    have HB2 := Lib.hid (Below.chain HB1.out hb); clear hb
    refine Lib.hid ?_
    go_wp2_with fail
    go_ret
    exact ⟨rfl, HB2.out⟩
  | true =>
    rw [hf] at KF
    rw [Bool.and_eq_true, decide_eq_true_iff] at hf
    have h0 := hf.2
    clear hf
    obtain ⟨hn1, hn2, hpx⟩ := ckG_pos h0
    obtain ⟨P, rfl⟩ := Int.eq_ofNat_of_zero_le (show 0 ≤ n by omega)
    obtain ⟨-, -, hlen, -⟩ := ckG_ok h0
    have hat : ∀ j, j < E.length → ∃ b o, ao = some ⟨b, o, none⟩ ∧ b < w.heap.size ∧ EdAt w b (o + j * 21) (edD E j) := fun j hj => by
      obtain ⟨b, o, e, -, h1, h2, -⟩ := hr.get j hj
      exact ⟨b, o, e, h1, h2⟩
    have HAT := Lib.hid hat; have H0 := Lib.hid h0; have HLEN := Lib.hid hlen
    clear hat h0 hr hpx
    have hP2 : P ≤ 512 := by omega
    go_enter Try.func12, Try.ntmps12
    go_wp2_with (first | (go_at_call 38; refine (KF.out).mono ?_; rintro e w1 ⟨rfl, hb⟩; refine Hid.out ?_) | fail)
    have hx1 := HX.out.below hb; clear HX; have HX := Lib.hid hx1
    have hb1 := Below.chain HB.out hb; clear HB; have HB := Lib.hid hb1
    clear hb hx1 hb1 y0 y1 y2 y3 KF
    obtain ⟨y0, y1, y2, y3⟩ := HX.out
    have HK := Lib.hid (loops_u P x ao c E w1 (HR.out _ HB.out) H0.out)
    refine Lib.hid ?_
    go_wp2_with (first | (go_at_call 34; refine (HK.out).mono ?_; rintro e w2 ⟨vL, Ls, t, T, rfl, hdt, hL, hLl, hLs, hb⟩; refine Hid.out ?_) | fail)
    have hx1 := HX.out.below hb; clear HX; have HX := Lib.hid hx1
    have hb1 := Below.chain HB.out hb; clear HB; have HB := Lib.hid hb1
    have HL := Lib.hid hL; have HLS := Lib.hid hLs; have HDT := Lib.hid hdt; have HLL := Lib.hid hLl
    clear hb hx1 hb1 y0 y1 y2 y3 HK hL hLs hdt hLl
    obtain ⟨y0, y1, y2, y3⟩ := HX.out
    have k1 := dom_u (P : Int) x ao c E w2 (HR.out _ HB.out)
    unfold RDomsQ at k1
    rw [H0.out] at k1
    have HK := Lib.hid k1
    clear k1
    refine Lib.hid ?_
    go_wp2_with (first | (go_at_call 28; refine (HK.out).mono ?_; rintro e w3 ⟨hb, vd, rfl, hd⟩; refine Hid.out ?_) | fail)
    have hx1 := HX.out.below hb; clear HX; have HX := Lib.hid hx1
    have hb1 := Below.chain HB.out hb; clear HB; have HB := Lib.hid hb1
    unfold domL at hd
    rw [if_pos H0.out, Int.toNat_natCast] at hd
    have HLx := Lib.hid (HL.out.below hb); clear HL; have HL := HLx; clear HLx
    have HD := Lib.hid hd
    clear hb hx1 hb1 y0 y1 y2 y3 HK hd
    obtain ⟨y0, y1, y2, y3⟩ := HX.out
    have HK := Lib.hid (back_u P x ao c E w3 (HR.out _ HB.out) H0.out HDT.out)
    refine Lib.hid ?_
    go_wp2_with (first | (go_at_call 32; refine (HK.out).mono ?_; rintro e w4 ⟨vb, rfl, hbk, hb⟩; refine Hid.out ?_) | fail)
    have hx1 := HX.out.below hb; clear HX; have HX := Lib.hid hx1
    have hb1 := Below.chain HB.out hb; clear HB; have HB := Lib.hid hb1
    have HLx := Lib.hid (HL.out.below hb); clear HL; have HL := HLx; clear HLx
    have HDx := Lib.hid (HD.out.below hb); clear HD; have HD := HDx; clear HDx
    have HBK := Lib.hid hbk
    clear hb hx1 hb1 y0 y1 y2 y3 HK hbk
    obtain ⟨y0, y1, y2, y3⟩ := HX.out
    have rN : rchN (P : Int) x E 0 = P := by unfold rchN; rw [if_pos ⟨H0.out, isPt_of ⟨by omega, by omega⟩⟩, Int.toNat_natCast]
    have rE : rchE (P : Int) x E 0 = 0 := by unfold rchE; rw [if_pos H0.out, if_pos (isPt_of ⟨by omega, by omega⟩)]
    have k2 := reach_u (P : Int) x ao c E w4 (HR.out _ HB.out) 0
    rw [rN, rE] at k2
    have HK := Lib.hid k2
    clear k2 rN rE
    refine Lib.hid ?_
    go_wp2_with (first | (go_at_call 19; refine (HK.out).mono ?_; rintro e w5 ⟨hb, p2, c2, rfl, hrb⟩; refine Hid.out ?_) | fail)
    have hx1 := HX.out.below hb; clear HX; have HX := Lib.hid hx1
    have hb1 := Below.chain HB.out hb; clear HB; have HB := Lib.hid hb1
    have hL5 := HL.out.below hb; have hd5 := HD.out.below hb; have hbk5 := HBK.out.below hb
    obtain ⟨ga, rfl, ha1, ha2⟩ : ∃ ga, p2 = some ⟨ga, 0, none⟩ ∧ ga < w5.heap.size ∧ ∀ q, q < P → w5.cell? ⟨ga, q, none⟩ = some (.bool (rchB (P : Int) E 0 q)) := by
      rcases hrb with h | h
      · omega
      · exact h
    obtain ⟨gd, dc, rfl, hd1, hd2⟩ := hd5.shape (by omega)
    obtain ⟨bo, bc, rfl⟩ := hbk5.slice
    obtain ⟨lo_, lc, rfl⟩ := hL5.slice
    obtain ⟨B, hB⟩ : ∃ B, ((List.range E.length).filter fun (i : Nat) => bkT P t T (edD E i)) = B := ⟨_, rfl⟩
    rw [hB] at hbk5
    have hBm : ∀ j, j ∈ B ↔ j < E.length ∧ bkT P t T (edD E j) = true := fun j => by rw [← hB, List.mem_filter, List.mem_range]
    have hBl : B.length ≤ 1024 := by rw [← hB]; exact Nat.le_trans (List.length_filter_le _ _) (by rw [List.length_range]; exact HLEN.out)
    have HL5 := Lib.hid hL5; have HD5 := Lib.hid hd5; have HBK5 := Lib.hid hbk5; have HA := Lib.hid (And.intro ha1 ha2); have HBM := Lib.hid hBm
    rw [hB]
    clear hb hx1 hb1 y0 y1 y2 y3 HK HL HD HBK hL5 hd5 hbk5 ha1 ha2 hBm hrb hd1 hd2 hB
    obtain ⟨y0, y1, y2, y3⟩ := HX.out
    have hlP : ¬ (P : Int) < (Ls.length : Int) := by have := HLL.out; omega
    have hlP2 : ¬ P < Ls.length := by have := HLL.out; omega
    refine Lib.hid ?_
    go_wp2_with fail
    clear y0 y1 y2 y3
    go_loopw [77] (fun iv wr => ∃ (k : Nat), k ≤ Ls.length ∧ iv = .int .i64 (k : Int) ∧ Below w5.heap.size w5 wr) (fun iv _ => Ls.length - (intOf iv).toNat)
    case atStart => exact ⟨0, Nat.zero_le _, rfl, Below.refl _ _⟩
    case round =>
      obtain ⟨wr1, rfl⟩ : ∃ W1 : World, W1 = wr := ⟨_, rfl⟩
      obtain ⟨k, hk, rfl, hb6⟩ := hrel
      by_cases hlt : k < Ls.length
      rotate_left
      · have hkm : k = Ls.length := by omega
        subst hkm
        have HB6 := Lib.hid (Below.chain HB.out hb6)
        clear hb6 hlt
        go_wp2_with (first | (go_at_call 14; refine (KW.out _).mono ?_; rintro e w9 ⟨rfl, hb⟩; refine Hid.out ?_) | fail)
        have HB9 := Lib.hid (Below.chain HB6.out hb)
        clear hb
        refine Lib.hid ?_
        go_wp2_with fail
        go_ret
        exact ⟨rfl, HB9.out⟩
      have j1 : (k : Int) < (Ls.length : Int) := by omega
      have j0 : (0 : Int) ≤ (k : Int) := by omega
      have hLk := HL5.out.below hb6
      obtain ⟨lg, lc2, e2, hlg, hcell⟩ := hLk.get (by omega)
      have e3 : lo_ = some ⟨lg, 0, none⟩ := by cases e2; rfl
      subst e3
      obtain ⟨c0, c1⟩ := hcell k hlt
      have hmem : Ls[k] ∈ Ls := List.getElem_mem hlt
      obtain ⟨pts, hpl, hS⟩ := HLS.out _ hmem
      have hown := hLk.pts _ hmem
      rw [hpl] at hown
      have hir := IR.of_own (A := fun _ => True) hown (fun _ _ => trivial)
      generalize Ls[k].h = h at *
      generalize Ls[k].v = pv at *
      have hp0 : 0 < pts.length := List.length_pos_of_mem hS.hin
      obtain ⟨pb, po, pc, rfl, -⟩ := hir.at 0 hp0
      have bA : Below wr1.heap.size wr1 (wr1.alloc (Obj.cells #[.int .i64 (h : Int), .slice (some ⟨pb, po, none⟩) pts.length pc] 73)) := (Below.refl _ _).alloc (Nat.le_refl _) _
      have hzA : (wr1.alloc (Obj.cells #[.int .i64 (h : Int), .slice (some ⟨pb, po, none⟩) pts.length pc] 73)).heap.size = wr1.heap.size + 1 := by simp
      have m0 : (wr1.alloc (Obj.cells #[.int .i64 (h : Int), .slice (some ⟨pb, po, none⟩) pts.length pc] 73)).cell? ⟨wr1.heap.size, 0, none⟩ = some (.int .i64 (h : Int)) := by go_cell
      have m1 : (wr1.alloc (Obj.cells #[.int .i64 (h : Int), .slice (some ⟨pb, po, none⟩) pts.length pc] 73)).cell? ⟨wr1.heap.size, 1, none⟩ = some (.slice (some ⟨pb, po, none⟩) pts.length pc) := by go_cell
      have HM := Lib.hid (And.intro m0 m1); have HBA := Lib.hid (Below.chain hb6 bA); have HZA := Lib.hid hzA; have HS := Lib.hid hS; have HIR := Lib.hid (hir.below bA); have HLT := Lib.hid hlt
      obtain ⟨lb, hlb⟩ : ∃ lb, wr1.heap.size = lb := ⟨_, rfl⟩
      have hgx := HX.out.below (Below.chain hb6 bA)
      have HGX := Lib.hid hgx
      obtain ⟨y0, y1, y2, y3⟩ := hgx
      clear hb6 hLk e2 hlg hcell hmem hpl hS hown hir bA hzA m0 m1 hlt
      go_wp2_with fail
      generalize (wr1.alloc (Obj.cells #[.int .i64 (h : Int), .slice (some ⟨pb, po, none⟩) pts.length pc] 73)) = WA at *
      rw [hlb] at HM HZA
      try rw [hlb]
      clear c0 c1 y0 y1 y2 y3 hlb
      have HLB : Hid (lb < WA.heap.size) := Lib.hid (by have := HZA.out; omega)
      have hEl : E.length ≤ 1024 := hlen
      have hPl : pts.length ≤ 1000 := HS.out.len
      go_loopw [83, 13] (fun iv ev wr => ∃ (i : Nat) (ent : Bool), i ≤ B.length ∧ iv = .int .i64 (i : Int) ∧ ev = .bool ent ∧ (ent = true ↔ ∃ i', i' < i ∧ (edD E (atD B i')).t = (h : Int) ∧ (edD E (atD B i')).f.toNat ∈ pts) ∧ Below WA.heap.size WA wr) (fun iv _ _ => B.length - (intOf iv).toNat)
      case atStart => exact ⟨0, false, Nat.zero_le _, rfl, rfl, ⟨fun e => (by cases e), fun ⟨i', hi, _⟩ => absurd hi (by omega)⟩, Below.refl _ _⟩
      case round =>
        obtain ⟨wr2, rfl⟩ : ∃ W1 : World, W1 = wr := ⟨_, rfl⟩
        obtain ⟨i, ent, hi, rfl, rfl, hent, hb7⟩ := hrel
        by_cases hlt2 : i < B.length
        · have i1 : (i : Int) < (B.length : Int) := by omega
          have i0 : (0 : Int) ≤ (i : Int) := by omega
          have hb57 := Below.chain HBA.out hb7
          have hbk7 := HBK5.out.below hb57
          obtain ⟨bb, bo2, bc2, e4, hbc⟩ := hbk7.at i hlt2
          have e5 : bo = some ⟨bb, bo2, none⟩ := by cases e4; rfl
          subst e5
          obtain ⟨hkE, hkb⟩ := (HBM.out _).1 (atD_mem hlt2)
          obtain ⟨eb, eo, rfl, heb, he⟩ := HAT.out _ hkE
          have hbE := HB.out.trans (hb57.mono HB.out.size)
          have hpt := ckG_mem H0.out (edD_mem hkE)
          have hnext : ∀ i', i' < i + 1 ↔ i' < i ∨ i' = i := fun i' => by omega
          generalize hkk : atD B i = kk at *
          have q1 := isPt_true hpt.1; have q2 := isPt_true hpt.2
          obtain ⟨f, hf⟩ : ∃ f : Nat, (edD E kk).f = (f : Int) := ⟨(edD E kk).f.toNat, by omega⟩
          obtain ⟨s, hs⟩ : ∃ s : Nat, (edD E kk).t = (s : Int) := ⟨(edD E kk).t.toNat, by omega⟩
          have x0 : wr2.cell? ⟨eb, eo + kk * 21, none⟩ = some (.int .i64 (f : Int)) := by
            have h : wr2.cell? ⟨eb, eo + kk * 21, none⟩ = some (.int .i64 (edD E kk).f) := (hbE.cell (p := ⟨eb, eo + kk * 21, none⟩) heb).trans (he 0 _ rfl)
            rwa [hf] at h
          have x1 : wr2.cell? ⟨eb, eo + kk * 21 + 1, none⟩ = some (.int .i64 (s : Int)) := by
            have h : wr2.cell? ⟨eb, eo + kk * 21 + 1, none⟩ = some (.int .i64 (edD E kk).t) := (hbE.cell (p := ⟨eb, eo + kk * 21 + 1, none⟩) heb).trans (he 1 _ rfl)
            rwa [hs] at h
          have hstep : ∀ b : Bool, (b = true ↔ (s = h ∧ f ∈ pts)) → ((ent || b) = true ↔ ∃ i', i' < i + 1 ∧ (edD E (atD B i')).t = (h : Int) ∧ (edD E (atD B i')).f.toNat ∈ pts) := fun b hb => by
            rw [Bool.or_eq_true, hent, hb]
            constructor
            · rintro (⟨i', h1, h2⟩ | ⟨h1, h2⟩)
              · exact ⟨i', by omega, h2⟩
              · exact ⟨i, by omega, by rw [hkk, hs, h1], by rw [hkk, hf, Int.toNat_natCast]; exact h2⟩
            · rintro ⟨i', h1, h2, h3⟩
              rcases (hnext i').1 h1 with h4 | h4
              · exact .inl ⟨i', h4, h2, h3⟩
              · subst h4
                rw [hkk] at h2 h3
                rw [hs] at h2
                rw [hf, Int.toNat_natCast] at h3
                exact .inr ⟨by omega, h3⟩
          have hgx := HGX.out.below hb7
          have hm0 := (hb7.cell (p := ⟨lb, 0, none⟩) HLB.out).trans HM.out.1
          have hm1 := (hb7.cell (p := ⟨lb, 1, none⟩) HLB.out).trans HM.out.2
          have hlb2 := Nat.lt_of_lt_of_le HLB.out hb7.size
          have heb2 := Nat.lt_of_lt_of_le heb hbE.size
          have k0 : (kk : Int) < (E.length : Int) := by omega
          have k1 : ¬ (kk : Int) < 0 := by omega
          have k2 : ¬ (E.length : Int) ≤ (kk : Int) := by omega
          have k3 : ¬ E.length ≤ kk := by omega
          have HST := Lib.hid hstep; have HB7 := Lib.hid hb7; have HLT2 := Lib.hid hlt2; have HKE := Lib.hid hkE
          have HREG := Lib.hid (And.intro hgx (And.intro x0 (And.intro x1 (And.intro hm0 (And.intro hm1 (And.intro hlb2 heb2))))))
          have HIR7 := Lib.hid (HIR.out.below hb7)
          have z8 := hbc
          obtain ⟨y0, y1, y2, y3⟩ := hgx
          clear hstep hb7 hlt2 hkE x0 x1 hm0 hm1 hlb2 heb2 hbE hb57 hbk7 e4 hbc he hpt q1 q2 hf hs hkk hkb hent heb hnext
          cases ent with
          | true =>
            go_wp2_with fail
            clear y0 y1 y2 y3 z8
            refine h0r_region w.heap.size eb eo E.length c lb kk s f h pb po pts.length pc false _ _ _ _ _ _ _ _ _ _ _ _ _ _ _ _ _ _ _ _ _ _ _ _ _ _ _ _ _ _ _ _ _ _ _ _ _ _ _ _ _ _ _ _ _ _ _ _ _ _ _ _ _ _ _ _ _ _ _ _ _ _ _ _ _ _ _ _ _ _ _ _ _ _ _ _ _ _ _ _ _ _ _ _ _ _ _ _ _ _ _ _ _ _ _ _ _ _ _ _ _ _ _ _ _ _ _ _ _ _ _ _ _ _ _ _ _ _ _ _ _ _ _ _ _ _ _ _ _ _ _ _ _ _ _ _ _ _ _ _ _ _ _ _ _ _ _ _ _ _ _ _ _ _ _ _ _ _ _ _ _ _ _ _ _ _ _ _ _ _ _ _ _ _ _ _ _ _ _ _ _ _ _ _ _ _ _ _ _ _ _ _ _ ?_
            intro u13 u96 u97 u98 u99 u100 u101 u102 u103 u104 u105 u106 u107 u108 u109 u110 u111 u112 u113 u114 u115 u116 u117 u118 w6 b6 h0 h1 h2 h3 h4 h5 h6 h7 h8 h9 h10 h11 h12 h13 h14 h15 h16 h17 h18 h19 h20 h21 h22 h23
            clear h0 h1 h2 h3 h4 h5 h6 h7 h8 h9 h10 h11 h12 h13 h14 h15 h16 h17 h18 h19 h20 h21 h22
            subst h23
            have HB8 := Lib.hid (Below.chain HB7.out b6)
            clear b6
            unfold h0rAct
            go_wp2_with fail
            go_roundw
            case rel =>
              by_cases hz : s = h ∧ f ∈ pts
              · have := HST.out true ⟨fun _ => hz, fun _ => rfl⟩
                exact ⟨i + 1, true, HLT2.out, by go_num, rfl, this, HB8.out⟩
              · have := HST.out false ⟨fun e => (by cases e), fun q => (hz q).elim⟩
                exact ⟨i + 1, true, HLT2.out, by go_num, rfl, this, HB8.out⟩
            case measure => have := HLT2.out; simp [intOf]; omega
          | false =>
            by_cases hsh : s = h
            · obtain ⟨z, hz⟩ : ∃ z, decide (f ∈ pts) = z := ⟨_, rfl⟩
              have hst := HST.out z ⟨fun e => ⟨hsh, by rw [e] at hz; exact of_decide_eq_true hz⟩, fun q => by rw [← hz]; exact decide_eq_true q.2⟩
              have HST2 := Lib.hid hst; have HSH := Lib.hid hsh; have HZ := Lib.hid hz
              clear hst hsh hz HST
              go_wp2_with fail
              clear y0 y1 y2 y3 z8
              refine h2r_region w.heap.size eb eo E.length c lb kk s f h pb po pts.length pc z _ _ _ _ _ _ _ _ _ _ _ _ _ _ _ _ _ _ _ _ _ _ _ _ _ _ _ _ _ _ _ _ _ _ _ _ _ _ _ _ _ _ _ _ _ _ _ _ _ _ _ _ _ _ _ _ _ _ _ _ _ _ _ _ _ _ _ _ _ _ _ _ _ _ _ _ _ _ _ _ _ _ _ _ _ _ _ _ _ _ _ _ _ _ _ _ _ _ _ _ _ _ _ _ _ _ _ _ _ _ _ _ _ _ _ _ _ _ _ _ _ _ _ _ _ _ _ _ _ _ _ _ _ _ _ _ _ _ _ _ _ _ _ _ _ _ _ _ _ _ _ _ _ _ _ _ _ _ _ _ _ _ _ _ _ _ _ _ _ _ _ _ _ _ _ _ _ _ _ _ _ _ _ _ _ _ _ _ _ _ _ _ _ HKE.out (by omega) HREG.out.1.lt HREG.out.2.2.2.2.2.2 HREG.out.2.2.2.2.2.1 HREG.out.1.c2 HREG.out.2.2.1 HREG.out.2.2.2.1 HSH HREG.out.2.1 HREG.out.2.2.2.2.1 (fun W hW => by have h := contains_ir (HIR7.out.below hW) (by omega) f; rw [HZ.out] at h; exact h) ?_
              intro u13 u96 u97 u98 u99 u100 u101 u102 u103 u104 u105 u106 u107 u108 u109 u110 u111 u112 u113 u114 u115 u116 u117 u118 w6 b6 h0 h1 h2 h3 h4 h5 h6 h7 h8 h9 h10 h11 h12 h13 h14 h15 h16 h17 h18 h19 h20 h21 h22 h23
              clear h0 h1 h2 h3 h4 h5 h6 h7 h8 h9 h10 h11 h12 h13 h14 h15 h16 h17 h18 h19 h20 h21 h22
              subst h23
              have HB8 := Lib.hid (Below.chain HB7.out b6)
              clear b6
              unfold h2rAct
              go_wp2_with fail
              go_roundw
              case rel => exact ⟨i + 1, z, HLT2.out, by go_num, rfl, HST2.out, HB8.out⟩
              case measure => have := HLT2.out; simp [intOf]; omega
            · have hst := HST.out false ⟨fun e => (by cases e), fun q => (hsh q.1).elim⟩
              have HST2 := Lib.hid hst; have HSH := Lib.hid hsh
              clear hst hsh HST
              go_wp2_with fail
              clear y0 y1 y2 y3 z8
              refine h1r_region w.heap.size eb eo E.length c lb kk s f h pb po pts.length pc false _ _ _ _ _ _ _ _ _ _ _ _ _ _ _ _ _ _ _ _ _ _ _ _ _ _ _ _ _ _ _ _ _ _ _ _ _ _ _ _ _ _ _ _ _ _ _ _ _ _ _ _ _ _ _ _ _ _ _ _ _ _ _ _ _ _ _ _ _ _ _ _ _ _ _ _ _ _ _ _ _ _ _ _ _ _ _ _ _ _ _ _ _ _ _ _ _ _ _ _ _ _ _ _ _ _ _ _ _ _ _ _ _ _ _ _ _ _ _ _ _ _ _ _ _ _ _ _ _ _ _ _ _ _ _ _ _ _ _ _ _ _ _ _ _ _ _ _ _ _ _ _ _ _ _ _ _ _ _ _ _ _ _ _ _ _ _ _ _ _ _ _ _ _ _ _ _ _ _ _ _ _ _ _ _ _ _ _ _ _ _ _ _ HKE.out (by omega) HREG.out.1.lt HREG.out.2.2.2.2.2.2 HREG.out.2.2.2.2.2.1 HREG.out.1.c2 HREG.out.2.2.1 HREG.out.2.2.2.1 HSH ?_
              intro u13 u96 u97 u98 u99 u100 u101 u102 u103 u104 u105 u106 u107 u108 u109 u110 u111 u112 u113 u114 u115 u116 u117 u118 w6 b6 h0 h1 h2 h3 h4 h5 h6 h7 h8 h9 h10 h11 h12 h13 h14 h15 h16 h17 h18 h19 h20 h21 h22 h23
              clear h0 h1 h2 h3 h4 h5 h6 h7 h8 h9 h10 h11 h12 h13 h14 h15 h16 h17 h18 h19 h20 h21 h22
              subst h23
              have HB8 := Lib.hid (Below.chain HB7.out b6)
              clear b6
              unfold h1rAct
              go_wp2_with fail
              go_roundw
              case rel => exact ⟨i + 1, false, HLT2.out, by go_num, rfl, HST2.out, HB8.out⟩
              case measure => have := HLT2.out; simp [intOf]; omega
        · have him : i = B.length := by omega
          have henT : ent = true := by
            obtain ⟨j, hj, h1, h2, h3⟩ := HS.out.ent
            have hjB := (HBM.out j).2 ⟨hj, h1⟩
            obtain ⟨i', hi', e⟩ := List.getElem_of_mem hjB
            refine hent.2 ⟨i', by omega, ?_⟩
            rw [show atD B i' = j by unfold atD; rw [List.getD_eq_getElem?_getD, List.getElem?_eq_getElem hi']; exact e]
            exact ⟨h2, h3⟩
          subst henT
          have hm0 := (hb7.cell (p := ⟨lb, 0, none⟩) HLB.out).trans HM.out.1
          have hm1 := (hb7.cell (p := ⟨lb, 1, none⟩) HLB.out).trans HM.out.2
          have hir7 := HIR.out.below hb7
          have kc := contains_ir hir7 (by omega) h
          rw [decide_eq_true HS.out.hin] at kc
          have KC := Lib.hid kc; have HB7 := Lib.hid hb7; have HIR7 := Lib.hid hir7; have HM7 := Lib.hid (And.intro hm0 hm1)
          subst him
          clear kc hb7 hir7 hent hlt2
          go_wp2_with (first | (go_at_call 40; refine (KC.out).mono ?_; rintro e w6 ⟨rfl, hb⟩; refine Hid.out ?_) | fail)
          have hir8 := HIR7.out.below hb
          have hm2 := (hb.cell (p := ⟨lb, 0, none⟩) (Nat.lt_of_lt_of_le HLB.out HB7.out.size)).trans hm0
          have hm3 := (hb.cell (p := ⟨lb, 1, none⟩) (Nat.lt_of_lt_of_le HLB.out HB7.out.size)).trans hm1
          have KS := Lib.hid (isSorted_any hir8 HS.out.sor HS.out.len (List.length_pos_of_mem HS.out.hin)); have HB8 := Lib.hid (Below.chain HB7.out hb); have HIR8 := Lib.hid hir8
          clear hb hir8 hm0 hm1 KC HIR7
          refine Lib.hid ?_
          go_wp2_with (first | (go_at_call 45; refine (KS.out).mono ?_; rintro e w7 ⟨rfl, hb⟩; refine Hid.out ?_) | fail)
          have hb9 := Below.chain HB8.out hb
          have hir9 := HIR8.out.below hb
          have hm4 := (hb9.cell (p := ⟨lb, 0, none⟩) HLB.out).trans HM.out.1
          have hm5 := (hb9.cell (p := ⟨lb, 1, none⟩) HLB.out).trans HM.out.2
          have HB9 := Lib.hid hb9; have HIR9 := Lib.hid hir9
          clear hb hb9 hir9 hm2 hm3 KS HIR8 HB8 HB7 HM7
          refine Lib.hid ?_
          go_wp2_with fail
          clear hm4 hm5
          have hPR : ∀ q, Rch (nxF P E) (fun _ => False) 0 q → q < P := fun q g => rch_lt H0.out (by omega) g
          have HPR := Lib.hid hPR
          clear hPR
          go_loopw [139] (fun iv wr => ∃ (q : Nat), q ≤ pts.length ∧ iv = .int .i64 (q : Int) ∧ Below WA.heap.size WA wr) (fun iv _ => pts.length - (intOf iv).toNat)
          case atStart => exact ⟨0, Nat.zero_le _, rfl, HB9.out⟩
          case round =>
            obtain ⟨wr3, rfl⟩ : ∃ W1 : World, W1 = wr := ⟨_, rfl⟩
            obtain ⟨q, hq, rfl, hb10⟩ := hrel
            by_cases hlt3 : q < pts.length
            · have i1 : (q : Int) < (pts.length : Int) := by omega
              have i0 : (0 : Int) ≤ (q : Int) := by omega
              have hirq := HIR.out.below hb10
              obtain ⟨pb2, po2, pc2, e6, x0⟩ := hirq.at q hlt3
              have x1 : wr3.cell? ⟨pb, po + q, none⟩ = some (.int .i64 (atD pts q : Nat)) := by cases e6; exact x0
              have hmq := atD_mem hlt3
              have hdq := HS.out.dom _ hmq
              have hlq := HS.out.lt _ hmq
              clear e6 x0 hirq hmq
              generalize atD pts q = p at *
              have hd10 := HD5.out.below (Below.chain HBA.out hb10)
              have k6 := chain_any HPR.out hlq (by omega) _ wr3 hd10
              have K6 := Lib.hid k6; have HB10 := Lib.hid hb10; have HLT3 := Lib.hid hlt3; have HDQ := Lib.hid hdq
              clear k6 hd10 hb10 hlt3 hdq hlq
              go_wp2_with (first | (go_at_call 39; refine (K6.out).mono ?_; rintro e w8 ⟨u, D, rfl, hu, hDl, hDm, hb⟩; refine Hid.out ?_) | fail)
              have hir := IR.of_own (A := fun _ => True) hu (fun _ _ => trivial)
              have hco := contains_ir hir (by omega) h
              rw [decide_eq_true ((hDm h).2 HDQ.out)] at hco
              have hb11 := Below.chain HB10.out hb
              have m0 := (hb11.cell (p := ⟨lb, 0, none⟩) HLB.out).trans HM.out.1
              obtain ⟨uo, uc, rfl⟩ := hir.slice
              have HCO := Lib.hid hco; have HB11 := Lib.hid hb11
              clear hco hir hu hDm hDl hb hb11 K6 x1
              generalize D.length = ul at *
              refine Lib.hid ?_
              go_wp2_with (first | (go_at_call 40; refine (HCO.out).mono ?_; rintro e w9 ⟨rfl, hb⟩; refine Hid.out ?_) | fail)
              have HB12 := Lib.hid (Below.chain HB11.out hb)
              clear hb m0
              refine Lib.hid ?_
              go_wp2_with fail
              go_roundw
              case rel => exact ⟨q + 1, HLT3.out, by go_num, HB12.out⟩
              case measure => have := HLT3.out; simp [intOf]; omega
            · have hqm : q = pts.length := by omega
              subst hqm
              obtain ⟨y0, y1, y2, y3⟩ := HGX.out.below hb10
              have HB10 := Lib.hid hb10
              clear hb10 hlt3
              go_wp2_with fail
              clear y0 y1 y2 y3
              go_loopw [162] (fun iv wr => ∃ (j : Nat), j ≤ E.length ∧ iv = .int .i64 (j : Int) ∧ Below WA.heap.size WA wr) (fun iv _ => E.length - (intOf iv).toNat)
              case atStart => exact ⟨0, Nat.zero_le _, rfl, HB10.out⟩
              case round =>
                obtain ⟨wr4, rfl⟩ : ∃ W1 : World, W1 = wr := ⟨_, rfl⟩
                obtain ⟨j, hj, rfl, hb13⟩ := hrel
                by_cases hlt4 : j < E.length
                · obtain ⟨eb, eo, rfl, heb, he⟩ := HAT.out j hlt4
                  have i1 : (j : Int) < (E.length : Int) := by omega
                  have i0 : (0 : Int) ≤ (j : Int) := by omega
                  have hbE : Below w.heap.size w wr4 := HB.out.trans ((Below.chain HBA.out hb13).mono HB.out.size)
                  have he2 : EdAt wr4 eb (eo + j * 21) (edD E j) := he.below' hbE heb
                  have hmem := edD_mem hlt4
                  have hpt := ckG_mem H0.out hmem
                  have hclo := HS.out.clo _ hmem
                  clear hmem he
                  generalize edD E j = d at *
                  have q1 := isPt_true hpt.1; have q2 := isPt_true hpt.2
                  obtain ⟨f, hf⟩ : ∃ f : Nat, d.f = (f : Int) := ⟨d.f.toNat, by omega⟩
                  obtain ⟨s, hs⟩ : ∃ s : Nat, d.t = (s : Int) := ⟨d.t.toNat, by omega⟩
                  rw [hf, hs, Int.toNat_natCast, Int.toNat_natCast] at hclo
                  have f0 : (0 : Int) ≤ (f : Int) := by omega
                  have f1 : (f : Int) < (P : Int) := by omega
                  have bA : Below wr4.heap.size wr4 (wr4.alloc (.cells d.cs 55)) := (Below.refl _ _).alloc (Nat.le_refl _) _
                  have hzA : (wr4.alloc (.cells d.cs 55)).heap.size = wr4.heap.size + 1 := by simp
                  have q5 := ed_box0 wr4 d; have q6 := ed_box1 wr4 d
                  rw [hf] at q5
                  rw [hs] at q6
                  have hb14 := Below.chain hb13 bA
                  have z1 := ((Below.chain HBA.out hb14).cell (p := ⟨ga, f, none⟩) HA.out.1).trans (HA.out.2 f (by omega))
                  have m0 := (hb14.cell (p := ⟨lb, 0, none⟩) HLB.out).trans HM.out.1
                  have m1 := (hb14.cell (p := ⟨lb, 1, none⟩) HLB.out).trans HM.out.2
                  have hirA := HIR.out.below hb14
                  have HE := Lib.hid he2; have HB14 := Lib.hid hb14; have HLT4 := Lib.hid hlt4; have HZ4 := Lib.hid hzA; have HIRA := Lib.hid hirA
                  clear he2 hbE hb13 hb14 hlt4 hzA hirA bA q1 q2 hpt hf hs
                  cases hal : rchB (P : Int) E 0 f with
                  | false =>
                    rw [hal] at z1
                    clear hal hclo
                    go_wp2_with (first | (refine wpList_load_ed (.tmp 164) rfl rfl eb (eo + j * 21) (by simp [Act.eval, Act.put]) d HE.out ?_) | (refine wpList_store_ed (.tmp 21) (.tmp 165) rfl rfl rfl (by simp [Act.eval, Act.put]) d (by simp [Act.eval, Act.put]) ?_) | fail)
                    go_roundw
                    case rel => exact ⟨j + 1, HLT4.out, by go_num, HB14.out⟩
                    case measure => have := HLT4.out; simp [intOf]; omega
                  | true =>
                    have hyes : Rch (nxF P E) (fun _ => False) 0 f := by
                      have := (rchB_iff (P : Int) E 0 f).1 hal
                      rwa [Int.toNat_natCast] at this
                    rw [hal] at z1
                    have hcl := hclo hyes
                    clear hclo hyes hal
                    by_cases hsh : s = h
                    · have t9 : ((s : Int) != (h : Int)) = false := by rw [bne_eq_false_iff_eq]; omega
                      have t8 : ((s : Int) == (h : Int)) = true := by rw [beq_iff_eq]; omega
                      have HSH := Lib.hid hsh
                      clear hsh hcl
                      go_wp2_with (first | (refine wpList_load_ed (.tmp 164) rfl rfl eb (eo + j * 21) (by simp [Act.eval, Act.put]) d HE.out ?_) | (refine wpList_store_ed (.tmp 21) (.tmp 165) rfl rfl rfl (by simp [Act.eval, Act.put]) d (by simp [Act.eval, Act.put]) ?_) | fail)
                      go_roundw
                      case rel => exact ⟨j + 1, HLT4.out, by go_num, HB14.out⟩
                      case measure => have := HLT4.out; simp [intOf]; omega
                    · have t9 : ((s : Int) != (h : Int)) = true := by rw [bne_iff_ne]; omega
                      have t8 : ((s : Int) == (h : Int)) = false := by rw [beq_eq_false_iff_ne]; omega
                      have kc1 := contains_ir HIRA.out (by omega) s
                      cases hzs : decide (s ∈ pts) with
                      | false =>
                        rw [hzs] at kc1
                        have KC1 := Lib.hid kc1
                        clear kc1 hzs hcl
                        go_wp2_with (first | (refine wpList_load_ed (.tmp 164) rfl rfl eb (eo + j * 21) (by simp [Act.eval, Act.put]) d HE.out ?_) | (refine wpList_store_ed (.tmp 21) (.tmp 165) rfl rfl rfl (by simp [Act.eval, Act.put]) d (by simp [Act.eval, Act.put]) ?_) | (go_at_call 40; refine (KC1.out).mono ?_; rintro e w8 ⟨rfl, hb⟩; refine Hid.out ?_) | fail)
                        have HB15 := Lib.hid (Below.chain HB14.out hb)
                        clear hb
                        refine Lib.hid ?_
                        go_wp2_with fail
                        go_roundw
                        case rel => exact ⟨j + 1, HLT4.out, by go_num, HB15.out⟩
                        case measure => have := HLT4.out; simp [intOf]; omega
                      | true =>
                        rw [hzs] at kc1
                        have KC1 := Lib.hid kc1
                        have hfin := hcl hsh (of_decide_eq_true hzs)
                        have HFI := Lib.hid hfin; have Q5 := Lib.hid q5
                        clear kc1 hzs hcl hfin
                        go_wp2_with (first | (refine wpList_load_ed (.tmp 164) rfl rfl eb (eo + j * 21) (by simp [Act.eval, Act.put]) d HE.out ?_) | (refine wpList_store_ed (.tmp 21) (.tmp 165) rfl rfl rfl (by simp [Act.eval, Act.put]) d (by simp [Act.eval, Act.put]) ?_) | (go_at_call 40; refine (KC1.out).mono ?_; rintro e w8 ⟨rfl, hb⟩; refine Hid.out ?_) | fail)
                        have kc2 := contains_ir (HIRA.out.below hb) (by omega) f
                        rw [decide_eq_true HFI.out] at kc2
                        have q7 := (hb.cell (p := ⟨wr4.heap.size, 0, none⟩) (by rw [HZ4.out]; dsimp only; omega)).trans Q5.out
                        have HB15 := Lib.hid (Below.chain HB14.out hb); have KC2 := Lib.hid kc2
                        have m2 := (HB15.out.cell (p := ⟨lb, 1, none⟩) HLB.out).trans HM.out.2
                        clear hb kc2 KC1 q5 q6 m0 m1 z1
                        refine Lib.hid ?_
                        go_wp2_with (first | (go_at_call 40; refine (KC2.out).mono ?_; rintro e w9 ⟨rfl, hb⟩; refine Hid.out ?_) | fail)
                        have HB16 := Lib.hid (Below.chain HB15.out hb)
                        clear hb
                        refine Lib.hid ?_
                        go_wp2_with fail
                        go_roundw
                        case rel => exact ⟨j + 1, HLT4.out, by go_num, HB16.out⟩
                        case measure => have := HLT4.out; simp [intOf]; omega
                · have hjm : j = E.length := by omega
                  subst hjm
                  have HB13 := Lib.hid hb13
                  clear hb13 hlt4
                  go_wp2_with fail
                  go_roundw
                  case rel => exact ⟨k + 1, by have := HLT.out; omega, by go_num, Below.chain HBA.out HB13.out⟩
                  case measure => have := HLT.out; simp [intOf]; omega
end Go.Proofs.Ytjjkabgbcflipaa
