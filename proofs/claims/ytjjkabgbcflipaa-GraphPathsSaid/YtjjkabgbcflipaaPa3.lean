import Derived.Test.YtjjkabgbcflipaaPa1
import Derived.Test.YtjjkabgbcflipaaPa2
import Derived.Test.YtjjkabgbcflipaaCu28
import Derived.ChangeSlices
import Derived.DataShut
set_option linter.unusedSimpArgs false
set_option linter.unusedVariables false
namespace Go.Proofs.Ytjjkabgbcflipaa
open Go Go.Proofs Go.RowKit Go.Shelf GM

attribute [local go_sem] Oper.semAt_some

/-- A row of bytes that can be read. -/
def U8Row (W : World) (co : Option Addr) (K : Nat) : Prop := K = 0 ∨ ∃ b o, co = some ⟨b, o, none⟩ ∧ b < W.heap.size ∧ ∀ j, j < K → ∃ y, y < 256 ∧ W.cell? ⟨b, o + j, none⟩ = some (.int .u8 ((y : Nat) : Int))
theorem U8Row.below {W W' : World} {co : Option Addr} {K n : Nat} (h : U8Row W co K) (hb : Below n W W') (hn : W.heap.size ≤ n) : U8Row W' co K := by
  refine h.imp_right ?_
  rintro ⟨b, o, e, h1, h2⟩
  refine ⟨b, o, e, Nat.lt_of_lt_of_le h1 hb.size, fun j hj => ?_⟩
  obtain ⟨y, hy, hc⟩ := h2 j hj
  exact ⟨y, hy, (hb.cell (p := ⟨b, o + j, none⟩) (by dsimp only; omega)).trans hc⟩
theorem TBx.get {A : Nat → Prop} {W : World} {v : Value} {ls : List (List Nat)} (h : TBx A W v ls) (h0 : 0 < ls.length) : ∃ tb tc, v = .slice (some ⟨tb, 0, none⟩) ls.length tc ∧ tb < W.heap.size ∧ ∀ p, p < ls.length → ∃ rv, W.cell? ⟨tb, p, none⟩ = some rv ∧ IR A W rv (rowD ls p) := by
  obtain ⟨ao, c, rfl, h⟩ := h
  obtain ⟨b, -, rfl, h1, -⟩ := h 0 h0
  refine ⟨b, c, rfl, h1, fun p hp => ?_⟩
  obtain ⟨b', rv, e, -, h2, h3⟩ := h p hp
  cases e
  exact ⟨rv, h2, h3⟩
theorem dm_step {nx : Nat → List Nat} {r a b : Nat} (h : Rch nx (fun _ => False) r a) (hb : b ∈ nx a) {d : Nat} (g : Dm nx r b d) : d = b ∨ Dm nx r a d := by
  by_cases e : d = b
  · exact .inl e
  · exact .inr ⟨h, fun k => g.2 (.step k hb fun q => e q.symm)⟩
/-- What is known of the path so far. -/
structure PtS (nx : Nat → List Nat) (P : Nat) (pt : List Nat) (q : Nat) : Prop where
  rch : Rch nx (fun _ => False) 0 q
  dom : ∀ d, Dm nx 0 q d → d ∈ pt
  lt : q < P
  self : q ∈ pt
theorem PtS.start {nx : Nat → List Nat} {P : Nat} (hP : 0 < P) : PtS nx P [0] 0 :=
  ⟨.refl id, fun d h => by
    have e : d = 0 := by
      refine Classical.byContradiction fun e => h.2 (.refl fun q => e q.symm)
    simp [e], hP, by simp⟩
theorem PtS.next {nx : Nat → List Nat} {P : Nat} {pt : List Nat} {q s : Nat} (h : PtS nx P pt q) (hs : s ∈ nx q) (hl : s < P) : PtS nx P (pt ++ [s]) s :=
  ⟨.step h.rch hs id, fun d g => by
    rcases dm_step h.rch hs g with e | g
    · simp [e]
    · simp [h.dom d g], hl, by simp⟩
set_option maxRecDepth 100000 in
set_option maxHeartbeats 8000000 in
theorem graphPaths_walk {A : Nat → Prop} (n x : Int) (ao : Option Addr) (c : Nat) (E : List Ed) (co : Option Addr) (K cc : Nat) (w : World) (hr : ERow A w ao c E) (hch : U8Row w co K) :
    Calls Try.prog 8 #[.agg #[.int .i64 n, .int .i64 x, .slice ao E.length c], .slice co K cc] w fun e w' => e = .returned (.bool true) ∧ Below w.heap.size w w' := by
  have hA : Below w.heap.size w (w.alloc (Obj.cells #[.int .i64 n, .int .i64 x, .slice ao E.length c] 24)) := (Below.refl _ _).alloc (Nat.le_refl _) _
  have hX := GBx.new w n x ao E.length c
  have HB := Lib.hid hA; have HX := Lib.hid hX
  have hR := fun W (hW : Below w.heap.size w W) => hr.keep (B := A) (But.of_below (S := fun _ => False) (w' := W) hW) (fun _ h _ => ⟨id, h⟩)
  have HR := Lib.hid hR
  have KF := Lib.hid (good_any n x ao c E (w.alloc (Obj.cells #[.int .i64 n, .int .i64 x, .slice ao E.length c] 24)) (hR _ hA))
  have KW := Lib.hid awake_any
  obtain ⟨y0, y1, y2, y3⟩ := hX
  clear hA hR
  cases hf : (fewG n E && decide (ckG n x E = 0)) with
  | false =>
    rw [hf] at KF
    go_enter Try.func8, Try.ntmps8
    go_wp2_with (first | (go_at_call 38; refine (KF.out).mono ?_; rintro e w1 ⟨rfl, hb⟩; refine Hid.out ?_) | fail)
    have HB1 := Lib.hid (Below.chain HB.out hb); clear hb HB
    refine Lib.hid ?_
    go_wp2_with (first | (go_at_call 14; refine (KW.out _).mono ?_; rintro e w2 ⟨rfl, hb⟩; refine Hid.out ?_) | fail)
    have HB2 := Lib.hid (Below.chain HB1.out hb); clear hb
    refine Lib.hid ?_
    go_wp2_with fail
    go_ret
    exact ⟨rfl, HB2.out⟩
  | true =>
    rw [hf] at KF
    rw [Bool.and_eq_true, decide_eq_true_iff] at hf
    have h0 := hf.2
    clear hf
    obtain ⟨hn1, hn2, hpx⟩ := ckG_pos h0
    obtain ⟨P, rfl⟩ := Int.eq_ofNat_of_zero_le (show 0 ≤ n by omega)
    obtain ⟨-, -, hlen, -⟩ := ckG_ok h0
    have hat : ∀ j, j < E.length → ∃ b o, ao = some ⟨b, o, none⟩ ∧ b < w.heap.size ∧ EdAt w b (o + j * 21) (edD E j) := fun j hj => by
      obtain ⟨b, o, e, -, h1, h2, -⟩ := hr.get j hj
      exact ⟨b, o, e, h1, h2⟩
    have HAT := Lib.hid hat; have H0 := Lib.hid h0; have HLEN := Lib.hid hlen
    clear hat h0 hr hpx
    go_enter Try.func8, Try.ntmps8
    go_wp2_with (first | (go_at_call 38; refine (KF.out).mono ?_; rintro e w1 ⟨rfl, hb⟩; refine Hid.out ?_) | fail)
    have hx1 := HX.out.below hb; clear HX; have HX := Lib.hid hx1
    have hb1 := Below.chain HB.out hb; clear HB; have HB := Lib.hid hb1
    clear hb hx1 hb1 y0 y1 y2 y3 KF
    obtain ⟨y0, y1, y2, y3⟩ := HX.out
    refine Lib.hid ?_
    by_cases hK : K ≤ 60
    rotate_left
    · have t1 : (60 : Int) < (K : Int) := by omega
      go_wp2_with (first | (go_at_call 14; refine (KW.out _).mono ?_; rintro e w2 ⟨rfl, hb⟩; refine Hid.out ?_) | fail)
      have HB2 := Lib.hid (Below.chain HB.out hb); clear hb
      refine Lib.hid ?_
      go_wp2_with fail
      go_ret
      exact ⟨rfl, HB2.out⟩
    have t1 : ¬ (60 : Int) < (K : Int) := by omega
    have hP2 : P ≤ 512 := by omega
    have HCH := Lib.hid hch; have HAT0 := HAT
    clear hch
    have k0 := out_u (P : Int) x ao c E w1 (HR.out _ HB.out)
    rw [H0.out] at k0
    have HK := Lib.hid k0
    clear k0
    go_wp2_with (first | (go_at_call 15; refine (HK.out).mono ?_; rintro e w2 ⟨hb, v0, rfl, ht⟩; refine Hid.out ?_) | fail)
    have hx1 := HX.out.below hb; clear HX; have HX := Lib.hid hx1
    have hb1 := Below.chain HB.out hb; clear HB; have HB := Lib.hid hb1
    unfold tabL at ht
    rw [if_pos H0.out, Int.toNat_natCast] at ht
    have T0 := Lib.hid ht
    clear hb hx1 hb1 y0 y1 y2 y3 HK ht
    obtain ⟨y0, y1, y2, y3⟩ := HX.out
    refine Lib.hid ?_
    have k1 := dom_u (P : Int) x ao c E w2 (HR.out _ HB.out)
    unfold RDomsQ at k1
    rw [H0.out] at k1
    have HK := Lib.hid k1
    clear k1
    go_wp2_with (first | (go_at_call 28; refine (HK.out).mono ?_; rintro e w3 ⟨hb, v1, rfl, ht⟩; refine Hid.out ?_) | fail)
    have hx1 := HX.out.below hb; clear HX; have HX := Lib.hid hx1
    have hb1 := Below.chain HB.out hb; clear HB; have HB := Lib.hid hb1
    have T0x := Lib.hid (T0.out.below hb); clear T0; have T0 := T0x; clear T0x
    unfold domL at ht
    rw [if_pos H0.out, Int.toNat_natCast] at ht
    have T1 := Lib.hid ht
    clear hb hx1 hb1 y0 y1 y2 y3 HK ht
    obtain ⟨y0, y1, y2, y3⟩ := HX.out
    refine Lib.hid ?_
    have k2 := reach_u (P : Int) x ao c E w3 (HR.out _ HB.out) 0
    have rN : rchN (P : Int) x E 0 = P := by unfold rchN; rw [if_pos ⟨H0.out, isPt_of ⟨by omega, by omega⟩⟩, Int.toNat_natCast]
    have rE : rchE (P : Int) x E 0 = 0 := by unfold rchE; rw [if_pos H0.out, if_pos (isPt_of ⟨by omega, by omega⟩)]
    rw [rN, rE] at k2
    clear rN rE
    have HK := Lib.hid k2
    clear k2
    go_wp2_with (first | (go_at_call 19; refine (HK.out).mono ?_; rintro e w4 ⟨hb, p2, c2, rfl, ht⟩; refine Hid.out ?_) | fail)
    have hx1 := HX.out.below hb; clear HX; have HX := Lib.hid hx1
    have hb1 := Below.chain HB.out hb; clear HB; have HB := Lib.hid hb1
    have T0x := Lib.hid (T0.out.below hb); clear T0; have T0 := T0x; clear T0x
    have T1x := Lib.hid (T1.out.below hb); clear T1; have T1 := T1x; clear T1x
    have T2 := Lib.hid ht
    clear hb hx1 hb1 y0 y1 y2 y3 HK ht
    obtain ⟨y0, y1, y2, y3⟩ := HX.out
    refine Lib.hid ?_
    obtain ⟨tb, tc, rfl, htb, hrow⟩ := T0.out.get (by simp [lsN]; omega)
    have hll : (lsN P (fun d => d.f) E).length = P := by simp [lsN]
    rw [hll] at hrow
    obtain ⟨ga, rfl, ha1, ha2⟩ : ∃ ga, p2 = some ⟨ga, 0, none⟩ ∧ ga < w4.heap.size ∧ ∀ q, q < P → w4.cell? ⟨ga, q, none⟩ = some (.bool (rchB (P : Int) E 0 q)) := by
      rcases T2.out with h | h
      · omega
      · exact h
    obtain ⟨gd, dc, rfl, hd1, hd2⟩ := T1.out.shape (by omega)
    have hown0 : ownI w4.heap.size (w4.alloc (.cells #[.int .i64 0] 3)) (.slice (some ⟨w4.heap.size, 0, none⟩) 1 1) [0] := World.ownsRow_lit w4 #[.int .i64 0] 1 (Nat.le_refl _) (by decide) rfl
    have hbL : Below w4.heap.size w4 (w4.alloc (.cells #[.int .i64 0] 3)) := (Below.refl _ _).alloc (Nat.le_refl _) _
    have HROW := Lib.hid hrow; have HA := Lib.hid (And.intro ha1 ha2); have HTB := Lib.hid htb; have HO0 := Lib.hid hown0; have HBL := Lib.hid hbL
    have HCH4 := Lib.hid (HCH.out.below HB.out (Nat.le_refl _))
    have hll2 : ((lsN P (fun d => d.f) E).length : Int) = (P : Int) := by rw [hll]
    clear T0 T2 hrow ha1 ha2 htb hown0 hbL hd1 hd2
    rw [hll]
    clear hll hll2
    refine Hid.out ?_
    refine Lib.hid ?_
    go_wp2_with fail
    clear y0 y1 y2 y3
    generalize (w4.alloc (.cells #[.int .i64 0] 3)) = W0 at *
    go_loopw [74, 12, 11] (fun iv cv pv wr => ∃ (k q : Nat) (pt : List Nat), k ≤ K ∧ iv = .int .i64 (k : Int) ∧ cv = .int .i64 (q : Int) ∧ ownI w4.heap.size wr pv (pt.map fun (n : Nat) => (n : Int)) ∧ pt.length ≤ k + 1 ∧ PtS (nxF P E) P pt q ∧ Below w4.heap.size w4 wr) (fun iv _ _ _ => K - (intOf iv).toNat)
    case atStart => exact ⟨0, 0, [0], Nat.zero_le _, rfl, rfl, HO0.out, by simp, PtS.start (by omega), HBL.out⟩
    case round =>
      obtain ⟨wr1, rfl⟩ : ∃ W1 : World, W1 = wr := ⟨_, rfl⟩
      obtain ⟨k, q, pt, hk, rfl, rfl, hown, hptk, hpt, hbw⟩ := hrel
      obtain ⟨vo, vc, rfl, -⟩ := hown.slice
      rw [List.length_map] at hown ⊢
      have hptl : pt.length ≤ 100000 := by omega
      obtain ⟨y0, y1, y2, y3⟩ := HX.out.below hbw
      by_cases hlt : k < K
      · have j1 : (k : Int) < (K : Int) := by omega
        have j0 : (0 : Int) ≤ (k : Int) := by omega
        obtain ⟨cb, cof, rfl, hcb, hcc⟩ : ∃ b o, co = some ⟨b, o, none⟩ ∧ b < wr1.heap.size ∧ ∀ j, j < K → ∃ y, y < 256 ∧ wr1.cell? ⟨b, o + j, none⟩ = some (.int .u8 ((y : Nat) : Int)) := by
          rcases HCH4.out.below hbw (Nat.le_refl _) with h | h
          · omega
          · exact h
        obtain ⟨y, hy, hyc⟩ := hcc k hlt
        have j2 : (q : Int) < (P : Int) := by have := hpt.lt; omega
        have j3 : (0 : Int) ≤ (q : Int) := by omega
        obtain ⟨rv, hrv, hri⟩ := HROW.out q hpt.lt
        have hri1 := hri.keep (B := fun _ => True) (KA.of_below hbw) (fun _ _ _ => trivial)
        have hrv1 := (hbw.cell (p := ⟨tb, q, none⟩) HTB.out).trans hrv
        by_cases hemp : rowD (lsN P (fun d => d.f) E) q = []
        · rw [hemp] at hri1
          obtain ⟨ro, rc, rfl⟩ := hri1.slice
          clear hri hri1 hrv hcc hcb hlt
          simp only [List.length_nil] at hrv1
          go_wp2_with fail
          clear hrv1 hyc y0 y1 y2 y3
          have hd5 := T1.out.below hbw
          have hlt1 : ∀ q, Rch (nxF P E) (fun _ => False) 0 q → q < P := fun q g => rch_lt H0.out (by omega) g
          have k6 := chain_any hlt1 hpt.lt (by omega) _ wr1 hd5
          have K6 := Lib.hid k6
          clear k6 hd5 hlt1
          go_wp2_with (first | (go_at_call 39; refine (K6.out).mono ?_; rintro e w6 ⟨u, D, rfl, hu, hDl, hDm, hb⟩; refine Hid.out ?_) | fail)
          have hir := IR.of_own (A := fun _ => True) hu (fun _ _ => trivial)
          have hb6 := Below.chain hbw hb
          have hown6 := hown.below hb
          have h0D : 0 ∈ D := (hDm 0).2 (.inr ⟨hpt.rch, fun g => g.left rfl⟩)
          have hsub : ∀ d ∈ D, d ∈ pt := fun d hd => ((hDm d).1 hd).elim (fun e => e ▸ hpt.self) (fun g => hpt.dom d g)
          have hco : Calls Try.prog 40 #[u, .int .i64 0] w6 fun e w' => e = .returned (.bool (decide (0 ∈ D))) ∧ Below w6.heap.size w6 w' := contains_ir hir (by omega) 0
          rw [decide_eq_true h0D] at hco
          have hD0 : 0 < D.length := List.length_pos_of_mem h0D
          obtain ⟨ub, uo, uc, rfl, -⟩ := hir.at 0 hD0
          have HCO := Lib.hid hco; have HIR := Lib.hid hir; have HB6 := Lib.hid hb6; have HOW := Lib.hid hown6; have HSUB := Lib.hid hsub
          clear hco hir hb6 hown6 hsub hu hDm hb h0D K6 hown hbw hpt
          refine Lib.hid ?_
          go_wp2_with (first | (go_at_call 40; refine (HCO.out).mono ?_; rintro e w7 ⟨rfl, hb⟩; refine Hid.out ?_) | fail)
          have hir7 := HIR.out.keep (B := fun _ => True) (KA.of_below hb) (fun _ _ _ => trivial)
          have HB7 := Lib.hid (Below.chain HB6.out hb); have HIR7 := Lib.hid hir7; have HOW7 := Lib.hid (HOW.out.below hb)
          clear hb hir7 HCO HIR HOW HB6
          refine Lib.hid ?_
          go_wp2_with fail
          go_loopw [148] (fun iv wr => ∃ (k : Nat), k ≤ D.length ∧ iv = .int .i64 (k : Int) ∧ Below w7.heap.size w7 wr) (fun iv _ => D.length - (intOf iv).toNat)
          case atStart => exact ⟨0, Nat.zero_le _, rfl, Below.refl _ _⟩
          case round =>
            obtain ⟨wr8, rfl⟩ : ∃ W1 : World, W1 = wr := ⟨_, rfl⟩
            obtain ⟨k, hk, rfl, hb8⟩ := hrel
            by_cases hlt : k < D.length
            · have j1 : (k : Int) < (D.length : Int) := by omega
              have j0 : (0 : Int) ≤ (k : Int) := by omega
              obtain ⟨ub2, uo2, uc2, e2, hcell⟩ := (HIR7.out.keep (B := fun _ => True) (KA.of_below hb8) (fun _ _ _ => trivial)).at k hlt
              cases e2
              have hmem := HSUB.out _ (atD_mem hlt)
              have hco := contains_ir (IR.of_own (A := fun _ => True) (HOW7.out.below hb8) (fun _ _ => trivial)) hptl (atD D k)
              rw [decide_eq_true hmem] at hco
              have HCO := Lib.hid hco; have HB8 := Lib.hid (Below.chain HB7.out hb8); have HB78 := Lib.hid hb8; have HLT := Lib.hid hlt
              clear hco hb8 hmem hlt
              generalize atD D k = dk at *
              go_wp2_with (first | (go_at_call 40; refine (HCO.out).mono ?_; rintro e w9 ⟨rfl, hb⟩; refine Hid.out ?_) | fail)
              have HB9 := Lib.hid (Below.chain HB78.out hb)
              clear hb
              refine Lib.hid ?_
              go_wp2_with fail
              go_roundw
              case rel => exact ⟨k + 1, HLT.out, by go_num, HB9.out⟩
              case measure => have := HLT.out; simp [intOf]; omega
            · have hkm : k = D.length := by omega
              subst hkm
              have HB8 := Lib.hid (Below.chain HB7.out hb8)
              clear hb8
              go_wp2_with (first | (go_at_call 14; refine (KW.out _).mono ?_; rintro e w9 ⟨rfl, hb⟩; refine Hid.out ?_) | fail)
              have HB9 := Lib.hid (Below.chain HB8.out hb)
              clear hb
              refine Lib.hid ?_
              go_wp2_with fail
              go_ret
              exact ⟨rfl, HB.out.trans (HB9.out.mono HB.out.size)⟩
        · obtain ⟨rb, ro, rc, rfl, -⟩ := hri1.at 0 ((List.length_pos_iff.2 hemp))
          have hm0 : 0 < (rowD (lsN P (fun d => d.f) E) q).length := (List.length_pos_iff.2 hemp)
          have hmL : (rowD (lsN P (fun d => d.f) E) q).length ≤ E.length := lsN_len _ _ _ _
          have hj : y % (rowD (lsN P (fun d => d.f) E) q).length < (rowD (lsN P (fun d => d.f) E) q).length := Nat.mod_lt _ hm0
          obtain ⟨rb2, ro2, rc2, e2, hcell⟩ := hri1.at _ hj
          cases e2
          have hrbl : rb < wr1.heap.size := by
            rcases hri1 with ⟨ao9, c9, e9, h9⟩
            rcases h9 with h9 | ⟨b9, o9, e8, -, h8, -⟩
            · exact absurd h9 hemp
            · cases e9; cases e8; exact h8
          have hmem := atD_mem hj
          have hl2 := lsN_at (fun d => d.f) E hpt.lt
          rw [hl2] at hmem
          rw [← hl2] at hmem
          generalize hkk : atD (rowD (lsN P (fun d => d.f) E) q) (y % (rowD (lsN P (fun d => d.f) E) q).length) = kk at *
          have hkE : kk < E.length ∧ (edD E kk).f = (q : Int) := by
            rw [hl2, List.mem_filter, List.mem_range, decide_eq_true_iff] at hmem
            exact hmem
          obtain ⟨hkE1, hkE2⟩ := hkE
          have hpt2 := isPt_true (ckG_mem H0.out (edD_mem hkE1)).2
          obtain ⟨s, hs⟩ : ∃ s : Nat, (edD E kk).t = (s : Int) := ⟨(edD E kk).t.toNat, by omega⟩
          have hsP : s < P := by omega
          have hsn : s ∈ nxF P E q := (nxF_mem hpt.lt).2 ⟨_, edD_mem hkE1, hkE2, by rw [hs]; simp⟩
          have hnext := hpt.next hsn hsP
          have hrs : rchB (P : Int) E 0 s = true := (rchB_iff (P : Int) E 0 s).2 (by rw [Int.toNat_natCast]; exact hnext.rch)
          obtain ⟨eb, eo, rfl, heb, he⟩ := HAT0.out kk hkE1
          have hbE := HB.out.trans (hbw.mono HB.out.size)
          have x0 : wr1.cell? ⟨eb, eo + kk * 21, none⟩ = some (.int .i64 (q : Int)) := by
            have h : wr1.cell? ⟨eb, eo + kk * 21, none⟩ = some (.int .i64 (edD E kk).f) := (hbE.cell (p := ⟨eb, eo + kk * 21, none⟩) heb).trans (he 0 _ rfl)
            rwa [hkE2] at h
          have x1 : wr1.cell? ⟨eb, eo + kk * 21 + 1, none⟩ = some (.int .i64 (s : Int)) := by
            have h : wr1.cell? ⟨eb, eo + kk * 21 + 1, none⟩ = some (.int .i64 (edD E kk).t) := (hbE.cell (p := ⟨eb, eo + kk * 21 + 1, none⟩) heb).trans (he 1 _ rfl)
            rwa [hs] at h
          have j4 : (kk : Int) < (E.length : Int) := by omega
          have j5 : (0 : Int) ≤ (kk : Int) := by omega
          have j6 : (s : Int) < (P : Int) := by omega
          have j7 : (0 : Int) ≤ (s : Int) := by omega
          have z9 := (hbw.cell (p := ⟨ga, s, none⟩) HA.out.1).trans (HA.out.2 s hsP)
          rw [hrs] at z9
          have HRS := Lib.hid hrs
          have HH := Lib.hid (And.intro hown (And.intro hptk (And.intro hnext hbw))); have HLT := Lib.hid hlt
          have HR1 := Lib.hid (And.intro hrv1 (And.intro hcell (And.intro hrbl (And.intro hm0 (And.intro hmL hj))))); have HX0 := Lib.hid x0; have HX1' := Lib.hid x1; have HZ9 := Lib.hid z9; have HEB := Lib.hid heb; have HY := Lib.hid hy
          have hq := hpt.lt
          have HTB1 : Hid (tb < wr1.heap.size) := Lib.hid (Nat.lt_of_lt_of_le HTB.out hbw.size)
          have HGX1 := Lib.hid (HX.out.below hbw)
          have HEBL : Hid (eb < wr1.heap.size) := Lib.hid (Nat.lt_of_lt_of_le heb hbE.size)
          clear hown hptk hnext hbw hlt hri hri1 hrv hcc hcb hcell hrbl hmem hl2 hkk hkE1 hkE2 hpt2 hs hsP hsn hrs he hbE x0 x1 z9 heb hpt hm0 hmL hj hemp
          generalize (rowD (lsN P (fun d => d.f) E) q).length = m at *
          have t9 : ((m : Int) == 0) = false := by rw [beq_eq_false_iff_ne]; have := HR1.out.2.2.2.1; omega
          have t8 : (m = 0) = False := by simp; have := HR1.out.2.2.2.1; omega
          go_wp2_with fail
          clear t8 t9
          have hR1 := HR1.out
          refine pa_region tb tc P q rb ro m rc y (y % m) kk _ _ _ _ _ _ _ _ _ _ _ _ _ _ _ _ _ _ _ _ _ _ _ _ _ _ _ _ _ _ _ _ _ _ _ _ _ _ _ _ _ _ _ _ _ _ _ _ _ _ _ _ _ _ _ _ _ _ _ _ _ _ _ _ _ _ _ _ _ _ _ _ _ _ _ _ _ _ _ _ _ _ _ _ _ _ _ _ _ _ _ _ _ _ _ _ _ _ _ _ _ _ _ _ _ _ _ _ _ _ _ _ _ _ _ _ _ _ _ _ _ _ _ _ _ _ _ _ _ _ _ _ _ _ _ _ _ _ _ _ _ _ _ _ _ _ _ _ _ _ _ _ _ _ _ _ hq (by omega) HY.out hR1.2.2.2.1 (by have := hR1.2.2.2.2.1; omega) (Lib.hid rfl) hR1.2.2.2.2.2 HTB1.out hR1.2.2.1 hR1.1 hR1.2.1 ?_
          intro u15 u84 u85 u86 u87 u88 u89 u90 u91 u92 u93 u94 u95 u96 u97 w5 b5 h0 h1 h2 h3 h4 h5 h6 h7 h8 h9 h10 h11 h12 h13 h14
          clear h0 h1 h2 h3 h4 h5 h6 h7 h8 h9 h10 h11 h12 h13
          subst h14
          obtain ⟨y0, y1, y2, y3⟩ := HGX1.out.below b5
          have x0 := (b5.cell (p := ⟨eb, eo + kk * 21, none⟩) HEBL.out).trans HX0.out
          have x1 := (b5.cell (p := ⟨eb, eo + kk * 21 + 1, none⟩) HEBL.out).trans HX1'.out
          have HB5 := Lib.hid b5
          have hown5 := HH.out.1.below b5
          have hbw5 := Below.chain HH.out.2.2.2 b5
          have bA : Below w5.heap.size w5 (w5.alloc (.cells #[.int .i64 (s : Int)] 3)) := (Below.refl _ _).alloc (Nat.le_refl _) _
          have hoA := hown5.below bA
          have hle : w4.heap.size ≤ (w5.alloc (.cells #[.int .i64 (s : Int)] 3)).heap.size := by have := hbw5.size; simp; omega
          have hc0 : (w5.alloc (.cells #[.int .i64 (s : Int)] 3)).cell? ⟨w5.heap.size, 0, none⟩ = some (.int .i64 (s : Int)) := by go_cell
          have hb2 := Below.chain hbw5 bA
          have hlm : (pt.map fun (n : Nat) => (n : Int)).length ≤ 1200000 := by rw [List.length_map]; omega
          have hgs : ga < wr1.heap.size := Nat.lt_of_lt_of_le HA.out.1 HH.out.2.2.2.size
          have HOA := Lib.hid hoA; have HLE := Lib.hid hle; have HC0 := Lib.hid hc0; have HB2 := Lib.hid hb2; have HLM := Lib.hid hlm; have HGS := Lib.hid hgs; have HBA := Lib.hid bA
          clear hown5 hbw5 bA hoA hle hc0 hb2 hlm hgs b5 hR1
          unfold paAct
          go_wp2_with (first | (at_builtin; refine wpList_push (lo := w4.heap.size) (l := pt.map fun (n : Nat) => (n : Int)) rfl (.tmp 123) (.tmp 125) rfl (by simp [Act.eval, Act.put]) HOA.out HLM.out HLE.out w5.heap.size (s : Int) (by simp [Act.eval, Act.put]) HC0.out ?_; intro g9 cap n9 w9 hn9 h9 hg9 hgx; clear hgx; obtain rfl : n9 = pt.length + 1 := hn9.trans (by rw [List.length_map]); clear hn9; refine Hid.out ?_) | fail)
          have hb9 : Below w4.heap.size w4 w9 := by
            have h := But.of_grown (S := fun b => (Value.slice vo pt.length vc).ownBlock = some b) hg9 (fun _ e => e)
            exact HB2.out.trans ⟨h.os, h.tape, h.output, h.size, fun k hk => h.block k (by have := HLE.out; omega) (fun e => by have := (HOA.out.lt e).1; omega)⟩
          have z9 := (hb9.cell (p := ⟨ga, s, none⟩) HA.out.1).trans (HA.out.2 s (by omega))
          rw [HRS.out] at z9
          have HB9 := Lib.hid hb9; have H9 := Lib.hid h9
          clear hb9 hg9 h9
          refine Lib.hid ?_
          go_wp2_with fail
          go_roundw
          case rel =>
            obtain ⟨hown, hptk, hnext, hbw⟩ := HH.out
            refine ⟨k + 1, s, pt ++ [s], HLT.out, by go_num, rfl, ?_, by rw [List.length_append]; simp; omega, hnext, HB9.out⟩
            rw [List.map_append]; exact H9.out
          case measure => have := HLT.out; simp [intOf]; omega
      · have hkm : k = K := by omega
        subst hkm
        clear hlt
        go_wp2_with fail
        clear y0 y1 y2 y3
        have hd5 := T1.out.below hbw
        have hlt1 : ∀ q, Rch (nxF P E) (fun _ => False) 0 q → q < P := fun q g => rch_lt H0.out (by omega) g
        have k6 := chain_any hlt1 hpt.lt (by omega) _ wr1 hd5
        have K6 := Lib.hid k6
        clear k6 hd5 hlt1
        go_wp2_with (first | (go_at_call 39; refine (K6.out).mono ?_; rintro e w6 ⟨u, D, rfl, hu, hDl, hDm, hb⟩; refine Hid.out ?_) | fail)
        have hir := IR.of_own (A := fun _ => True) hu (fun _ _ => trivial)
        have hb6 := Below.chain hbw hb
        have hown6 := hown.below hb
        have h0D : 0 ∈ D := (hDm 0).2 (.inr ⟨hpt.rch, fun g => g.left rfl⟩)
        have hsub : ∀ d ∈ D, d ∈ pt := fun d hd => ((hDm d).1 hd).elim (fun e => e ▸ hpt.self) (fun g => hpt.dom d g)
        have hco : Calls Try.prog 40 #[u, .int .i64 0] w6 fun e w' => e = .returned (.bool (decide (0 ∈ D))) ∧ Below w6.heap.size w6 w' := contains_ir hir (by omega) 0
        rw [decide_eq_true h0D] at hco
        have hD0 : 0 < D.length := List.length_pos_of_mem h0D
        obtain ⟨ub, uo, uc, rfl, -⟩ := hir.at 0 hD0
        have HCO := Lib.hid hco; have HIR := Lib.hid hir; have HB6 := Lib.hid hb6; have HOW := Lib.hid hown6; have HSUB := Lib.hid hsub
        clear hco hir hb6 hown6 hsub hu hDm hb h0D K6 hown hbw hpt
        refine Lib.hid ?_
        go_wp2_with (first | (go_at_call 40; refine (HCO.out).mono ?_; rintro e w7 ⟨rfl, hb⟩; refine Hid.out ?_) | fail)
        have hir7 := HIR.out.keep (B := fun _ => True) (KA.of_below hb) (fun _ _ _ => trivial)
        have HB7 := Lib.hid (Below.chain HB6.out hb); have HIR7 := Lib.hid hir7; have HOW7 := Lib.hid (HOW.out.below hb)
        clear hb hir7 HCO HIR HOW HB6
        refine Lib.hid ?_
        go_wp2_with fail
        go_loopw [148] (fun iv wr => ∃ (k : Nat), k ≤ D.length ∧ iv = .int .i64 (k : Int) ∧ Below w7.heap.size w7 wr) (fun iv _ => D.length - (intOf iv).toNat)
        case atStart => exact ⟨0, Nat.zero_le _, rfl, Below.refl _ _⟩
        case round =>
          obtain ⟨wr8, rfl⟩ : ∃ W1 : World, W1 = wr := ⟨_, rfl⟩
          obtain ⟨k, hk, rfl, hb8⟩ := hrel
          by_cases hlt : k < D.length
          · have j1 : (k : Int) < (D.length : Int) := by omega
            have j0 : (0 : Int) ≤ (k : Int) := by omega
            obtain ⟨ub2, uo2, uc2, e2, hcell⟩ := (HIR7.out.keep (B := fun _ => True) (KA.of_below hb8) (fun _ _ _ => trivial)).at k hlt
            cases e2
            have hmem := HSUB.out _ (atD_mem hlt)
            have hco := contains_ir (IR.of_own (A := fun _ => True) (HOW7.out.below hb8) (fun _ _ => trivial)) hptl (atD D k)
            rw [decide_eq_true hmem] at hco
            have HCO := Lib.hid hco; have HB8 := Lib.hid (Below.chain HB7.out hb8); have HB78 := Lib.hid hb8; have HLT := Lib.hid hlt
            clear hco hb8 hmem hlt
            generalize atD D k = dk at *
            go_wp2_with (first | (go_at_call 40; refine (HCO.out).mono ?_; rintro e w9 ⟨rfl, hb⟩; refine Hid.out ?_) | fail)
            have HB9 := Lib.hid (Below.chain HB78.out hb)
            clear hb
            refine Lib.hid ?_
            go_wp2_with fail
            go_roundw
            case rel => exact ⟨k + 1, HLT.out, by go_num, HB9.out⟩
            case measure => have := HLT.out; simp [intOf]; omega
          · have hkm : k = D.length := by omega
            subst hkm
            have HB8 := Lib.hid (Below.chain HB7.out hb8)
            clear hb8
            go_wp2_with (first | (go_at_call 14; refine (KW.out _).mono ?_; rintro e w9 ⟨rfl, hb⟩; refine Hid.out ?_) | fail)
            have HB9 := Lib.hid (Below.chain HB8.out hb)
            clear hb
            refine Lib.hid ?_
            go_wp2_with fail
            go_ret
            exact ⟨rfl, HB.out.trans (HB9.out.mono HB.out.size)⟩
end Go.Proofs.Ytjjkabgbcflipaa
namespace Go.Proofs.Ytjjkabgbcflipaa
open Go Go.Proofs Go.RowKit Go.ChangeShapes Go.WideShapes Go.ChangeMaps

set_option maxRecDepth 100000 in
theorem open_u8s {H : Type} {enc : TypeId × Value → H} {w : World} {r : Reach} {b0 : Nat} {v : Value} {d : DataW H} {ps : List MemPlace}
    (hv : Value.okWide Try.prog w r b0 75 v) (h : DataW.Trod enc Try.prog w 0 (fun _ => true) true 75 v d ps) :
    ∃ (co : Option Addr) (K cc : Nat), v = .slice co K cc ∧ U8Row w co K := by
  obtain ⟨a, n, c, rfl⟩ := okWide_slice Try.underlying75 hv
  obtain ⟨fuel, hf⟩ := h
  have hf2 : DataW.trod enc Try.prog w 0 (fun _ => true) true fuel 75 [.slice a n c] = some (d, ps) := hf
  rcases open_ints Try.underlying75 Try.underlying5 (by kernel_rfl) hf2 with ⟨e, -⟩ | ⟨a', len, cap, zs, e, -, hl, hm, hz, -, hcell, hwf⟩
  · cases e
    exact ⟨none, 0, 0, rfl, .inl rfl⟩
  · cases e
    simp only [if_true] at hz
    refine ⟨some a', n, c, rfl, ?_⟩
    rcases Nat.eq_zero_or_pos n with h0 | h0
    · exact .inl h0
    · have c0 := hcell 0 (by omega)
      obtain ⟨b, off, sp⟩ := a'
      have hsp : sp = none := by
        cases sp with
        | none => rfl
        | some q =>
          simp only [Addr.add, World.cell?] at c0
          split at c0 <;> simp at c0
      subst hsp
      refine .inr ⟨b, off, rfl, ?_, fun j hj => ?_⟩
      · simp only [Addr.add, World.cell?] at c0
        split at c0
        · rename_i hh
          exact (Array.getElem?_eq_some_iff.1 hh).1
        · cases c0
      · have hc := hcell j (by omega)
        rw [gadd] at hc
        have hjl : j < zs.length := by omega
        have hw := (Lit.wf_int_iff .u8 (zs.getD j 0)).1 (hwf _ (by rw [List.getD_eq_getElem?_getD, List.getElem?_eq_getElem hjl]; exact List.getElem_mem hjl))
        have e1 : IntKind.u8.min = 0 := rfl
        have e2 : IntKind.u8.max = 255 := rfl
        refine ⟨(zs.getD j 0).toNat, by omega, ?_⟩
        rw [hc, Int.toNat_of_nonneg (by omega)]
end Go.Proofs.Ytjjkabgbcflipaa
