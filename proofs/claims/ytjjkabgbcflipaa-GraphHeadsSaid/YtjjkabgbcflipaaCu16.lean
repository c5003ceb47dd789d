import Derived.Test.YtjjkabgbcflipaaCu15
import Derived.Lib.SliceRun
set_option linter.unusedSimpArgs false
set_option linter.unusedVariables false
namespace Go.Proofs.Ytjjkabgbcflipaa
open Go Go.Proofs Go.RowKit GM

/-- From where the chosen edges to a point come. -/
def lsP (bk : Ed → Bool) (E : List Ed) (p : Nat) : List Nat := ((List.range E.length).filter fun (i : Nat) => bk (edD E i) && decide ((edD E i).t = (p : Int))).map fun (i : Nat) => (edD E i).f.toNat
theorem lsP_row {P p : Nat} {x : Int} (bk : Ed → Bool) (E : List Ed) (hp : p < P) (h : ∀ j, j < E.length → isPt P (edD E j).f = true) : (lsT P bk E E.length).getD p [] = (lsP bk E p).map fun (n : Nat) => (n : Int) := by
  rw [lsT_at bk E _ hp]
  unfold lsP
  rw [List.map_map]
  apply List.map_congr_left
  intro i hi
  have hi2 : i < E.length := by have := (List.mem_filter.1 hi).1; simpa using this
  have := isPt_true (h i hi2)
  simp only [Function.comp_apply]; omega
theorem lsP_lt {P p : Nat} {bk : Ed → Bool} {E : List Ed} (h : ∀ j, j < E.length → isPt P (edD E j).f = true) : ∀ x ∈ lsP bk E p, x < P := by
  intro x hx
  unfold lsP at hx
  rw [List.mem_map] at hx
  obtain ⟨i, hi, rfl⟩ := hx
  have hi2 : i < E.length := by have := (List.mem_filter.1 hi).1; simpa using this
  have := isPt_true (h i hi2)
  omega
theorem lsP_len (bk : Ed → Bool) (E : List Ed) (p : Nat) : (lsP bk E p).length ≤ E.length := by
  unfold lsP; rw [List.length_map]; exact Nat.le_trans (List.length_filter_le _ _) (by simp)
/-- The loops of the heads below p. -/
def LpOK (nx : Nat → List Nat) (rk : Nat → Int) (row : Nat → List Nat) (p : Nat) (Ls : List Lp) : Prop :=
  Ls.map Lp.h = (List.range p).filter (fun q => !(row q).isEmpty) ∧ ∀ x ∈ Ls, ∃ tt, VL nx (fun y => mkL x.h rk y = true) (row x.h) tt ∧ x.l = ((x.h :: tt).map fun (n : Nat) => (n : Int)).mergeSort fun a b => decide (a ≤ b)
theorem LpOK.no {nx : Nat → List Nat} {rk : Nat → Int} {row : Nat → List Nat} {p : Nat} {Ls : List Lp} (h : LpOK nx rk row p Ls) (e : row p = []) : LpOK nx rk row (p + 1) Ls :=
  ⟨by rw [List.range_succ, List.filter_append, h.1]; simp [e], h.2⟩
theorem LpOK.yes {nx : Nat → List Nat} {rk : Nat → Int} {row : Nat → List Nat} {p : Nat} {Ls : List Lp} (h : LpOK nx rk row p Ls) (e : row p ≠ []) {v : Value} {tt : List Nat} (hv : VL nx (fun y => mkL p rk y = true) (row p) tt) :
    LpOK nx rk row (p + 1) (Ls ++ [⟨p, v, ((p :: tt).map fun (n : Nat) => (n : Int)).mergeSort fun a b => decide (a ≤ b)⟩]) := by
  refine ⟨by rw [List.range_succ, List.filter_append, List.map_append, h.1]; simp [e], fun x hx => ?_⟩
  rw [List.mem_append, List.mem_singleton] at hx
  rcases hx with hx | rfl
  · exact h.2 x hx
  · exact ⟨tt, hv, rfl⟩
theorem LpOK.len {nx : Nat → List Nat} {rk : Nat → Int} {row : Nat → List Nat} {p : Nat} {Ls : List Lp} (h : LpOK nx rk row p Ls) : Ls.length ≤ p := by
  have := congrArg List.length h.1
  rw [List.length_map] at this
  rw [this]; exact Nat.le_trans (List.length_filter_le _ _) (by simp)
def LoopsQ (P : Nat) (E : List Ed) (w : World) : Ending → World → Prop := fun e w' => ∃ v Ls t T, e = .returned v ∧ DomT (nxF P E) 0 P t T ∧ LpAt w.heap.size w' v Ls ∧ LpOK (nxB P E) (rkF t t.length) (lsP (bkT P t T) E) P Ls ∧ Below w.heap.size w w'
set_option maxRecDepth 20000 in
set_option maxHeartbeats 1000000 in
theorem loops_any {A : Nat → Prop} (P : Nat) (x : Int) (ao : Option Addr) (c : Nat) (E : List Ed) (w : World) (hr : ERow A w ao c E) (h0 : ckG P x E = 0) :
    Calls Try.prog 61 #[.agg #[.int .i64 (P : Int), .int .i64 x, .slice ao E.length c]] w (LoopsQ P E w) := by
  have hA : Below w.heap.size w (w.alloc (Obj.cells #[.int .i64 (P : Int), .int .i64 x, .slice ao E.length c] 24)) := (Below.refl _ _).alloc (Nat.le_refl _) _
  have hX := GBx.new w P x ao E.length c
  have KA' := Lib.hid hA; have HX := Lib.hid hX; have HR := Lib.hid hr
  clear hA hX
  obtain ⟨hn1, hn2, hlen, hpts⟩ := ckG_ok h0
  have k2 := fun W hW => forward_vr P x ao c E W (HR.out.keep (B := A) (But.of_below (S := fun _ => False) (w' := W) hW) (fun _ h _ => ⟨id, h⟩)) h0
  have K2 := Lib.hid k2; have H0 := Lib.hid h0; have HL := Lib.hid hlen; have HPT := Lib.hid hpts
  have hat : ∀ j, j < E.length → ∃ b o, ao = some ⟨b, o, none⟩ ∧ b < w.heap.size ∧ EdAt w b (o + j * 21) (edD E j) ∧ (edD E j).ok := fun j hj => by
    obtain ⟨b, o, e, -, h1, h2⟩ := HR.out.get j hj
    exact ⟨b, o, e, h1, h2⟩
  have HAT := Lib.hid hat
  have k9 := fun W hW => backward_vr P x ao c E W (HR.out.keep (B := A) (But.of_below (S := fun _ => False) (w' := W) hW) (fun _ h _ => ⟨id, h⟩)) h0
  have K9 := Lib.hid k9
  clear k2 k9 h0 hat hlen hpts hr
  obtain ⟨y0, y1, y2, y3⟩ := HX.out
  go_enter Try.func61, Try.ntmps61
  go_wp2_with (go_at_call 47; refine (K2.out _ KA'.out).mono ?_; rintro e w2 ⟨ve, vl, rfl, hv, hb⟩; refine Hid.out ?_)
  have HX2 := Lib.hid (HX.out.below hb)
  have k4 := dominance_any w2 (by omega) (fun p => Nat.le_trans (lsN_len P p _ E) (Nat.le_trans HL.out (by omega))) (by unfold esN; rw [List.length_map]; exact Nat.le_trans HL.out (by omega)) 0 (by omega) (hv.keep (KA.refl _ _) (fun b _ h2 => h2))
  have K4 := Lib.hid k4; have HB2 := Lib.hid (Below.chain KA'.out hb)
  obtain ⟨eo, ec, rfl⟩ := hv.ends.slice
  obtain ⟨tb, tc, rfl, -⟩ := hv.tab
  clear k4 hv hb y0 y1 y2 y3
  refine Lib.hid ?_
  go_wp2_with (go_at_call 57; refine (K4.out).mono ?_; rintro e w3 ⟨g, h, t, T, rfl, hd, hg, hh, -, -, -, hb⟩; refine Hid.out ?_)
  have HB3 := Lib.hid ((Below.chain HB2.out hb).alloc (Below.chain HB2.out hb).size (Obj.cells #[.slice (some ⟨g, 0, none⟩) P P, .slice (some ⟨h, 0, none⟩) P P] 97))
  have HD := Lib.hid hd; have HDA := Lib.hid (DomAt.new w3 hg hh)
  have HX3 := Lib.hid ((HX2.out.below hb).below ((Below.refl w3.heap.size w3).alloc (Nat.le_refl _) (Obj.cells #[.slice (some ⟨g, 0, none⟩) P P, .slice (some ⟨h, 0, none⟩) P P] 97)))
  have HZ3 := Lib.hid HB3.out.size
  clear hb hd hg hh K4 HX2 HX HB2
  obtain ⟨y0, y1, y2, y3⟩ := HX3.out
  refine Lib.hid ?_
  have hmk := make_rows (w3.alloc (Obj.cells #[.slice (some ⟨g, 0, none⟩) P P, .slice (some ⟨h, 0, none⟩) P P] 97)) P (by omega)
  have m0 : (0 : Int) ≤ (P : Int) := by omega
  have z2 := (World.cell?_alloc_lt (w3.alloc (Obj.cells #[.slice (some ⟨g, 0, none⟩) P P, .slice (some ⟨h, 0, none⟩) P P] 97)) (.cells (Array.replicate P nilS) 51) ⟨w.heap.size, 2, none⟩ y3).trans y2
  go_wp2_with fail
  clear hmk
  have hWs : (w3.alloc (Obj.cells #[.slice (some ⟨g, 0, none⟩) P P, .slice (some ⟨h, 0, none⟩) P P] 97)).heap.size = w3.heap.size + 1 := by simp
  generalize hW : w3.alloc (Obj.cells #[.slice (some ⟨g, 0, none⟩) P P, .slice (some ⟨h, 0, none⟩) P P] 97) = W at *
  clear hW
  generalize w3.heap.size = D at *
  clear y0 y1 y2 y3 z2
  have hLn := LvAt.new (W := W.alloc (.cells (Array.replicate P nilS) 51)) (lo := W.heap.size + 1) (fun k hk => made_cell W P nilS 51 k hk) (made_free W P nilS 51) (by simp) (by omega)
  rw [hWs] at hLn
  have HLN := Lib.hid hLn; have HWS := Lib.hid hWs; clear hLn hWs
  go_loopw [20] (fun iv wr => ∃ (j : Nat) (vs : List Value), j ≤ E.length ∧ iv = .int .i64 (j : Int) ∧ LvAt (D + 1 + 1) wr (D + 1) P vs (lsT P (bkT P t T) E j) ∧ Below W.heap.size W wr) (fun iv _ => E.length - (intOf iv).toNat)
  case atStart => exact ⟨0, _, Nat.zero_le _, rfl, by rw [lsT_zero]; exact HLN.out, (Below.refl _ _).alloc (Nat.le_refl _) _⟩
  case round =>
    obtain ⟨j, vs, hj, rfl, hlv, hB⟩ := hrel
    have HB4 := Lib.hid hB; have HV := Lib.hid hlv; clear hB hlv HLN
    by_cases hlt : j < E.length
    · obtain ⟨b, o, rfl, hbl, he, hok⟩ := HAT.out j hlt
      have hbw := Below.chain HB3.out HB4.out
      have he2 := he.below hbw hbl
      obtain ⟨hp1, hp2⟩ := HPT.out j hlt
      have HLT := Lib.hid hlt
      have hl1 : (j : Int) < (E.length : Int) := by omega
      have hl0 : (0 : Int) ≤ (j : Int) := by omega
      have HT := fun (h : bkT P t T (edD E j) = true) k hk hf => lsT_yes (P := P) (bk := bkT P t T) (k := k) E j h hk hf
      have HF := fun (h : bkT P t T (edD E j) = false) => lsT_no (P := P) (bk := bkT P t T) E j h
      have HRL := Lib.hid (lsT_row_len (P := P) (p := (edD E j).t.toNat) (bkT P t T) E j)
      generalize edD E j = d at *
      have HE := Lib.hid he2
      have HBa : Hid (Below wr.heap.size wr (wr.alloc (.cells d.cs 55))) := Lib.hid ((Below.refl _ _).alloc (Nat.le_refl _) _)
      have hda := HDA.out.below (Below.chain HB4.out HBa.out)
      have HDB := Lib.hid hda
      have HBX := Lib.hid (EdAt.box wr d)
      have CB := hda.back HD.out d hp1
      obtain ⟨q0, q1, q2, -, -⟩ := hda
      have Q1 := Lib.hid (isPt_true hp2)
      have q5 := ed_box0 wr d; have q6 := ed_box1 wr d
      have Q5 := Lib.hid q5; have Q6 := Lib.hid q6
      clear he he2 hok hp1 hp2 hbw q5 q6
      cases hbk : bkT P t T d with
      | false =>
        rw [hbk] at CB
        have HF2 := Lib.hid (HF hbk); have KB := Lib.hid CB
        clear CB HT HF hbk HRL
        go_wp2_with (first | (refine wpList_load_ed (.tmp 22) rfl rfl b (o + j * 21) (by simp [Act.eval, Act.put]) d HE.out ?_) | (refine wpList_store_ed (.tmp 6) (.tmp 23) rfl rfl rfl (by simp [Act.eval, Act.put]) d (by simp [Act.eval, Act.put]) ?_) | (refine wpList_load_ed (.tmp 6) rfl rfl wr.heap.size (0) (by simp [Act.eval, Act.put]) d HBX.out ?_) | (go_at_call 59; refine (KB.out).mono ?_; rintro e w4 ⟨rfl, hb⟩; refine Hid.out ?_))
        have HB5 := Lib.hid (Below.chain (Below.chain HB4.out HBa.out) hb)
        have HV5 := Lib.hid (HV.out.below (Below.chain HBa.out hb))
        clear hb q0 q1 q2
        refine Lib.hid ?_
        have hL2 : E.length ≤ 1024 := HL.out
        have hL3 : j < E.length := HLT.out
        go_wp2
        go_roundw
        case rel => exact ⟨j + 1, vs, by omega, by go_num, by rw [HF2.out]; exact HV5.out, HB5.out⟩
        case measure => simp [intOf]; omega
      | true =>
        rw [hbk] at CB
        have HT2 := Lib.hid (HT hbk d.t.toNat (by have := Q1.out; omega) (by have := Q1.out; omega)); have KB := Lib.hid CB
        clear CB HT HF hbk
        go_wp2_with (first | (refine wpList_load_ed (.tmp 22) rfl rfl b (o + j * 21) (by simp [Act.eval, Act.put]) d HE.out ?_) | (refine wpList_store_ed (.tmp 6) (.tmp 23) rfl rfl rfl (by simp [Act.eval, Act.put]) d (by simp [Act.eval, Act.put]) ?_) | (refine wpList_load_ed (.tmp 6) rfl rfl wr.heap.size (0) (by simp [Act.eval, Act.put]) d HBX.out ?_) | (go_at_call 59; refine (KB.out).mono ?_; rintro e w4 ⟨rfl, hb⟩; refine Hid.out ?_))
        have HB5 := Lib.hid (Below.chain (Below.chain HB4.out HBa.out) hb)
        have HV5 := Lib.hid (HV.out.below (Below.chain HBa.out hb))
        have c0 := (hb.cell (p := ⟨wr.heap.size, 0, none⟩) (by simp)).trans Q5.out
        have c1 := (hb.cell (p := ⟨wr.heap.size, 1, none⟩) (by simp)).trans Q6.out
        rw [show d.t = ((d.t.toNat : Nat) : Int) by have := Q1.out; omega] at c1
        have hz4 : wr.heap.size < w4.heap.size := Nat.lt_of_lt_of_le (by simp) hb.size
        have hrl := HRL.out
        have hnb : ¬ (vs.getD d.t.toNat nilS).ownBlock = some wr.heap.size := fun e => by have := ((HV.out.row d.t.toNat (by have := Q1.out; omega)).lt e).2; omega
        have hrow := HV.out.row d.t.toNat (by have := Q1.out; omega)
        have HROW := Lib.hid hrow; have C0 := Lib.hid c0; have C1 := Lib.hid c1; have HZ4 := Lib.hid hz4; have HRL2 := Lib.hid hrl; have HNB := Lib.hid hnb
        clear hb q0 q1 q2 hrow c0 c1 hz4 hrl hnb
        refine Lib.hid ?_
        go_wp2_with fail
        refine rg_region (D + 1 + 1) (D + 1) P d.t.toNat wr.heap.size d.f vs (lsT P (bkT P t T) E j) _ _ _ _ _ _ _ _ _ _ _ _ _ _ _ _ _ _ _ _ _ _ _ _ _ _ _ _ _ _ _ _ _ _ _ _ _ _ _ _ _ _ _ _ _ _ _ _ _ _ _ _ _ _ _ _ _ _ _ _ _ _ _ _ (by have := Q1.out; omega) hn2 (by have := HRL2.out; have := HL.out; omega) HZ4.out C0.out C1.out HV5.out (by have := HB4.out.size; have := HZ4.out; have := HWS.out; omega) HNB.out ?_
        intro u27 u28 u29 u30 u31 u32 u33 u34 u35 u36 u37 u38 u39 w5 hq h0 h1 h2 h3 h4 h5 h6 h7 h8 h9 h12
        obtain ⟨hlv5, hb5⟩ := hq
        have hbel : Below W.heap.size W w5 := HB5.out.trans ⟨hb5.os, hb5.tape, hb5.output, hb5.size, fun k hk => hb5.block k (by have := HB5.out.size; omega) (fun e => by
          have := HWS.out
          rcases e with e | e
          · have := (HROW.out.lt e).1; omega
          · omega)⟩
        have H5 := Lib.hid hlv5; have HB6 := Lib.hid hbel
        clear h0 h1 h2 h3 h4 h5 h6 h7 h8 h9 h12 hlv5 hb5 hbel
        unfold rgAct
        have hL2 : E.length ≤ 1024 := HL.out
        have hL3 : j < E.length := HLT.out
        go_wp2
        go_roundw
        case rel => exact ⟨j + 1, _, by omega, by go_num, by rw [HT2.out]; exact H5.out, HB6.out⟩
        case measure => simp [intOf]; omega
    · have hjn : j = E.length := by omega
      subst hjn
      have HB5 := Lib.hid (Below.chain HB3.out HB4.out)
      have HX5 := Lib.hid (HX3.out.below HB4.out)
      obtain ⟨y0, y1, y2, y3⟩ := HX5.out
      go_wp2_with (first | (go_at_call 49; refine (K9.out _ HB5.out).mono ?_; rintro e w5 ⟨ve, vl, rfl, hv, hb⟩; refine Hid.out ?_) | fail)
      have HB6 := Lib.hid ((Below.chain HB5.out hb).alloc (Below.chain HB5.out hb).size (Obj.cells #[ve, vl] 89))
      have hbx : Below wr.heap.size wr (w5.alloc (Obj.cells #[ve, vl] 89)) := hb.alloc hb.size _
      have HV9 := Lib.hid (HV.out.below hbx)
      have HD9 := Lib.hid (HDA.out.below (Below.chain HB4.out hbx))
      have HR9 := Lib.hid (hv.keep (B := fun b => b < (w5.alloc (Obj.cells #[ve, vl] 89)).heap.size) (KA.of_below ((Below.refl w5.heap.size w5).alloc (Nat.le_refl _) (Obj.cells #[ve, vl] 89))) (fun b _ h => by simp; omega))
      have HZ5 := Lib.hid hb.size
      obtain ⟨eo2, ec2, rfl⟩ := hv.ends.slice
      obtain ⟨tb2, tc2, rfl, -⟩ := hv.tab
      have k0 : (w5.alloc (Obj.cells #[.slice eo2 (esN (fun d => d.f) E).length ec2, .slice (some ⟨tb2, 0, none⟩) P tc2] 89)).cell? ⟨w5.heap.size, 0, none⟩ = some (.slice eo2 (esN (fun d => d.f) E).length ec2) := by go_cell
      have k1 : (w5.alloc (Obj.cells #[.slice eo2 (esN (fun d => d.f) E).length ec2, .slice (some ⟨tb2, 0, none⟩) P tc2] 89)).cell? ⟨w5.heap.size, 1, none⟩ = some (.slice (some ⟨tb2, 0, none⟩) P tc2) := by go_cell
      have kz : w5.heap.size < (w5.alloc (Obj.cells #[.slice eo2 (esN (fun d => d.f) E).length ec2, .slice (some ⟨tb2, 0, none⟩) P tc2] 89)).heap.size := by simp
      have G0 := Lib.hid k0; have G1 := Lib.hid k1; have GZ := Lib.hid kz
      clear k0 k1 kz hv hb hbx y0 y1 y2 y3
      refine Lib.hid ?_
      go_wp2_with fail
      generalize w5.alloc (Obj.cells #[.slice eo2 (esN (fun d => d.f) E).length ec2, .slice (some ⟨tb2, 0, none⟩) P tc2] 89) = W9 at *
      generalize w5.heap.size = V at *
      go_loopw [8, 45] (fun lv iv wr => ∃ (p : Nat) (Ls : List Lp), p ≤ P ∧ iv = .int .i64 (p : Int) ∧ LpAt W9.heap.size wr lv Ls ∧ LpOK (nxB P E) (rkF t t.length) (lsP (bkT P t T) E) p Ls ∧ Below W9.heap.size W9 wr) (fun _ iv _ => P - (intOf iv).toNat)
      case atStart => exact ⟨0, [], Nat.zero_le _, rfl, LpAt.nil _ _, ⟨rfl, fun _ h => by simp at h⟩, Below.refl _ _⟩
      case round =>
        obtain ⟨p, Ls, hp, rfl, hlp, hok, hB⟩ := hrel
        obtain ⟨lo3, lc3, rfl⟩ := hlp.slice
        generalize hln : Ls.length = ln at *
        have HLP := Lib.hid hlp; have HOK := Lib.hid hok; have HB7 := Lib.hid hB; have HLN2 := Lib.hid hln
        clear hlp hok hB hln
        by_cases hlt : p < P
        · have HLT := Lib.hid hlt
          have p0 : (0 : Int) ≤ (p : Int) := by omega
          have p1 : (p : Int) < (P : Int) := by omega
          have how := HV9.out.row p hlt
          rw [lsP_row (x := x) (bkT P t T) E hlt (fun j hj => (HPT.out j hj).1)] at how
          have y0 := (HB7.out.cell (p := ⟨D + 1, p, none⟩) HV9.out.lt).trans (HV9.out.tab p hlt)
          have how2 := how.below HB7.out
          obtain ⟨ro, rc, hre, -, -, -⟩ := how.slice
          rw [hre] at y0 how2
          rw [List.length_map] at y0 how2
          have hrl : (lsP (bkT P t T) E p).length ≤ 1024 := Nat.le_trans (lsP_len _ _ _) HL.out
          have hir := IR.of_own (A := fun b => b < wr.heap.size) how2 (fun b e => (how2.lt e).2)
          have hno := HOK.out.no (p := p)
          have hyes := fun h v tt => HOK.out.yes (p := p) h (v := v) (tt := tt)
          have hrlt : ∀ x ∈ lsP (bkT P t T) E p, x < P := lsP_lt (fun j hj => (HPT.out j hj).1)
          have HNO := Lib.hid hno; have HYES := Lib.hid hyes
          clear how how2 hre hno hyes
          generalize lsP (bkT P t T) E p = rw_ at *
          by_cases hz : rw_.length = 0
          · have hok2 := HNO.out (List.length_eq_zero_iff.1 hz)
            have HK2 := Lib.hid hok2
            rw [hz] at y0
            clear hok2 hir
            go_wp2
            go_roundw
            case rel => exact ⟨p + 1, Ls, by omega, by go_num, HLP.out, HK2.out, HB7.out⟩
            case measure => simp [intOf]; omega
          · have t1 : (0 : Int) < (rw_.length : Int) := by omega
            have hd := HD9.out.below HB7.out
            have kl := loop_any (g := g) wr (by omega) (fun q => Nat.le_trans (lsN_len P q _ E) (Nat.le_trans HL.out (by omega))) (by unfold esN; rw [List.length_map]; exact Nat.le_trans HL.out (by omega)) hd.nh (HR9.out.keep (B := fun b => b < wr.heap.size) (KA.of_below HB7.out) (fun b h h2 => by have := HB7.out.size; omega)) p hlt rw_ hrlt (by omega) hir
            have KL := Lib.hid kl
            obtain ⟨d0, d1, -, -, -⟩ := hd
            have g0 := (HB7.out.cell (p := ⟨V, 0, none⟩) GZ.out).trans G0.out
            have g1 := (HB7.out.cell (p := ⟨V, 1, none⟩) GZ.out).trans G1.out
            have HNE : Hid (rw_ ≠ []) := Lib.hid (fun e => hz (by rw [e]; rfl))
            clear kl hir hz
            go_wp2_with (first | (go_at_call 79; refine (KL.out).mono ?_; rintro e w6 ⟨t2, v2, rfl, f1, f2, hb⟩; refine Hid.out ?_) | fail)
            have hok3 := HYES.out HNE.out v2 t2 f1
            have hap : ∀ b, v2.ownBlock = some b → (Value.slice lo3 ln lc3).ownBlock ≠ some b := fun b e q => by
              have h1 := (f2.lt e).1
              have h2 := (World.ownsRow.lt HLP.out.own b q).2
              omega
            have hw9 : W9.heap.size ≤ wr.heap.size := HB7.out.size
            have hbA : Below w6.heap.size w6 (w6.alloc (Obj.cells #[.int .i64 (p : Int), v2] 73)) := (Below.refl _ _).alloc (Nat.le_refl _) _
            have HLP2 := Lib.hid ((HLP.out.below hb).below hbA)
            have HF2 := Lib.hid ((f2.mono hw9).below hbA)
            have HB8 := Lib.hid ((Below.chain HB7.out hb).trans (hbA.mono (Below.chain HB7.out hb).size))
            have HOK3 := Lib.hid hok3; have HAP := Lib.hid hap
            have HLL := Lib.hid (HOK.out.len)
            obtain ⟨vo2, vc2, rfl, -, -, -⟩ := f2.slice
            generalize (((p :: t2).map fun (n : Nat) => (n : Int)).mergeSort fun a b => decide (a ≤ b)) = pl at *
            generalize hpn : pl.length = pn at *
            clear hok3 hap hbA hb f1 f2 d0 d1 g0 g1 y0 hpn hw9
            refine Lib.hid ?_
            go_wp2_with (first | (at_builtin; refine wpList_pushLp (lo := W9.heap.size) (L := Ls) (pv := .slice vo2 pn vc2) (pl := pl) (hd := p) rfl (.tmp 53) (.tmp 61) rfl (by simp [Act.eval, Act.put]) HLP2.out HF2.out HAP.out (by have := HLL.out; omega) HB8.out.size w6.heap.size (by simp [Act.eval, Act.put]) (by go_cell) (by go_cell) ?_; intro g9 cap9 n9 w9 hn9 h9 hg9; refine Hid.out ?_) | fail)
            subst hn9
            have hB10 := HB8.out.grown hg9 HB8.out.size (fun b e => (World.ownsRow.lt HLP.out.own b e).1)
            have H10 := Lib.hid hB10
            have H9 := Lib.hid h9
            clear hB10 h9 hg9
            refine Lib.hid ?_
            go_wp2
            go_roundw
            case rel => exact ⟨p + 1, _, HLT.out, by have := HLT.out; go_num, H9.out, HOK3.out, H10.out⟩
            case measure => have := HLT.out; simp [intOf]; omega
        · have hpn : p = P := by omega
          subst hpn
          go_wp2
          go_ret
          exact ⟨_, Ls, t, T, rfl, HD.out, ⟨by have := HLP.out.own; exact this.mono (HB6.out.size), fun y hy => (HLP.out.pts y hy).mono HB6.out.size, HLP.out.ap⟩, HOK.out, Below.chain HB6.out HB7.out⟩
end Go.Proofs.Ytjjkabgbcflipaa
namespace Go.Proofs.Ytjjkabgbcflipaa
open Go Go.Proofs Go.RowKit GM

def LpsQ (n x : Int) (E : List Ed) (w : World) : Ending → World → Prop := fun e w' => Below w.heap.size w w' ∧
  ((ckG n x E ≠ 0 ∧ e = .returned (.tuple #[nilS, .int .i64 (ckG n x E : Nat)])) ∨
   (ckG n x E = 0 ∧ ∃ v Ls t T, e = .returned (.tuple #[v, .int .i64 0]) ∧ DomT (nxF n.toNat E) 0 n.toNat t T ∧ LpAt w.heap.size w' v Ls ∧ LpOK (nxB n.toNat E) (rkF t t.length) (lsP (bkT n.toNat t T) E) n.toNat Ls))
set_option maxRecDepth 20000 in
set_option maxHeartbeats 4000000 in
theorem Loops_any {A : Nat → Prop} (n x : Int) (ao : Option Addr) (c : Nat) (E : List Ed) (w : World) (hr : ERow A w ao c E) :
    Calls Try.prog 34 #[.agg #[.int .i64 n, .int .i64 x, .slice ao E.length c]] w (LpsQ n x E w) := by
  have hA : Below w.heap.size w (w.alloc (Obj.cells #[.int .i64 n, .int .i64 x, .slice ao E.length c] 24)) := (Below.refl _ _).alloc (Nat.le_refl _) _
  have hX := GBx.new w n x ao E.length c
  have CC := fun W hW => check_any n x ao c E W (hr.keep (B := A) (But.of_below (S := fun _ => False) (w' := W) hW) (fun _ h _ => ⟨id, h⟩))
  have KA' := Lib.hid hA; have HX := Lib.hid hX; have KC := Lib.hid CC; have HR := Lib.hid hr
  clear hA hX CC hr
  by_cases h0 : ckG n x E = 0
  rotate_left
  · obtain ⟨K, hK⟩ : ∃ K, ckG n x E = K := ⟨_, rfl⟩
    have HK := Lib.hid hK
    rw [hK] at h0
    have t1 : ((K : Int) != 0) = true := by rw [bne_iff_ne]; omega
    have H0 := Lib.hid h0
    clear h0 hK
    have k1 := KC.out _ KA'.out
    rw [HK.out] at k1
    have K1 := Lib.hid k1; clear k1 KC
    go_enter Try.func34, Try.ntmps34
    go_wp2_with (go_at_call 21; refine (K1.out).mono ?_; rintro e w1 ⟨rfl, hb⟩; refine Hid.out ?_)
    have HB := Lib.hid (Below.chain KA'.out hb); clear hb
    refine Lib.hid ?_
    go_wp2
    refine bodyPost_ret (by first | (simp [results, Try.results34, go_sem]; done) | (simp [results, Try.results34, go_sem]; rfl)) rfl ?_
    exact ⟨HB.out, .inl ⟨by rw [HK.out]; exact H0.out, by rw [HK.out]⟩⟩
  · have k1 := KC.out _ KA'.out
    rw [h0] at k1
    have K1 := Lib.hid k1; clear k1
    obtain ⟨hn1, hn2, -⟩ := ckG_pos h0
    obtain ⟨P, rfl⟩ := Int.eq_ofNat_of_zero_le (show 0 ≤ n by omega)
    have k2 := fun W hW => loops_any P x ao c E W (HR.out.keep (B := A) (But.of_below (S := fun _ => False) (w' := W) hW) (fun _ h _ => ⟨id, h⟩)) h0
    have K2 := Lib.hid k2; have H0 := Lib.hid h0
    clear k2 KC h0 hn1 hn2
    go_enter Try.func34, Try.ntmps34
    go_wp2_with (go_at_call 21; refine (K1.out).mono ?_; rintro e w1 ⟨rfl, hb⟩; refine Hid.out ?_)
    have HB := Lib.hid (Below.chain KA'.out hb)
    obtain ⟨y0, y1, y2, y3⟩ := HX.out.below hb
    clear hb
    refine Lib.hid ?_
    go_wp2_with (go_at_call 61; refine (K2.out _ HB.out).mono ?_; rintro e w2 ⟨v, Ls, t, T, rfl, hd, hl, hk, hb⟩; refine Hid.out ?_)
    have HB2 := Lib.hid (Below.chain HB.out hb)
    have HD := Lib.hid hd; have HLP := Lib.hid hl; have HK2 := Lib.hid hk; have HZ := Lib.hid HB.out.size
    clear hb hd hl hk y0 y1 y2 y3
    refine Lib.hid ?_
    go_wp2
    refine bodyPost_ret (by first | (simp [results, Try.results34, go_sem]; done) | (simp [results, Try.results34, go_sem]; rfl)) rfl ?_
    exact ⟨HB2.out, .inr ⟨H0.out, v, Ls, t, T, rfl, HD.out, ⟨World.ownsRow.mono HLP.out.own HZ.out, fun y hy => (HLP.out.pts y hy).mono HZ.out, HLP.out.ap⟩, HK2.out⟩⟩
end Go.Proofs.Ytjjkabgbcflipaa
namespace Go.Proofs.Ytjjkabgbcflipaa
open Go Go.Proofs Go.RowKit GM

/-- A row as it lies: its slice, what it holds. -/
structure Gp where
  v : Value
  l : List Nat
def gpCells (L : List Gp) : List Value := L.map Gp.v
theorem gpCells_len (L : List Gp) : (gpCells L).length = L.length := by simp [gpCells]
/-- A list of rows that is one's own, and so is each row. -/
structure GvAt (lo : Nat) (W : World) (v : Value) (L : List Gp) : Prop where
  own : W.ownsRow lo 51 1 v L.length (gpCells L)
  pts : ∀ x ∈ L, ownI lo W x.v (x.l.map fun (n : Nat) => (n : Int))
  ap : ∀ x ∈ L, ∀ b, x.v.ownBlock = some b → v.ownBlock ≠ some b
theorem GvAt.nil (lo : Nat) (W : World) : GvAt lo W (.slice none 0 0) [] := ⟨World.ownsRow_nil .., fun _ h => by simp at h, fun _ h => by simp at h⟩
theorem ownsRow_but {lo : Nat} {t : TypeId} {sz k : Nat} {S : Nat → Prop} {W W' : World} {v : Value} {xs : List Value} (h : W.ownsRow lo t sz v k xs) (hb : But S W W') (hn : ∀ b, v.ownBlock = some b → ¬ S b) : W'.ownsRow lo t sz v k xs := by
  obtain ⟨h1, h2⟩ := h
  refine ⟨h1, h2.imp_right fun ⟨b, cap, cur, e, hlo, hg, r⟩ => ⟨b, cap, cur, e, hlo, ?_, r⟩⟩
  rw [hb.block b (Array.getElem?_eq_some_iff.1 hg).1 (hn b (by rw [e]; rfl))]; exact hg
theorem GvAt.lt {lo : Nat} {W : World} {v : Value} {L : List Gp} (h : GvAt lo W v L) {b : Nat} (e : v.ownBlock = some b) : lo ≤ b ∧ b < W.heap.size := World.ownsRow.lt h.own b e
/-- Steps that write below the list's own blocks, or into none of them. -/
theorem GvAt.but {lo : Nat} {S : Nat → Prop} {W W' : World} {v : Value} {L : List Gp} (h : GvAt lo W v L) (hb : But S W W') (hn : ∀ b, lo ≤ b → b < W.heap.size → ¬ S b) : GvAt lo W' v L :=
  ⟨ownsRow_but h.own hb (fun b e => hn b (h.lt e).1 (h.lt e).2), fun x hx => (h.pts x hx).but hb (fun b e => hn b ((h.pts x hx).lt e).1 ((h.pts x hx).lt e).2), h.ap⟩
theorem GvAt.below {lo : Nat} {W W' : World} {v : Value} {L : List Gp} (h : GvAt lo W v L) (hb : Below W.heap.size W W') : GvAt lo W' v L := h.but (S := fun _ => False) (But.of_below hb) (fun _ _ _ => id)
theorem GvAt.slice {lo : Nat} {W : World} {v : Value} {L : List Gp} (h : GvAt lo W v L) : ∃ ao c, v = .slice ao L.length c := by
  rcases h.own.2 with ⟨e, h0⟩ | ⟨g, cap, cur, e, -⟩
  · exact ⟨none, 0, by rw [e, h0]⟩
  · exact ⟨_, cap, e⟩
/-- A row is appended. -/
theorem wpList_pushGv {lo : Nat} {W : World} {v pv : Value} {L : List Gp} {pl : List Nat} {ops : Array Oper} {rest : List Oper} {o : Oper} {a : Act} {Q : Exit → Act → World → Prop}
    (hg : o.guard = none) (s x : Operand) (hop : o.op = Op.call { callee := Callee.builtin Builtin.append, args := #[s, x], argTypes := #[27, 27] })
    (hs : a.eval s = v) (hown : GvAt lo W v L) (hp : ownI lo W pv (pl.map fun (n : Nat) => (n : Int))) (hap : ∀ b, pv.ownBlock = some b → v.ownBlock ≠ some b) (hl : L.length ≤ 100000) (hbase : lo ≤ W.heap.size)
    (ad : Nat) (hx : a.eval x = .slice (some ⟨ad, 0, none⟩) 1 1) (hc0 : W.cell? ⟨ad, 0, none⟩ = some pv)
    (hK : ∀ (g cap n : Nat) (w9 : World), n = L.length + 1 → GvAt lo w9 (.slice (some ⟨g, 0, none⟩) n cap) (L ++ [⟨pv, pl⟩]) → W.grownBy w9 v.ownBlock → wpList Try.prog ops Q rest (a.put o.dst (.slice (some ⟨g, 0, none⟩) n cap)) w9) :
    wpList Try.prog ops Q (o :: rest) a W := by
  obtain ⟨i0, hi, hz0, hz1, hz2⟩ := info_parts infoRow
  have hpo : pv.oneCell' = true := by
    obtain ⟨ao, c, e, -⟩ := hp.slice
    rw [e]; rfl
  refine wpList_append_lies W hg s x 27 hop lo 51 i0 nilS 1 24 Try.underlying27 hi hz0 hz1 hz2 rfl (by decide) v L.length (gpCells L) hs hown.own ⟨ad, 0, none⟩ 1 1 [pv] hx rfl ?_ (by intro u hu; rw [List.mem_singleton] at hu; rw [hu]; exact hpo) (by decide) (by unfold maxLen; omega) (by omega) hbase _ rfl ?_
  · intro j u hu
    match j, hu with
    | 0, hu => simp at hu; subst hu; rw [addr_zero]; exact hc0
  · intro g cap w9 hown9 hgrow hgg hg9
    have hb : But (fun b => v.ownBlock = some b) W w9 := But.of_grown hgrow (fun _ e => e)
    have hgp : ∀ (pv : Value) (pl : List Int), ownI lo W pv pl → (∀ b, pv.ownBlock = some b → v.ownBlock ≠ some b) → ∀ b, pv.ownBlock = some b → (Value.slice (some ⟨g, 0, none⟩) (L.length + 1) cap).ownBlock ≠ some b := fun pv pl hp hap b e q => by
      cases q
      rcases hgg with q | q
      · exact hap _ e q
      · have := (hp.lt e).2; dsimp only at this; omega
    refine hK g cap _ w9 rfl ⟨?_, fun y hy => ?_, fun y hy => ?_⟩ hgrow
    · rw [List.length_append, show gpCells (L ++ [⟨pv, pl⟩]) = gpCells L ++ [pv] by simp [gpCells]]
      exact hown9
    · rw [List.mem_append, List.mem_singleton] at hy
      rcases hy with hy | rfl
      · exact (hown.pts y hy).but hb (fun b e q => hown.ap y hy b e q)
      · exact hp.but hb (fun b e q => hap b e q)
    · rw [List.mem_append, List.mem_singleton] at hy
      rcases hy with hy | rfl
      · exact hgp y.v _ (hown.pts y hy) (hown.ap y hy)
      · exact hgp pv _ hp hap
/-- Marks that are cleared. -/
theorem clear_marks {W : World} {M P : Nat} {mk : Nat → Bool} (h : MkAt W M P mk) (hP : 0 < P) (ty : TypeId) :
    (Builtin.clear_ #[33] ty #[.slice (some ⟨M, 0, none⟩) P P]).run Try.prog W = .ok (.tuple #[]) (W.setCells M 0 (List.replicate P (.bool false))) :=
  Lib.run_clear_slice W 33 4 ty (.bool false) Try.underlying33 Try.zeroValue4 rfl rfl M 0 P P hP (fun j hj => by rw [Nat.zero_add, h.mc j hj]; rfl) (fun j hj => by rw [Nat.zero_add]; exact h.mf j)
theorem But.setCells {S : Nat → Prop} {b : Nat} (hS : S b) : ∀ (vs : List Value) (o : Nat) (w : World), But S w (w.setCells b o vs)
  | [], _, w => But.refl _ w
  | v :: r, o, w => ((But.refl S w).set ⟨b, o, none⟩ v (fun _ => hS)).trans (But.setCells hS r (o + 1) _) (fun _ _ e => e)
theorem MkAt.cleared {W : World} {M P : Nat} {mk : Nat → Bool} (h : MkAt W M P mk) : MkAt (W.setCells M 0 (List.replicate P (.bool false))) M P (fun _ => false) := by
  refine ⟨fun k hk => ?_, fun k => by rw [World.frozen?_setCells]; exact h.mf k, Nat.lt_of_lt_of_le h.lt (But.setCells (S := fun b => b = M) rfl _ _ _).size⟩
  have := World.cell?_setCells_in M (List.replicate P (Value.bool false)) 0 W (fun j hj => by
    rw [List.length_replicate] at hj
    rw [Nat.zero_add, h.mc j hj]; rfl) k (by rw [List.length_replicate]; exact hk)
  rw [Nat.zero_add] at this
  rw [this]; simp
end Go.Proofs.Ytjjkabgbcflipaa
