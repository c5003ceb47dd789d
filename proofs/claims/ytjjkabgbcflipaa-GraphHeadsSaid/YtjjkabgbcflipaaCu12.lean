import Derived.Test.YtjjkabgbcflipaaCu11
set_option linter.unusedSimpArgs false
set_option linter.unusedVariables false
namespace Go.Proofs.Ytjjkabgbcflipaa
open Go Go.Proofs Go.RowKit GM

/-- The dominators stand in a box. -/
structure DomAt (W : World) (D g h P : Nat) (t : List Nat) (T : Nat → List Nat) : Prop where
  d0 : W.cell? ⟨D, 0, none⟩ = some (.slice (some ⟨g, 0, none⟩) P P)
  d1 : W.cell? ⟨D, 1, none⟩ = some (.slice (some ⟨h, 0, none⟩) P P)
  lt : D < W.heap.size
  ng : NmAt W g P (parF t T t)
  nh : NmAt W h P (rkF t t.length)
theorem DomAt.below {W W' : World} {D g h P : Nat} {t : List Nat} {T : Nat → List Nat} (x : DomAt W D g h P t T) (hb : Below W.heap.size W W') : DomAt W' D g h P t T :=
  ⟨(hb.cell (p := ⟨D, 0, none⟩) x.lt).trans x.d0, (hb.cell (p := ⟨D, 1, none⟩) x.lt).trans x.d1, Nat.lt_of_lt_of_le x.lt hb.size, x.ng.below hb, x.nh.below hb⟩
theorem DomAt.new (w : World) {g h P : Nat} {t : List Nat} {T : Nat → List Nat} (hg : NmAt w g P (parF t T t)) (hh : NmAt w h P (rkF t t.length)) :
    DomAt (w.alloc (Obj.cells #[.slice (some ⟨g, 0, none⟩) P P, .slice (some ⟨h, 0, none⟩) P P] 97)) w.heap.size g h P t T :=
  ⟨by go_cell, by go_cell, by simp, hg.below ((Below.refl _ _).alloc (Nat.le_refl _) _), hh.below ((Below.refl _ _).alloc (Nat.le_refl _) _)⟩
/-- Whether an edge is a back edge, by the dominators. -/
def bkT (P : Nat) (t : List Nat) (T : Nat → List Nat) (d : Ed) : Bool := bkF (parF t T t) (rkF t t.length) P d.f.toNat d.t
theorem DomAt.back {nx : Nat → List Nat} {r : Nat} {W : World} {D g h P : Nat} {t : List Nat} {T : Nat → List Nat} (x : DomAt W D g h P t T) (ht : DomT nx r P t T) (d : Ed) (hp : isPt P d.f = true) :
    Calls Try.prog 59 #[.agg #[.slice (some ⟨g, 0, none⟩) P P, .slice (some ⟨h, 0, none⟩) P P], .agg d.cs] W fun e w' => e = .returned (.bool (bkT P t T d)) ∧ Below W.heap.size W w' := by
  have hp2 := isPt_true hp
  exact isBack_any W x.ng x.nh ht.par ht.mu d d.f.toNat (by omega) (by omega)
def bkL (bk : Ed → Bool) (E : List Ed) (j : Nat) : List Int := ((List.range j).filter fun (i : Nat) => bk (edD E i)).map fun (i : Nat) => (i : Int)
theorem bkL_true {bk : Ed → Bool} {E : List Ed} {j : Nat} (h : bk (edD E j) = true) : bkL bk E (j + 1) = bkL bk E j ++ [(j : Int)] := by
  unfold bkL; rw [List.range_succ, List.filter_append, List.map_append]; simp [h]
theorem bkL_false {bk : Ed → Bool} {E : List Ed} {j : Nat} (h : bk (edD E j) = false) : bkL bk E (j + 1) = bkL bk E j := by
  unfold bkL; rw [List.range_succ, List.filter_append, List.map_append]; simp [h]
theorem bkL_len (bk : Ed → Bool) (E : List Ed) (j : Nat) : (bkL bk E j).length ≤ j := by
  unfold bkL; rw [List.length_map]; exact Nat.le_trans (List.length_filter_le _ _) (by simp)
theorem EdAt.box (W : World) (d : Ed) : EdAt (W.alloc (.cells d.cs 55)) W.heap.size 0 d := fun j u hu => by
  rw [cell_of_row _ _ (0 + j) _ _ (0, 0) (heap_alloc_last W _), Nat.zero_add]; exact hu
/-- What holds when the graph's function has its dominators. -/
def BackQ (n x : Int) (E : List Ed) (w : World) : Ending → World → Prop := fun e w' => Below w.heap.size w w' ∧
  ((ckG n x E ≠ 0 ∧ e = .returned (.tuple #[nilS, .int .i64 (ckG n x E : Nat)])) ∨
   (ckG n x E = 0 ∧ ∃ v t T, e = .returned (.tuple #[v, .int .i64 0]) ∧ DomT (nxF n.toNat E) 0 n.toNat t T ∧ ownI w.heap.size w' v (bkL (bkT n.toNat t T) E E.length)))
set_option maxRecDepth 20000 in
set_option maxHeartbeats 4000000 in
theorem Back_any {A : Nat → Prop} (n x : Int) (ao : Option Addr) (c : Nat) (E : List Ed) (w : World) (hr : ERow A w ao c E) :
    Calls Try.prog 32 #[.agg #[.int .i64 n, .int .i64 x, .slice ao E.length c]] w (BackQ n x E w) := by
  have hA : Below w.heap.size w (w.alloc (Obj.cells #[.int .i64 n, .int .i64 x, .slice ao E.length c] 24)) := (Below.refl _ _).alloc (Nat.le_refl _) _
  have hX := GBx.new w n x ao E.length c
  have CC := fun W hW => check_any n x ao c E W (hr.keep (B := A) (But.of_below (S := fun _ => False) (w' := W) hW) (fun _ h _ => ⟨id, h⟩))
  have KA' := Lib.hid hA; have HX := Lib.hid hX; have KC := Lib.hid CC; have HR := Lib.hid hr
  clear hA hX CC hr
  by_cases h0 : ckG n x E = 0
  rotate_left
  · obtain ⟨K, hK⟩ : ∃ K, ckG n x E = K := ⟨_, rfl⟩
    have HK := Lib.hid hK
    rw [hK] at h0
    have t1 : ((K : Int) != 0) = true := by rw [bne_iff_ne]; omega
    have H0 := Lib.hid h0
    clear h0 hK
    have k1 := KC.out _ KA'.out
    rw [HK.out] at k1
    have K1 := Lib.hid k1; clear k1 KC
    go_enter Try.func32, Try.ntmps32
    go_wp2_with (go_at_call 21; refine (K1.out).mono ?_; rintro e w1 ⟨rfl, hb⟩; refine Hid.out ?_)
    have HB := Lib.hid (Below.chain KA'.out hb); clear hb
    refine Lib.hid ?_
    go_wp2
    refine bodyPost_ret (by first | (simp [results, Try.results32, go_sem]; done) | (simp [results, Try.results32, go_sem]; rfl)) rfl ?_
    exact ⟨HB.out, .inl ⟨by rw [HK.out]; exact H0.out, by rw [HK.out]⟩⟩
  · have k1 := KC.out _ KA'.out
    rw [h0] at k1
    have K1 := Lib.hid k1; clear k1
    obtain ⟨hn1, hn2, -⟩ := ckG_pos h0
    obtain ⟨P, rfl⟩ := Int.eq_ofNat_of_zero_le (show 0 ≤ n by omega)
    obtain ⟨-, -, hlen, hpts⟩ := ckG_ok h0
    have k2 := fun W hW => forward_vr P x ao c E W (HR.out.keep (B := A) (But.of_below (S := fun _ => False) (w' := W) hW) (fun _ h _ => ⟨id, h⟩)) h0
    have K2 := Lib.hid k2; have H0 := Lib.hid h0; have HL := Lib.hid hlen; have HPT := Lib.hid hpts
    have hat : ∀ j, j < E.length → ∃ b o, ao = some ⟨b, o, none⟩ ∧ b < w.heap.size ∧ EdAt w b (o + j * 21) (edD E j) ∧ (edD E j).ok := fun j hj => by
      obtain ⟨b, o, e, -, h1, h2⟩ := HR.out.get j hj
      exact ⟨b, o, e, h1, h2⟩
    have HAT := Lib.hid hat
    clear k2 KC h0 hat hlen hpts HR
    go_enter Try.func32, Try.ntmps32
    go_wp2_with (go_at_call 21; refine (K1.out).mono ?_; rintro e w1 ⟨rfl, hb⟩; refine Hid.out ?_)
    have HB := Lib.hid (Below.chain KA'.out hb)
    have HX1 := Lib.hid (HX.out.below hb)
    obtain ⟨y0, y1, y2, y3⟩ := HX1.out
    clear hb
    refine Lib.hid ?_
    go_wp2_with (go_at_call 47; refine (K2.out _ HB.out).mono ?_; rintro e w2 ⟨ve, vl, rfl, hv, hb⟩; refine Hid.out ?_)
    have HX2 := Lib.hid (HX1.out.below hb)
    have k4 := dominance_any w2 (by omega) (fun p => Nat.le_trans (lsN_len P p _ E) (Nat.le_trans HL.out (by omega))) (by unfold esN; rw [List.length_map]; exact Nat.le_trans HL.out (by omega)) 0 (by omega) (hv.keep (KA.refl _ _) (fun b _ h2 => h2))
    have K4 := Lib.hid k4; have HB2 := Lib.hid (Below.chain HB.out hb)
    obtain ⟨eo, ec, rfl⟩ := hv.ends.slice
    obtain ⟨tb, tc, rfl, -⟩ := hv.tab
    clear k4 hv hb y0 y1 y2 y3
    refine Lib.hid ?_
    go_wp2_with (go_at_call 57; refine (K4.out).mono ?_; rintro e w3 ⟨g, h, t, T, rfl, hd, hg, hh, -, -, -, hb⟩; refine Hid.out ?_)
    have HB3 := Lib.hid ((Below.chain HB2.out hb).alloc (Below.chain HB2.out hb).size (Obj.cells #[.slice (some ⟨g, 0, none⟩) P P, .slice (some ⟨h, 0, none⟩) P P] 97))
    have HD := Lib.hid hd; have HDA := Lib.hid (DomAt.new w3 hg hh)
    have HX3 := Lib.hid ((HX2.out.below hb).below ((Below.refl w3.heap.size w3).alloc (Nat.le_refl _) (Obj.cells #[.slice (some ⟨g, 0, none⟩) P P, .slice (some ⟨h, 0, none⟩) P P] 97)))
    have HZ3 := Lib.hid HB3.out.size
    clear hb hd hg hh K4 HX1 HX2 HX HB HB2
    obtain ⟨y0, y1, y2, y3⟩ := HX3.out
    refine Lib.hid ?_
    go_wp2_with fail
    generalize hW : w3.alloc (Obj.cells #[.slice (some ⟨g, 0, none⟩) P P, .slice (some ⟨h, 0, none⟩) P P] 97) = W at *
    clear hW
    generalize w3.heap.size = D at *
    clear y0 y1 y2 y3
    go_loopw [6, 20] (fun lv iv wr => ∃ j : Nat, j ≤ E.length ∧ iv = .int .i64 (j : Int) ∧ ownI W.heap.size wr lv (bkL (bkT P t T) E j) ∧ Below W.heap.size W wr) (fun _ iv _ => E.length - (intOf iv).toNat)
    case atStart => exact ⟨0, Nat.zero_le _, rfl, ownI.nil, Below.refl _ _⟩
    case round =>
      obtain ⟨j, hj, rfl, hown, hB⟩ := hrel
      have HB4 := Lib.hid hB; have HO := Lib.hid hown; clear hB hown
      by_cases hlt : j < E.length
      · obtain ⟨b, o, rfl, hbl, he, hok⟩ := HAT.out j hlt
        have hbw := Below.chain HB3.out HB4.out
        have he2 := he.below hbw hbl
        have hp1 := (HPT.out j hlt).1
        have HLT := Lib.hid hlt
        have hl1 : (j : Int) < (E.length : Int) := by omega
        have hl0 : (0 : Int) ≤ (j : Int) := by omega
        have HT := fun (h : bkT P t T (edD E j) = true) => bkL_true (bk := bkT P t T) (E := E) (j := j) h
        have HF := fun (h : bkT P t T (edD E j) = false) => bkL_false (bk := bkT P t T) (E := E) (j := j) h
        have HLN := Lib.hid (Nat.le_trans (bkL_len (bkT P t T) E j) (show j ≤ 1200000 by have := HL.out; omega))
        generalize edD E j = d at *
        have HE := Lib.hid he2
        have hda := HDA.out.below (Below.chain HB4.out ((Below.refl wr.heap.size wr).alloc (Nat.le_refl _) (.cells d.cs 55)))
        have HDB := Lib.hid hda
        have HBX := Lib.hid (EdAt.box wr d)
        have CB := hda.back HD.out d hp1
        obtain ⟨q0, q1, q2, -, -⟩ := hda
        have HBa : Hid (Below wr.heap.size wr (wr.alloc (.cells d.cs 55))) := Lib.hid ((Below.refl _ _).alloc (Nat.le_refl _) _)
        clear he he2 hok hp1 hbw
        obtain ⟨vo, vc, rfl, -, -, -⟩ := HO.out.slice
        cases hbk : bkT P t T d with
        | false =>
          rw [hbk] at CB
          have hf2 := HF hbk
          have HF2 := Lib.hid hf2; have KB := Lib.hid CB
          clear CB HT HF hf2 hbk HLN
          go_wp2_with (first | (refine wpList_load_ed (.tmp 23) rfl rfl b (o + j * 21) (by simp [Act.eval, Act.put]) d HE.out ?_) | (refine wpList_store_ed (.tmp 8) (.tmp 24) rfl rfl rfl (by simp [Act.eval, Act.put]) d (by simp [Act.eval, Act.put]) ?_) | (refine wpList_load_ed (.tmp 8) rfl rfl wr.heap.size (0) (by simp [Act.eval, Act.put]) d HBX.out ?_) | (go_at_call 59; refine (KB.out).mono ?_; rintro e w4 ⟨rfl, hb⟩; refine Hid.out ?_))
          have HB5 := Lib.hid (Below.chain (Below.chain HB4.out HBa.out) hb)
          have HO2 := Lib.hid (HO.out.below (Below.chain HBa.out hb))
          clear hb q0 q1 q2
          refine Lib.hid ?_
          have hL2 : E.length ≤ 1024 := HL.out
          have hL3 : j < E.length := HLT.out
          go_wp2
          go_roundw
          case rel => exact ⟨j + 1, HLT.out, by go_num, by rw [HF2.out]; exact HO2.out, HB5.out⟩
          case measure => have := HLT.out; have := HL.out; simp [intOf]; omega
        | true =>
          rw [hbk] at CB
          have ht2 := HT hbk
          have HT2 := Lib.hid ht2; have KB := Lib.hid CB
          clear CB HT HF ht2 hbk
          go_wp2_with (first | (refine wpList_load_ed (.tmp 23) rfl rfl b (o + j * 21) (by simp [Act.eval, Act.put]) d HE.out ?_) | (refine wpList_store_ed (.tmp 8) (.tmp 24) rfl rfl rfl (by simp [Act.eval, Act.put]) d (by simp [Act.eval, Act.put]) ?_) | (refine wpList_load_ed (.tmp 8) rfl rfl wr.heap.size (0) (by simp [Act.eval, Act.put]) d HBX.out ?_) | (go_at_call 59; refine (KB.out).mono ?_; rintro e w4 ⟨rfl, hb⟩; refine Hid.out ?_))
          have HB5 := Lib.hid (Below.chain (Below.chain HB4.out HBa.out) hb)
          have HO2 := Lib.hid ((HO.out.below (Below.chain HBa.out hb)).below ((Below.refl w4.heap.size w4).alloc (Nat.le_refl _) (Obj.cells #[.int .i64 (j : Int)] 3)))
          clear hb q0 q1 q2
          refine Lib.hid ?_
          go_wp2_with (first | (at_builtin; refine wpList_push (lo := W.heap.size) (l := bkL (bkT P t T) E j) rfl (.tmp 28) (.tmp 30) rfl (by simp [Act.eval, Act.put]) HO2.out HLN.out (by have := HB5.out.size; simp only [World.size_alloc]; omega) w4.heap.size (j : Int) (by simp [Act.eval, Act.put]) (by go_cell) ?_; intro g9 cap k w9 hk9 h9 hg9 hgg; subst hk9; have H9 := Lib.hid h9; have HB9 := Lib.hid ((HB5.out.alloc HB5.out.size (Obj.cells #[.int .i64 (j : Int)] 3)).grown hg9 (by have := HB5.out.size; simp only [World.size_alloc]; omega) (fun b e => (HO2.out.lt e).1)); clear h9 hg9 hgg; refine Hid.out ?_) | fail)
          refine Lib.hid ?_
          have hL2 : E.length ≤ 1024 := HL.out
          have hL3 : j < E.length := HLT.out
          go_wp2
          go_roundw
          case rel => exact ⟨j + 1, HLT.out, by go_num, by rw [HT2.out]; exact H9.out, HB9.out⟩
          case measure => have := HLT.out; have := HL.out; simp [intOf]; omega
      · have hjn : j = E.length := by omega
        subst hjn
        have HB5 := Lib.hid (Below.chain HB3.out HB4.out)
        go_wp2
        refine bodyPost_ret (by first | (simp [results, Try.results32, go_sem]; done) | (simp [results, Try.results32, go_sem]; rfl)) rfl ?_
        exact ⟨HB5.out, .inr ⟨H0.out, _, t, T, rfl, HD.out, HO.out.mono HZ3.out⟩⟩
end Go.Proofs.Ytjjkabgbcflipaa
