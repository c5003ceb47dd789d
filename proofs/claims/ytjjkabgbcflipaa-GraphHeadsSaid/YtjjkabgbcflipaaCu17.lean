import Derived.Test.YtjjkabgbcflipaaCu16
set_option linter.unusedSimpArgs false
set_option linter.unusedVariables false
namespace Go.Proofs.Ytjjkabgbcflipaa
open Go Go.Proofs Go.RowKit GM

def siAct (b1 o1 n1 c1 b2 o2 n2 c2 i : Nat) (q2 q3 q4 q6 q7 q8 q9 q10 q11 q12 q13 q14 q15 q16 u17 u18 u19 u20 u21 u22 u23 u24 u25 : Value) : Act :=
  { tmps := #[.slice (some ⟨b1, o1, none⟩) n1 c1, .slice (some ⟨b2, o2, none⟩) n2 c2, q2, q3, q4, .int .i64 (i : Int), q6, q7, q8, q9, q10, q11, q12, q13, q14, q15, q16, u17, u18, u19, u20, u21, u22, u23, u24, u25], defers := [] }
def siI (b1 o1 n1 c1 b2 o2 n2 c2 i : Nat) (x y : Int) (q2 q3 q4 q6 q7 q8 q9 q10 q11 q12 q13 q14 q15 q16 : Value) (W0 : World) (listed : Array Bool) (a : Act) (w : World) : Prop :=
  ∃ u17 u18 u19 u20 u21 u22 u23 u24 u25, a = siAct b1 o1 n1 c1 b2 o2 n2 c2 i q2 q3 q4 q6 q7 q8 q9 q10 q11 q12 q13 q14 q15 q16 u17 u18 u19 u20 u21 u22 u23 u24 u25 ∧ Below W0.heap.size W0 w ∧
    (listed.getD 0 false = true → u17 = .slice (some ⟨b1, o1, none⟩) n1 c1) ∧
    (listed.getD 1 false = true → u18 = .int .i64 (i : Int)) ∧
    (listed.getD 2 false = true → u19 = .pointer (some ⟨b1, o1 + i, none⟩)) ∧
    (listed.getD 3 false = true → u20 = .int .i64 x) ∧
    (listed.getD 4 false = true → u21 = .slice (some ⟨b2, o2, none⟩) n2 c2) ∧
    (listed.getD 5 false = true → u22 = .int .i64 (i : Int)) ∧
    (listed.getD 6 false = true → u23 = .pointer (some ⟨b2, o2 + i, none⟩)) ∧
    (listed.getD 7 false = true → u24 = .int .i64 y) ∧
    (listed.getD 8 false = true → u25 = .bool (x != y))
set_option maxRecDepth 20000 in
set_option maxHeartbeats 4000000 in
theorem si_region (b1 o1 n1 c1 b2 o2 n2 c2 i : Nat) (x y : Int) (q2 q3 q4 q6 q7 q8 q9 q10 q11 q12 q13 q14 q15 q16 : Value) (W0 : World) (i17 i18 i19 i20 i21 i22 i23 i24 i25 : Value) (hi1 : i < n1) (hi2 : i < n2) (hl : n1 ≤ 100000 ∧ n2 ≤ 100000) (hb1 : b1 < W0.heap.size) (hb2 : b2 < W0.heap.size) (hx : W0.cell? ⟨b1, o1 + i, none⟩ = some (.int .i64 x)) (hy : W0.cell? ⟨b2, o2 + i, none⟩ = some (.int .i64 y)) {Q : Exit → Act → World → Prop}
    (hQ : ∀ u17 u18 u19 u20 u21 u22 u23 u24 u25 w, Below W0.heap.size W0 w → (u17 = .slice (some ⟨b1, o1, none⟩) n1 c1) → (u18 = .int .i64 (i : Int)) → (u19 = .pointer (some ⟨b1, o1 + i, none⟩)) → (u20 = .int .i64 x) → (u21 = .slice (some ⟨b2, o2, none⟩) n2 c2) → (u22 = .int .i64 (i : Int)) → (u23 = .pointer (some ⟨b2, o2 + i, none⟩)) → (u24 = .int .i64 y) → (u25 = .bool (x != y)) → Q .normal (siAct b1 o1 n1 c1 b2 o2 n2 c2 i q2 q3 q4 q6 q7 q8 q9 q10 q11 q12 q13 q14 q15 q16 u17 u18 u19 u20 u21 u22 u23 u24 u25) w) :
    (Code.region 6 #[{ dst := some 17, op := Op.move (Operand.tmp 0), type := 51, pos := "ref.go:301", after := #[], guard := none }, { dst := some 18, op := Op.move (Operand.tmp 5), type := 3, pos := "ref.go:301", after := #[], guard := none }, { dst := some 19, op := Op.indexAddr 51 (Operand.tmp 17) (Operand.tmp 18), type := 0, pos := "ref.go:301", after := #[{ on := 0, ground := Ground.data }, { on := 1, ground := Ground.data }], guard := none }, { dst := some 20, op := Op.load 3 (Operand.tmp 19), type := 3, pos := "ref.go:301", after := #[{ on := 2, ground := Ground.data }], guard := none }, { dst := some 21, op := Op.move (Operand.tmp 1), type := 51, pos := "ref.go:301", after := #[], guard := none }, { dst := some 22, op := Op.move (Operand.tmp 5), type := 3, pos := "ref.go:301", after := #[], guard := none }, { dst := some 23, op := Op.indexAddr 51 (Operand.tmp 21) (Operand.tmp 22), type := 0, pos := "ref.go:301", after := #[{ on := 4, ground := Ground.data }, { on := 5, ground := Ground.data }], guard := none }, { dst := some 24, op := Op.load 3 (Operand.tmp 23), type := 3, pos := "ref.go:301", after := #[{ on := 6, ground := Ground.data }], guard := none }, { dst := some 25, op := Op.binOp BinOp.neq 3 (Operand.tmp 20) (Operand.tmp 24) 3, type := 4, pos := "ref.go:301", after := #[{ on := 3, ground := Ground.data }, { on := 7, ground := Ground.data }], guard := none }] true).wp Try.prog Q (siAct b1 o1 n1 c1 b2 o2 n2 c2 i q2 q3 q4 q6 q7 q8 q9 q10 q11 q12 q13 q14 q15 q16 (i17) (i18) (i19) (i20) (i21) (i22) (i23) (i24) (i25)) W0 := by
  refine wp_region_inv (by kernel_rfl) (by kernel_rfl) (siI b1 o1 n1 c1 b2 o2 n2 c2 i x y q2 q3 q4 q6 q7 q8 q9 q10 q11 q12 q13 q14 q15 q16 W0) ?_ ?_ ?_
  · refine ⟨_, _, _, _, _, _, _, _, _, rfl, (Below.refl _ _).drew, ?_, ?_, ?_, ?_, ?_, ?_, ?_, ?_, ?_⟩ <;> (intro e; simp at e)
  · intro listed a w i o hI hs ho hl hd
    have hi9 : i < 9 := (Array.getElem?_eq_some_iff.1 ho).1
    obtain ⟨u17, u18, u19, u20, u21, u22, u23, u24, u25, rfl, hB, h0, h1, h2, h3, h4, h5, h6, h7, h8⟩ := hI
    have hlB := hB.size
    rcases (show i = 0 ∨ i = 1 ∨ i = 2 ∨ i = 3 ∨ i = 4 ∨ i = 5 ∨ i = 6 ∨ i = 7 ∨ i = 8 by omega) with rfl | rfl | rfl | rfl | rfl | rfl | rfl | rfl | rfl
    · have ho' : some _ = some o := ho
      cases ho'
      have hbw : Below w.heap.size w w := Below.refl _ _
      unfold siAct; go_simp
      exact ⟨.slice (some ⟨b1, o1, none⟩) n1 c1, u18, u19, u20, u21, u22, u23, u24, u25, rfl, hB, fun _ => rfl, fun e1 => h1 (lset_ne (by decide) e1), fun e2 => h2 (lset_ne (by decide) e2), fun e3 => h3 (lset_ne (by decide) e3), fun e4 => h4 (lset_ne (by decide) e4), fun e5 => h5 (lset_ne (by decide) e5), fun e6 => h6 (lset_ne (by decide) e6), fun e7 => h7 (lset_ne (by decide) e7), fun e8 => h8 (lset_ne (by decide) e8)⟩
    · have ho' : some _ = some o := ho
      cases ho'
      have hbw : Below w.heap.size w w := Below.refl _ _
      unfold siAct; go_simp
      exact ⟨u17, .int .i64 (i : Int), u19, u20, u21, u22, u23, u24, u25, rfl, hB, fun e0 => h0 (lset_ne (by decide) e0), fun _ => rfl, fun e2 => h2 (lset_ne (by decide) e2), fun e3 => h3 (lset_ne (by decide) e3), fun e4 => h4 (lset_ne (by decide) e4), fun e5 => h5 (lset_ne (by decide) e5), fun e6 => h6 (lset_ne (by decide) e6), fun e7 => h7 (lset_ne (by decide) e7), fun e8 => h8 (lset_ne (by decide) e8)⟩
    · have ho' : some _ = some o := ho
      cases ho'
      have d0 := hd { on := 0, ground := .data } (by simp) rfl
      have d1 := hd { on := 1, ground := .data } (by simp) rfl
      have hbw : Below w.heap.size w w := Below.refl _ _
      have p0 : (0 : Int) ≤ (i : Int) := by omega
      have p1 : (i : Int) < (n1 : Int) := by omega
      have e0 := h0 d0
      subst e0
      have e1 := h1 d1
      subst e1
      unfold siAct; go_simp
      exact ⟨.slice (some ⟨b1, o1, none⟩) n1 c1, .int .i64 (i : Int), .pointer (some ⟨b1, o1 + i, none⟩), u20, u21, u22, u23, u24, u25, rfl, hB, fun e0 => h0 (lset_ne (by decide) e0), fun e1 => h1 (lset_ne (by decide) e1), fun _ => rfl, fun e3 => h3 (lset_ne (by decide) e3), fun e4 => h4 (lset_ne (by decide) e4), fun e5 => h5 (lset_ne (by decide) e5), fun e6 => h6 (lset_ne (by decide) e6), fun e7 => h7 (lset_ne (by decide) e7), fun e8 => h8 (lset_ne (by decide) e8)⟩
    · have ho' : some _ = some o := ho
      cases ho'
      have d2 := hd { on := 2, ground := .data } (by simp) rfl
      have hbw : Below w.heap.size w w := Below.refl _ _
      have c0 := (hB.cell (p := ⟨b1, o1 + i, none⟩) hb1).trans hx
      have e2 := h2 d2
      subst e2
      unfold siAct; go_simp
      exact ⟨u17, u18, .pointer (some ⟨b1, o1 + i, none⟩), .int .i64 x, u21, u22, u23, u24, u25, rfl, hB, fun e0 => h0 (lset_ne (by decide) e0), fun e1 => h1 (lset_ne (by decide) e1), fun e2 => h2 (lset_ne (by decide) e2), fun _ => rfl, fun e4 => h4 (lset_ne (by decide) e4), fun e5 => h5 (lset_ne (by decide) e5), fun e6 => h6 (lset_ne (by decide) e6), fun e7 => h7 (lset_ne (by decide) e7), fun e8 => h8 (lset_ne (by decide) e8)⟩
    · have ho' : some _ = some o := ho
      cases ho'
      have hbw : Below w.heap.size w w := Below.refl _ _
      unfold siAct; go_simp
      exact ⟨u17, u18, u19, u20, .slice (some ⟨b2, o2, none⟩) n2 c2, u22, u23, u24, u25, rfl, hB, fun e0 => h0 (lset_ne (by decide) e0), fun e1 => h1 (lset_ne (by decide) e1), fun e2 => h2 (lset_ne (by decide) e2), fun e3 => h3 (lset_ne (by decide) e3), fun _ => rfl, fun e5 => h5 (lset_ne (by decide) e5), fun e6 => h6 (lset_ne (by decide) e6), fun e7 => h7 (lset_ne (by decide) e7), fun e8 => h8 (lset_ne (by decide) e8)⟩
    · have ho' : some _ = some o := ho
      cases ho'
      have hbw : Below w.heap.size w w := Below.refl _ _
      unfold siAct; go_simp
      exact ⟨u17, u18, u19, u20, u21, .int .i64 (i : Int), u23, u24, u25, rfl, hB, fun e0 => h0 (lset_ne (by decide) e0), fun e1 => h1 (lset_ne (by decide) e1), fun e2 => h2 (lset_ne (by decide) e2), fun e3 => h3 (lset_ne (by decide) e3), fun e4 => h4 (lset_ne (by decide) e4), fun _ => rfl, fun e6 => h6 (lset_ne (by decide) e6), fun e7 => h7 (lset_ne (by decide) e7), fun e8 => h8 (lset_ne (by decide) e8)⟩
    · have ho' : some _ = some o := ho
      cases ho'
      have d4 := hd { on := 4, ground := .data } (by simp) rfl
      have d5 := hd { on := 5, ground := .data } (by simp) rfl
      have hbw : Below w.heap.size w w := Below.refl _ _
      have p0 : (0 : Int) ≤ (i : Int) := by omega
      have p1 : (i : Int) < (n2 : Int) := by omega
      have e4 := h4 d4
      subst e4
      have e5 := h5 d5
      subst e5
      unfold siAct; go_simp
      exact ⟨u17, u18, u19, u20, .slice (some ⟨b2, o2, none⟩) n2 c2, .int .i64 (i : Int), .pointer (some ⟨b2, o2 + i, none⟩), u24, u25, rfl, hB, fun e0 => h0 (lset_ne (by decide) e0), fun e1 => h1 (lset_ne (by decide) e1), fun e2 => h2 (lset_ne (by decide) e2), fun e3 => h3 (lset_ne (by decide) e3), fun e4 => h4 (lset_ne (by decide) e4), fun e5 => h5 (lset_ne (by decide) e5), fun _ => rfl, fun e7 => h7 (lset_ne (by decide) e7), fun e8 => h8 (lset_ne (by decide) e8)⟩
    · have ho' : some _ = some o := ho
      cases ho'
      have d6 := hd { on := 6, ground := .data } (by simp) rfl
      have hbw : Below w.heap.size w w := Below.refl _ _
      have c0 := (hB.cell (p := ⟨b2, o2 + i, none⟩) hb2).trans hy
      have e6 := h6 d6
      subst e6
      unfold siAct; go_simp
      exact ⟨u17, u18, u19, u20, u21, u22, .pointer (some ⟨b2, o2 + i, none⟩), .int .i64 y, u25, rfl, hB, fun e0 => h0 (lset_ne (by decide) e0), fun e1 => h1 (lset_ne (by decide) e1), fun e2 => h2 (lset_ne (by decide) e2), fun e3 => h3 (lset_ne (by decide) e3), fun e4 => h4 (lset_ne (by decide) e4), fun e5 => h5 (lset_ne (by decide) e5), fun e6 => h6 (lset_ne (by decide) e6), fun _ => rfl, fun e8 => h8 (lset_ne (by decide) e8)⟩
    · have ho' : some _ = some o := ho
      cases ho'
      have d3 := hd { on := 3, ground := .data } (by simp) rfl
      have d7 := hd { on := 7, ground := .data } (by simp) rfl
      have hbw : Below w.heap.size w w := Below.refl _ _
      have e3 := h3 d3
      subst e3
      have e7 := h7 d7
      subst e7
      unfold siAct; go_simp
      exact ⟨u17, u18, u19, .int .i64 x, u21, u22, u23, .int .i64 y, .bool (x != y), rfl, hB, fun e0 => h0 (lset_ne (by decide) e0), fun e1 => h1 (lset_ne (by decide) e1), fun e2 => h2 (lset_ne (by decide) e2), fun e3 => h3 (lset_ne (by decide) e3), fun e4 => h4 (lset_ne (by decide) e4), fun e5 => h5 (lset_ne (by decide) e5), fun e6 => h6 (lset_ne (by decide) e6), fun e7 => h7 (lset_ne (by decide) e7), fun _ => rfl⟩
  · rintro listed a w ⟨u17, u18, u19, u20, u21, u22, u23, u24, u25, rfl, hB, h0, h1, h2, h3, h4, h5, h6, h7, h8⟩ hall
    exact hQ _ _ _ _ _ _ _ _ _ w hB (h0 (hall 0 (by decide))) (h1 (hall 1 (by decide))) (h2 (hall 2 (by decide))) (h3 (hall 3 (by decide))) (h4 (hall 4 (by decide))) (h5 (hall 5 (by decide))) (h6 (hall 6 (by decide))) (h7 (hall 7 (by decide))) (h8 (hall 8 (by decide)))
theorem take_ext {la lb : List Nat} {i : Nat} (h : la.take i = lb.take i) (h1 : i < la.length) (h2 : i < lb.length) (e : atD la i = atD lb i) : la.take (i + 1) = lb.take (i + 1) := by
  rw [List.take_add_one, List.take_add_one, h, atD_get h1, atD_get h2, e]
theorem IR.get {A : Nat → Prop} {W : World} {v : Value} {l : List Nat} (h : IR A W v l) : ∃ ao c, v = .slice ao l.length c ∧ ∀ k, k < l.length → ∃ b o, ao = some ⟨b, o, none⟩ ∧ b < W.heap.size ∧ W.cell? ⟨b, o + k, none⟩ = some (.int .i64 (atD l k : Nat)) := by
  obtain ⟨ao, c, e, h⟩ := h
  refine ⟨ao, c, e, fun k hk => ?_⟩
  rcases h with h | ⟨b, o, e2, ha, hlt, hc⟩
  · subst h; exact absurd hk (by simp)
  · exact ⟨b, o, e2, hlt, hc k hk⟩
set_option maxRecDepth 20000 in
set_option maxHeartbeats 400000 in
theorem sameInts_any {A : Nat → Prop} {va vb : Value} {la lb : List Nat} (w : World) (ha : IR A w va la) (hb : IR A w vb lb) (hl1 : la.length ≤ 100000) (hl2 : lb.length ≤ 100000) :
    Calls Try.prog 54 #[va, vb] w fun e w' => e = .returned (.bool (decide (la = lb))) ∧ Below w.heap.size w w' := by
  obtain ⟨a1, c1, rfl, g1⟩ := ha.get
  obtain ⟨a2, c2, rfl, g2⟩ := hb.get
  clear ha hb
  have G1 := Lib.hid g1; have G2 := Lib.hid g2; clear g1 g2
  by_cases hlen : la.length = lb.length
  rotate_left
  · have hne : decide (la = lb) = false := decide_eq_false fun e => hlen (by rw [e])
    rw [hne]
    have t1 : ((la.length : Int) != (lb.length : Int)) = true := by rw [bne_iff_ne]; omega
    clear hlen hne
    go_enter Try.func54, Try.ntmps54
    go_wp2
    go_ret
    exact ⟨rfl, Below.refl _ _⟩
  · have HLEN := Lib.hid hlen
    have t1 : ((la.length : Int) != (lb.length : Int)) = false := by rw [bne_eq_false_iff_eq]; omega
    obtain ⟨R, hR⟩ : ∃ R, R = decide (la = lb) := ⟨_, rfl⟩
    rw [← hR]
    have HR := Lib.hid hR
    clear hlen hR
    go_enter Try.func54, Try.ntmps54
    go_wp2_with fail
    go_loopw [5] (fun iv wr => ∃ i : Nat, i ≤ la.length ∧ iv = .int .i64 (i : Int) ∧ la.take i = lb.take i ∧ Below w.heap.size w wr) (fun iv _ => la.length - (intOf iv).toNat)
    case atStart => exact ⟨0, Nat.zero_le _, rfl, by simp, Below.refl _ _⟩
    case round =>
      obtain ⟨i, hi, rfl, htk, hB⟩ := hrel
      have HTK := Lib.hid htk; have HB := Lib.hid hB; clear htk hB
      by_cases hlt : i < la.length
      · have HLT := Lib.hid hlt
        have i0 : (0 : Int) ≤ (i : Int) := by omega
        have i1 : (i : Int) < (la.length : Int) := by omega
        have i2 : i < lb.length := by have := HLEN.out; omega
        obtain ⟨b1, o1, e1, hb1, hc1⟩ := G1.out i hlt
        obtain ⟨b2, o2, e2, hb2, hc2⟩ := G2.out i i2
        subst e1 e2
        have C1 := Lib.hid ((HB.out.cell (p := ⟨b1, o1 + i, none⟩) hb1).trans hc1)
        have C2 := Lib.hid ((HB.out.cell (p := ⟨b2, o2 + i, none⟩) hb2).trans hc2)
        have hb1' := Nat.lt_of_lt_of_le hb1 HB.out.size
        have hb2' := Nat.lt_of_lt_of_le hb2 HB.out.size
        have I2 := Lib.hid i2
        clear hb1 hb2 hc1 hc2 i2
        go_wp2_with fail
        refine si_region b1 o1 la.length c1 b2 o2 lb.length c2 i (atD la i : Nat) (atD lb i : Nat) _ _ _ _ _ _ _ _ _ _ _ _ _ _ _ _ _ _ _ _ _ _ _ _ HLT.out I2.out ⟨hl1, hl2⟩ hb1' hb2' C1.out C2.out ?_
        intro u17 u18 u19 u20 u21 u22 u23 u24 u25 w2 hb h0 h1 h2 h3 h4 h5 h6 h7 h8
        have HB2 := Lib.hid (Below.chain HB.out hb)
        clear h0 h1 h2 h3 h4 h5 h6 h7 hb C1 C2 hb1' hb2'
        subst h8
        unfold siAct
        by_cases hxy : atD la i = atD lb i
        · have t2 : (((atD la i : Nat) : Int) != ((atD lb i : Nat) : Int)) = false := by rw [bne_eq_false_iff_eq, hxy]
          have HT2 := Lib.hid (take_ext HTK.out HLT.out I2.out hxy)
          clear hxy
          have hi3 := HLT.out
          go_wp2
          go_roundw
          case rel => exact ⟨i + 1, HLT.out, by go_num, HT2.out, HB2.out⟩
          case measure => simp [intOf]; omega
        · have t2 : (((atD la i : Nat) : Int) != ((atD lb i : Nat) : Int)) = true := by rw [bne_iff_ne]; omega
          have hRf : R = false := by
            rw [HR.out]; exact decide_eq_false fun e => hxy (by rw [e])
          subst hRf
          clear hxy
          go_wp2
          go_ret
          exact ⟨rfl, HB2.out⟩
      · have hin : i = la.length := by omega
        subst hin
        have hRt : R = true := by
          rw [HR.out]
          have h1 := HTK.out
          rw [List.take_length, HLEN.out, List.take_length] at h1
          exact decide_eq_true h1
        subst hRt
        go_wp2
        go_ret
        exact ⟨rfl, HB.out⟩
def slAct (b1 n1 c1 b2 n2 c2 i : Nat) (q2 q3 q4 q6 q7 q8 q9 q10 q11 q12 q13 q14 q15 q16 u17 u18 u19 u20 u21 u22 u23 u24 u25 u26 : Value) : Act :=
  { tmps := #[.slice (some ⟨b1, 0, none⟩) n1 c1, .slice (some ⟨b2, 0, none⟩) n2 c2, q2, q3, q4, .int .i64 (i : Int), q6, q7, q8, q9, q10, q11, q12, q13, q14, q15, q16, u17, u18, u19, u20, u21, u22, u23, u24, u25, u26], defers := [] }
def slI (b1 n1 c1 b2 n2 c2 i : Nat) (ra rb : Value) (S : Bool) (q2 q3 q4 q6 q7 q8 q9 q10 q11 q12 q13 q14 q15 q16 : Value) (W0 : World) (listed : Array Bool) (a : Act) (w : World) : Prop :=
  ∃ u17 u18 u19 u20 u21 u22 u23 u24 u25 u26, a = slAct b1 n1 c1 b2 n2 c2 i q2 q3 q4 q6 q7 q8 q9 q10 q11 q12 q13 q14 q15 q16 u17 u18 u19 u20 u21 u22 u23 u24 u25 u26 ∧ Below W0.heap.size W0 w ∧
    (listed.getD 0 false = true → u17 = .slice (some ⟨b1, 0, none⟩) n1 c1) ∧
    (listed.getD 1 false = true → u18 = .int .i64 (i : Int)) ∧
    (listed.getD 2 false = true → u19 = .pointer (some ⟨b1, i, none⟩)) ∧
    (listed.getD 3 false = true → u20 = ra) ∧
    (listed.getD 4 false = true → u21 = .slice (some ⟨b2, 0, none⟩) n2 c2) ∧
    (listed.getD 5 false = true → u22 = .int .i64 (i : Int)) ∧
    (listed.getD 6 false = true → u23 = .pointer (some ⟨b2, i, none⟩)) ∧
    (listed.getD 7 false = true → u24 = rb) ∧
    (listed.getD 8 false = true → u25 = .bool S) ∧
    (listed.getD 9 false = true → u26 = .bool (!S))
set_option maxRecDepth 20000 in
set_option maxHeartbeats 4000000 in
theorem sl_region (b1 n1 c1 b2 n2 c2 i : Nat) (ra rb : Value) (S : Bool) (q2 q3 q4 q6 q7 q8 q9 q10 q11 q12 q13 q14 q15 q16 : Value) (W0 : World) (i17 i18 i19 i20 i21 i22 i23 i24 i25 i26 : Value) (hi1 : i < n1) (hi2 : i < n2) (hl : n1 ≤ 100000 ∧ n2 ≤ 100000) (hb1 : b1 < W0.heap.size) (hb2 : b2 < W0.heap.size) (hx : W0.cell? ⟨b1, i, none⟩ = some ra) (hy : W0.cell? ⟨b2, i, none⟩ = some rb) (cs : ∀ W, Below W0.heap.size W0 W → Calls Try.prog 54 #[ra, rb] W fun e w' => e = .returned (.bool S) ∧ Below W.heap.size W w') {Q : Exit → Act → World → Prop}
    (hQ : ∀ u17 u18 u19 u20 u21 u22 u23 u24 u25 u26 w, Below W0.heap.size W0 w → (u17 = .slice (some ⟨b1, 0, none⟩) n1 c1) → (u18 = .int .i64 (i : Int)) → (u19 = .pointer (some ⟨b1, i, none⟩)) → (u20 = ra) → (u21 = .slice (some ⟨b2, 0, none⟩) n2 c2) → (u22 = .int .i64 (i : Int)) → (u23 = .pointer (some ⟨b2, i, none⟩)) → (u24 = rb) → (u25 = .bool S) → (u26 = .bool (!S)) → Q .normal (slAct b1 n1 c1 b2 n2 c2 i q2 q3 q4 q6 q7 q8 q9 q10 q11 q12 q13 q14 q15 q16 u17 u18 u19 u20 u21 u22 u23 u24 u25 u26) w) :
    (Code.region 6 #[{ dst := some 17, op := Op.move (Operand.tmp 0), type := 27, pos := "ref.go:314", after := #[], guard := none }, { dst := some 18, op := Op.move (Operand.tmp 5), type := 3, pos := "ref.go:314", after := #[], guard := none }, { dst := some 19, op := Op.indexAddr 27 (Operand.tmp 17) (Operand.tmp 18), type := 0, pos := "ref.go:314", after := #[{ on := 0, ground := Ground.data }, { on := 1, ground := Ground.data }], guard := none }, { dst := some 20, op := Op.load 51 (Operand.tmp 19), type := 51, pos := "ref.go:314", after := #[{ on := 2, ground := Ground.data }], guard := none }, { dst := some 21, op := Op.move (Operand.tmp 1), type := 27, pos := "ref.go:314", after := #[], guard := none }, { dst := some 22, op := Op.move (Operand.tmp 5), type := 3, pos := "ref.go:314", after := #[], guard := none }, { dst := some 23, op := Op.indexAddr 27 (Operand.tmp 21) (Operand.tmp 22), type := 0, pos := "ref.go:314", after := #[{ on := 4, ground := Ground.data }, { on := 5, ground := Ground.data }], guard := none }, { dst := some 24, op := Op.load 51 (Operand.tmp 23), type := 51, pos := "ref.go:314", after := #[{ on := 6, ground := Ground.data }], guard := none }, { dst := some 25, op := Op.call { callee := Callee.value (Operand.func 54), args := #[Operand.tmp 20, Operand.tmp 24], argTypes := #[51, 51] }, type := 4, pos := "ref.go:314", after := #[{ on := 3, ground := Ground.data }, { on := 7, ground := Ground.data }], guard := none }, { dst := some 26, op := Op.unOp UnOp.not 4 (Operand.tmp 25), type := 4, pos := "ref.go:314", after := #[{ on := 8, ground := Ground.data }], guard := none }] true).wp Try.prog Q (slAct b1 n1 c1 b2 n2 c2 i q2 q3 q4 q6 q7 q8 q9 q10 q11 q12 q13 q14 q15 q16 (i17) (i18) (i19) (i20) (i21) (i22) (i23) (i24) (i25) (i26)) W0 := by
  refine wp_region_inv (by kernel_rfl) (by kernel_rfl) (slI b1 n1 c1 b2 n2 c2 i ra rb S q2 q3 q4 q6 q7 q8 q9 q10 q11 q12 q13 q14 q15 q16 W0) ?_ ?_ ?_
  · refine ⟨_, _, _, _, _, _, _, _, _, _, rfl, (Below.refl _ _).drew, ?_, ?_, ?_, ?_, ?_, ?_, ?_, ?_, ?_, ?_⟩ <;> (intro e; simp at e)
  · intro listed a w i o hI hs ho hl hd
    have hi9 : i < 10 := (Array.getElem?_eq_some_iff.1 ho).1
    obtain ⟨u17, u18, u19, u20, u21, u22, u23, u24, u25, u26, rfl, hB, h0, h1, h2, h3, h4, h5, h6, h7, h8, h9⟩ := hI
    have hlB := hB.size
    rcases (show i = 0 ∨ i = 1 ∨ i = 2 ∨ i = 3 ∨ i = 4 ∨ i = 5 ∨ i = 6 ∨ i = 7 ∨ i = 8 ∨ i = 9 by omega) with rfl | rfl | rfl | rfl | rfl | rfl | rfl | rfl | rfl | rfl
    · have ho' : some _ = some o := ho
      cases ho'
      have hbw : Below w.heap.size w w := Below.refl _ _
      unfold slAct; go_simp
      exact ⟨.slice (some ⟨b1, 0, none⟩) n1 c1, u18, u19, u20, u21, u22, u23, u24, u25, u26, rfl, hB, fun _ => rfl, fun e1 => h1 (lset_ne (by decide) e1), fun e2 => h2 (lset_ne (by decide) e2), fun e3 => h3 (lset_ne (by decide) e3), fun e4 => h4 (lset_ne (by decide) e4), fun e5 => h5 (lset_ne (by decide) e5), fun e6 => h6 (lset_ne (by decide) e6), fun e7 => h7 (lset_ne (by decide) e7), fun e8 => h8 (lset_ne (by decide) e8), fun e9 => h9 (lset_ne (by decide) e9)⟩
    · have ho' : some _ = some o := ho
      cases ho'
      have hbw : Below w.heap.size w w := Below.refl _ _
      unfold slAct; go_simp
      exact ⟨u17, .int .i64 (i : Int), u19, u20, u21, u22, u23, u24, u25, u26, rfl, hB, fun e0 => h0 (lset_ne (by decide) e0), fun _ => rfl, fun e2 => h2 (lset_ne (by decide) e2), fun e3 => h3 (lset_ne (by decide) e3), fun e4 => h4 (lset_ne (by decide) e4), fun e5 => h5 (lset_ne (by decide) e5), fun e6 => h6 (lset_ne (by decide) e6), fun e7 => h7 (lset_ne (by decide) e7), fun e8 => h8 (lset_ne (by decide) e8), fun e9 => h9 (lset_ne (by decide) e9)⟩
    · have ho' : some _ = some o := ho
      cases ho'
      have d0 := hd { on := 0, ground := .data } (by simp) rfl
      have d1 := hd { on := 1, ground := .data } (by simp) rfl
      have hbw : Below w.heap.size w w := Below.refl _ _
      have p0 : (0 : Int) ≤ (i : Int) := by omega
      have p1 : (i : Int) < (n1 : Int) := by omega
      have e0 := h0 d0
      subst e0
      have e1 := h1 d1
      subst e1
      unfold slAct; go_simp
      exact ⟨.slice (some ⟨b1, 0, none⟩) n1 c1, .int .i64 (i : Int), .pointer (some ⟨b1, i, none⟩), u20, u21, u22, u23, u24, u25, u26, rfl, hB, fun e0 => h0 (lset_ne (by decide) e0), fun e1 => h1 (lset_ne (by decide) e1), fun _ => rfl, fun e3 => h3 (lset_ne (by decide) e3), fun e4 => h4 (lset_ne (by decide) e4), fun e5 => h5 (lset_ne (by decide) e5), fun e6 => h6 (lset_ne (by decide) e6), fun e7 => h7 (lset_ne (by decide) e7), fun e8 => h8 (lset_ne (by decide) e8), fun e9 => h9 (lset_ne (by decide) e9)⟩
    · have ho' : some _ = some o := ho
      cases ho'
      have d2 := hd { on := 2, ground := .data } (by simp) rfl
      have hbw : Below w.heap.size w w := Below.refl _ _
      have c0 := (hB.cell (p := ⟨b1, i, none⟩) hb1).trans hx
      have e2 := h2 d2
      subst e2
      unfold slAct; go_simp
      exact ⟨u17, u18, .pointer (some ⟨b1, i, none⟩), ra, u21, u22, u23, u24, u25, u26, rfl, hB, fun e0 => h0 (lset_ne (by decide) e0), fun e1 => h1 (lset_ne (by decide) e1), fun e2 => h2 (lset_ne (by decide) e2), fun _ => rfl, fun e4 => h4 (lset_ne (by decide) e4), fun e5 => h5 (lset_ne (by decide) e5), fun e6 => h6 (lset_ne (by decide) e6), fun e7 => h7 (lset_ne (by decide) e7), fun e8 => h8 (lset_ne (by decide) e8), fun e9 => h9 (lset_ne (by decide) e9)⟩
    · have ho' : some _ = some o := ho
      cases ho'
      have hbw : Below w.heap.size w w := Below.refl _ _
      unfold slAct; go_simp
      exact ⟨u17, u18, u19, u20, .slice (some ⟨b2, 0, none⟩) n2 c2, u22, u23, u24, u25, u26, rfl, hB, fun e0 => h0 (lset_ne (by decide) e0), fun e1 => h1 (lset_ne (by decide) e1), fun e2 => h2 (lset_ne (by decide) e2), fun e3 => h3 (lset_ne (by decide) e3), fun _ => rfl, fun e5 => h5 (lset_ne (by decide) e5), fun e6 => h6 (lset_ne (by decide) e6), fun e7 => h7 (lset_ne (by decide) e7), fun e8 => h8 (lset_ne (by decide) e8), fun e9 => h9 (lset_ne (by decide) e9)⟩
    · have ho' : some _ = some o := ho
      cases ho'
      have hbw : Below w.heap.size w w := Below.refl _ _
      unfold slAct; go_simp
      exact ⟨u17, u18, u19, u20, u21, .int .i64 (i : Int), u23, u24, u25, u26, rfl, hB, fun e0 => h0 (lset_ne (by decide) e0), fun e1 => h1 (lset_ne (by decide) e1), fun e2 => h2 (lset_ne (by decide) e2), fun e3 => h3 (lset_ne (by decide) e3), fun e4 => h4 (lset_ne (by decide) e4), fun _ => rfl, fun e6 => h6 (lset_ne (by decide) e6), fun e7 => h7 (lset_ne (by decide) e7), fun e8 => h8 (lset_ne (by decide) e8), fun e9 => h9 (lset_ne (by decide) e9)⟩
    · have ho' : some _ = some o := ho
      cases ho'
      have d4 := hd { on := 4, ground := .data } (by simp) rfl
      have d5 := hd { on := 5, ground := .data } (by simp) rfl
      have hbw : Below w.heap.size w w := Below.refl _ _
      have p0 : (0 : Int) ≤ (i : Int) := by omega
      have p1 : (i : Int) < (n2 : Int) := by omega
      have e4 := h4 d4
      subst e4
      have e5 := h5 d5
      subst e5
      unfold slAct; go_simp
      exact ⟨u17, u18, u19, u20, .slice (some ⟨b2, 0, none⟩) n2 c2, .int .i64 (i : Int), .pointer (some ⟨b2, i, none⟩), u24, u25, u26, rfl, hB, fun e0 => h0 (lset_ne (by decide) e0), fun e1 => h1 (lset_ne (by decide) e1), fun e2 => h2 (lset_ne (by decide) e2), fun e3 => h3 (lset_ne (by decide) e3), fun e4 => h4 (lset_ne (by decide) e4), fun e5 => h5 (lset_ne (by decide) e5), fun _ => rfl, fun e7 => h7 (lset_ne (by decide) e7), fun e8 => h8 (lset_ne (by decide) e8), fun e9 => h9 (lset_ne (by decide) e9)⟩
    · have ho' : some _ = some o := ho
      cases ho'
      have d6 := hd { on := 6, ground := .data } (by simp) rfl
      have hbw : Below w.heap.size w w := Below.refl _ _
      have c0 := (hB.cell (p := ⟨b2, i, none⟩) hb2).trans hy
      have e6 := h6 d6
      subst e6
      unfold slAct; go_simp
      exact ⟨u17, u18, u19, u20, u21, u22, .pointer (some ⟨b2, i, none⟩), rb, u25, u26, rfl, hB, fun e0 => h0 (lset_ne (by decide) e0), fun e1 => h1 (lset_ne (by decide) e1), fun e2 => h2 (lset_ne (by decide) e2), fun e3 => h3 (lset_ne (by decide) e3), fun e4 => h4 (lset_ne (by decide) e4), fun e5 => h5 (lset_ne (by decide) e5), fun e6 => h6 (lset_ne (by decide) e6), fun _ => rfl, fun e8 => h8 (lset_ne (by decide) e8), fun e9 => h9 (lset_ne (by decide) e9)⟩
    · have ho' : some _ = some o := ho
      cases ho'
      have d3 := hd { on := 3, ground := .data } (by simp) rfl
      have d7 := hd { on := 7, ground := .data } (by simp) rfl
      have e3 := h3 d3
      subst e3
      have e7 := h7 d7
      subst e7
      unfold slAct; go_simp
      refine (cs w hB).mono ?_
      rintro e w' ⟨rfl, hbw⟩
      exact ⟨u17, u18, u19, u20, u21, u22, u23, u24, .bool S, u26, rfl, Below.chain hB hbw, fun e0 => h0 (lset_ne (by decide) e0), fun e1 => h1 (lset_ne (by decide) e1), fun e2 => h2 (lset_ne (by decide) e2), fun e3 => h3 (lset_ne (by decide) e3), fun e4 => h4 (lset_ne (by decide) e4), fun e5 => h5 (lset_ne (by decide) e5), fun e6 => h6 (lset_ne (by decide) e6), fun e7 => h7 (lset_ne (by decide) e7), fun _ => rfl, fun e9 => h9 (lset_ne (by decide) e9)⟩
    · have ho' : some _ = some o := ho
      cases ho'
      have d8 := hd { on := 8, ground := .data } (by simp) rfl
      have hbw : Below w.heap.size w w := Below.refl _ _
      have e8 := h8 d8
      subst e8
      unfold slAct; go_simp
      exact ⟨u17, u18, u19, u20, u21, u22, u23, u24, .bool S, .bool (!S), rfl, hB, fun e0 => h0 (lset_ne (by decide) e0), fun e1 => h1 (lset_ne (by decide) e1), fun e2 => h2 (lset_ne (by decide) e2), fun e3 => h3 (lset_ne (by decide) e3), fun e4 => h4 (lset_ne (by decide) e4), fun e5 => h5 (lset_ne (by decide) e5), fun e6 => h6 (lset_ne (by decide) e6), fun e7 => h7 (lset_ne (by decide) e7), fun e8 => h8 (lset_ne (by decide) e8), fun _ => rfl⟩
  · rintro listed a w ⟨u17, u18, u19, u20, u21, u22, u23, u24, u25, u26, rfl, hB, h0, h1, h2, h3, h4, h5, h6, h7, h8, h9⟩ hall
    exact hQ _ _ _ _ _ _ _ _ _ _ w hB (h0 (hall 0 (by decide))) (h1 (hall 1 (by decide))) (h2 (hall 2 (by decide))) (h3 (hall 3 (by decide))) (h4 (hall 4 (by decide))) (h5 (hall 5 (by decide))) (h6 (hall 6 (by decide))) (h7 (hall 7 (by decide))) (h8 (hall 8 (by decide))) (h9 (hall 9 (by decide)))
/-- A table of rows that can be read. -/
def TBx (A : Nat → Prop) (W : World) (v : Value) (ls : List (List Nat)) : Prop := ∃ ao c, v = .slice ao ls.length c ∧ ∀ p, p < ls.length → ∃ b rv, ao = some ⟨b, 0, none⟩ ∧ b < W.heap.size ∧ W.cell? ⟨b, p, none⟩ = some rv ∧ IR A W rv (rowD ls p)
theorem take_ext2 {la lb : List (List Nat)} {i : Nat} (h : la.take i = lb.take i) (h1 : i < la.length) (h2 : i < lb.length) (e : rowD la i = rowD lb i) : la.take (i + 1) = lb.take (i + 1) := by
  rw [List.take_add_one, List.take_add_one, h]
  unfold rowD at e
  rw [List.getD_eq_getElem?_getD, List.getD_eq_getElem?_getD, List.getElem?_eq_getElem h1, List.getElem?_eq_getElem h2] at e
  rw [List.getElem?_eq_getElem h1, List.getElem?_eq_getElem h2]
  simp only [Option.getD_some] at e
  rw [e]
set_option maxRecDepth 20000 in
set_option maxHeartbeats 400000 in
theorem sameLists_any {A : Nat → Prop} {va vb : Value} {la lb : List (List Nat)} (w : World) (ha : TBx A w va la) (hb : TBx A w vb lb) (hl1 : la.length ≤ 100000) (hl2 : lb.length ≤ 100000) (hr1 : ∀ p, (rowD la p).length ≤ 100000) (hr2 : ∀ p, (rowD lb p).length ≤ 100000) :
    Calls Try.prog 23 #[va, vb] w fun e w' => e = .returned (.bool (decide (la = lb))) ∧ Below w.heap.size w w' := by
  obtain ⟨a1, c1, rfl, g1⟩ := ha
  obtain ⟨a2, c2, rfl, g2⟩ := hb
  have G1 := Lib.hid g1; have G2 := Lib.hid g2; clear g1 g2
  by_cases hlen : la.length = lb.length
  rotate_left
  · have hne : decide (la = lb) = false := decide_eq_false fun e => hlen (by rw [e])
    rw [hne]
    have t1 : ((la.length : Int) != (lb.length : Int)) = true := by rw [bne_iff_ne]; omega
    clear hlen hne
    go_enter Try.func23, Try.ntmps23
    go_wp2
    go_ret
    exact ⟨rfl, Below.refl _ _⟩
  · have HLEN := Lib.hid hlen
    have t1 : ((la.length : Int) != (lb.length : Int)) = false := by rw [bne_eq_false_iff_eq]; omega
    obtain ⟨R, hR⟩ : ∃ R, R = decide (la = lb) := ⟨_, rfl⟩
    rw [← hR]
    have HR := Lib.hid hR
    clear hlen hR
    go_enter Try.func23, Try.ntmps23
    go_wp2_with fail
    go_loopw [5] (fun iv wr => ∃ i : Nat, i ≤ la.length ∧ iv = .int .i64 (i : Int) ∧ la.take i = lb.take i ∧ Below w.heap.size w wr) (fun iv _ => la.length - (intOf iv).toNat)
    case atStart => exact ⟨0, Nat.zero_le _, rfl, by simp, Below.refl _ _⟩
    case round =>
      obtain ⟨i, hi, rfl, htk, hB⟩ := hrel
      have HTK := Lib.hid htk; have HB := Lib.hid hB; clear htk hB
      by_cases hlt : i < la.length
      · have HLT := Lib.hid hlt
        have i0 : (0 : Int) ≤ (i : Int) := by omega
        have i1 : (i : Int) < (la.length : Int) := by omega
        have i2 : i < lb.length := by have := HLEN.out; omega
        obtain ⟨b1, ra, e1, hb1, hc1, hra⟩ := G1.out i hlt
        obtain ⟨b2, rb, e2, hb2, hc2, hrb⟩ := G2.out i i2
        subst e1 e2
        have C1 := Lib.hid ((HB.out.cell (p := ⟨b1, i, none⟩) hb1).trans hc1)
        have C2 := Lib.hid ((HB.out.cell (p := ⟨b2, i, none⟩) hb2).trans hc2)
        have hb1' := Nat.lt_of_lt_of_le hb1 HB.out.size
        have hb2' := Nat.lt_of_lt_of_le hb2 HB.out.size
        have cs := fun W (hW : Below wr.heap.size wr W) => sameInts_any W (hra.keep (B := A) (KA.of_below (Below.chain HB.out hW)) (fun _ h _ => h)) (hrb.keep (B := A) (KA.of_below (Below.chain HB.out hW)) (fun _ h _ => h)) (hr1 i) (hr2 i)
        have I2 := Lib.hid i2; have CS := Lib.hid cs
        clear hb1 hb2 hc1 hc2 i2 hra hrb cs
        go_wp2_with fail
        refine sl_region b1 la.length c1 b2 lb.length c2 i ra rb (decide (rowD la i = rowD lb i)) _ _ _ _ _ _ _ _ _ _ _ _ _ _ _ _ _ _ _ _ _ _ _ _ _ HLT.out I2.out ⟨hl1, hl2⟩ hb1' hb2' C1.out C2.out CS.out ?_
        intro u17 u18 u19 u20 u21 u22 u23 u24 u25 u26 w2 hb h0 h1 h2 h3 h4 h5 h6 h7 h8 h9
        have HB2 := Lib.hid (Below.chain HB.out hb)
        clear h0 h1 h2 h3 h4 h5 h6 h7 h8 hb C1 C2 hb1' hb2' CS
        unfold slAct
        by_cases hxy : rowD la i = rowD lb i
        · have t2 : decide (rowD la i = rowD lb i) = true := decide_eq_true hxy
          rw [t2] at h9
          subst h9
          have HT2 := Lib.hid (take_ext2 HTK.out HLT.out I2.out hxy)
          clear hxy t2
          have hi3 := HLT.out
          go_wp2
          go_roundw
          case rel => exact ⟨i + 1, HLT.out, by go_num, HT2.out, HB2.out⟩
          case measure => simp [intOf]; omega
        · have t2 : decide (rowD la i = rowD lb i) = false := decide_eq_false hxy
          rw [t2] at h9
          subst h9
          have hRf : R = false := by
            rw [HR.out]; exact decide_eq_false fun e => hxy (by rw [e])
          subst hRf
          clear hxy t2
          go_wp2
          go_ret
          exact ⟨rfl, HB2.out⟩
      · have hin : i = la.length := by omega
        subst hin
        have hRt : R = true := by
          rw [HR.out]
          have h1 := HTK.out
          rw [List.take_length, HLEN.out, List.take_length] at h1
          exact decide_eq_true h1
        subst hRt
        go_wp2
        go_ret
        exact ⟨rfl, HB.out⟩
end Go.Proofs.Ytjjkabgbcflipaa
