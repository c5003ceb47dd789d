import Derived.Test.YtjjkabgbcflipaaCu27
import Derived.Test.YtjjkabgbcflipaaCu5
import Derived.Test.YtjjkabgbcflipaaCu10
set_option linter.unusedSimpArgs false
set_option linter.unusedVariables false
namespace Go.Proofs.Ytjjkabgbcflipaa
open Go Go.Proofs Go.RowKit Go.Shelf GM
def isrAct (pb po pn pc i : Nat) (q1 q2 q4 q5 q6 q7 q8 q9 q10 u11 u12 u13 u14 u15 u16 u17 u18 u19 u20 : Value) : Act :=
  { tmps := #[.slice (some ⟨pb, po, none⟩) pn pc, q1, q2, .int .i64 (i : Int), q4, q5, q6, q7, q8, q9, q10, u11, u12, u13, u14, u15, u16, u17, u18, u19, u20], defers := [] }
def isrI (pb po pn pc i j zi zj : Nat) (q1 q2 q4 q5 q6 q7 q8 q9 q10 : Value) (W0 : World) (listed : Array Bool) (a : Act) (w : World) : Prop :=
  ∃ u11 u12 u13 u14 u15 u16 u17 u18 u19 u20, a = isrAct pb po pn pc i q1 q2 q4 q5 q6 q7 q8 q9 q10 u11 u12 u13 u14 u15 u16 u17 u18 u19 u20 ∧ Below W0.heap.size W0 w ∧
    (listed.getD 0 false = true → u11 = .slice (some ⟨pb, po, none⟩) pn pc) ∧
    (listed.getD 1 false = true → u12 = .int .i64 (i : Int)) ∧
    (listed.getD 2 false = true → u13 = .pointer (some ⟨pb, po + i, none⟩)) ∧
    (listed.getD 3 false = true → u14 = .int .i64 (zi : Int)) ∧
    (listed.getD 4 false = true → u15 = .slice (some ⟨pb, po, none⟩) pn pc) ∧
    (listed.getD 5 false = true → u16 = .int .i64 (i : Int)) ∧
    (listed.getD 6 false = true → u17 = .int .i64 (j : Int)) ∧
    (listed.getD 7 false = true → u18 = .pointer (some ⟨pb, po + j, none⟩)) ∧
    (listed.getD 8 false = true → u19 = .int .i64 (zj : Int)) ∧
    (listed.getD 9 false = true → u20 = .bool false)
set_option maxRecDepth 20000 in
set_option maxHeartbeats 4000000 in
theorem isr_region (pb po pn pc i j zi zj : Nat) (q1 q2 q4 q5 q6 q7 q8 q9 q10 : Value) (W0 : World) (i11 i12 i13 i14 i15 i16 i17 i18 i19 i20 : Value) (hij : Hid (i = j + 1)) (hi : i < pn) (hpn : pn ≤ 100000) (hpb : pb < W0.heap.size) (hci : W0.cell? ⟨pb, po + i, none⟩ = some (.int .i64 (zi : Int))) (hcj : W0.cell? ⟨pb, po + j, none⟩ = some (.int .i64 (zj : Int))) (hle : zj ≤ zi) {Q : Exit → Act → World → Prop}
    (hQ : ∀ u11 u12 u13 u14 u15 u16 u17 u18 u19 u20 w, Below W0.heap.size W0 w → (u11 = .slice (some ⟨pb, po, none⟩) pn pc) → (u12 = .int .i64 (i : Int)) → (u13 = .pointer (some ⟨pb, po + i, none⟩)) → (u14 = .int .i64 (zi : Int)) → (u15 = .slice (some ⟨pb, po, none⟩) pn pc) → (u16 = .int .i64 (i : Int)) → (u17 = .int .i64 (j : Int)) → (u18 = .pointer (some ⟨pb, po + j, none⟩)) → (u19 = .int .i64 (zj : Int)) → (u20 = .bool false) → Q .normal (isrAct pb po pn pc i q1 q2 q4 q5 q6 q7 q8 q9 q10 u11 u12 u13 u14 u15 u16 u17 u18 u19 u20) w) :
    (Code.region 4 #[{ dst := some 11, op := Op.move (Operand.tmp 0), type := 51, pos := "sort.go:44", after := #[], guard := none }, { dst := some 12, op := Op.move (Operand.tmp 3), type := 3, pos := "sort.go:44", after := #[], guard := none }, { dst := some 13, op := Op.indexAddr 51 (Operand.tmp 11) (Operand.tmp 12), type := 0, pos := "sort.go:44", after := #[{ on := 0, ground := Ground.data }, { on := 1, ground := Ground.data }], guard := none }, { dst := some 14, op := Op.load 3 (Operand.tmp 13), type := 3, pos := "sort.go:44", after := #[{ on := 2, ground := Ground.data }], guard := none }, { dst := some 15, op := Op.move (Operand.tmp 0), type := 51, pos := "sort.go:44", after := #[], guard := none }, { dst := some 16, op := Op.move (Operand.tmp 3), type := 3, pos := "sort.go:44", after := #[], guard := none }, { dst := some 17, op := Op.binOp BinOp.sub 3 (Operand.tmp 16) (Operand.const (Value.int IntKind.i64 1)) 3, type := 3, pos := "sort.go:44", after := #[{ on := 5, ground := Ground.data }], guard := none }, { dst := some 18, op := Op.indexAddr 51 (Operand.tmp 15) (Operand.tmp 17), type := 0, pos := "sort.go:44", after := #[{ on := 4, ground := Ground.data }, { on := 6, ground := Ground.data }], guard := none }, { dst := some 19, op := Op.load 3 (Operand.tmp 18), type := 3, pos := "sort.go:44", after := #[{ on := 7, ground := Ground.data }], guard := none }, { dst := some 20, op := Op.call { callee := Callee.value (Operand.func 68), args := #[Operand.tmp 14, Operand.tmp 19], argTypes := #[3, 3] }, type := 4, pos := "sort.go:44", after := #[{ on := 3, ground := Ground.data }, { on := 8, ground := Ground.data }], guard := none }] true).wp Try.prog Q (isrAct pb po pn pc i q1 q2 q4 q5 q6 q7 q8 q9 q10 (i11) (i12) (i13) (i14) (i15) (i16) (i17) (i18) (i19) (i20)) W0 := by
  refine wp_region_inv (by kernel_rfl) (by kernel_rfl) (isrI pb po pn pc i j zi zj q1 q2 q4 q5 q6 q7 q8 q9 q10 W0) ?_ ?_ ?_
  · refine ⟨_, _, _, _, _, _, _, _, _, _, rfl, (Below.refl _ _).drew, ?_, ?_, ?_, ?_, ?_, ?_, ?_, ?_, ?_, ?_⟩ <;> (intro e; simp at e)
  · intro listed a w i o hI hs ho hl hd
    have hi9 : i < 10 := (Array.getElem?_eq_some_iff.1 ho).1
    obtain ⟨u11, u12, u13, u14, u15, u16, u17, u18, u19, u20, rfl, hB, h0, h1, h2, h3, h4, h5, h6, h7, h8, h9⟩ := hI
    have hlB := hB.size
    rcases (show i = 0 ∨ i = 1 ∨ i = 2 ∨ i = 3 ∨ i = 4 ∨ i = 5 ∨ i = 6 ∨ i = 7 ∨ i = 8 ∨ i = 9 by omega) with rfl | rfl | rfl | rfl | rfl | rfl | rfl | rfl | rfl | rfl
    · have ho' : some _ = some o := ho
      cases ho'
      have hbw : Below w.heap.size w w := Below.refl _ _
      unfold isrAct; go_simp
      exact ⟨.slice (some ⟨pb, po, none⟩) pn pc, u12, u13, u14, u15, u16, u17, u18, u19, u20, rfl, hB, fun _ => rfl, fun e1 => h1 (lset_ne (by decide) e1), fun e2 => h2 (lset_ne (by decide) e2), fun e3 => h3 (lset_ne (by decide) e3), fun e4 => h4 (lset_ne (by decide) e4), fun e5 => h5 (lset_ne (by decide) e5), fun e6 => h6 (lset_ne (by decide) e6), fun e7 => h7 (lset_ne (by decide) e7), fun e8 => h8 (lset_ne (by decide) e8), fun e9 => h9 (lset_ne (by decide) e9)⟩
    · have ho' : some _ = some o := ho
      cases ho'
      have hbw : Below w.heap.size w w := Below.refl _ _
      unfold isrAct; go_simp
      exact ⟨u11, .int .i64 (i : Int), u13, u14, u15, u16, u17, u18, u19, u20, rfl, hB, fun e0 => h0 (lset_ne (by decide) e0), fun _ => rfl, fun e2 => h2 (lset_ne (by decide) e2), fun e3 => h3 (lset_ne (by decide) e3), fun e4 => h4 (lset_ne (by decide) e4), fun e5 => h5 (lset_ne (by decide) e5), fun e6 => h6 (lset_ne (by decide) e6), fun e7 => h7 (lset_ne (by decide) e7), fun e8 => h8 (lset_ne (by decide) e8), fun e9 => h9 (lset_ne (by decide) e9)⟩
    · have ho' : some _ = some o := ho
      cases ho'
      have d0 := hd { on := 0, ground := .data } (by simp) rfl
      have d1 := hd { on := 1, ground := .data } (by simp) rfl
      have hbw : Below w.heap.size w w := Below.refl _ _
      have p0 : (0 : Int) ≤ (i : Int) := by omega
      have p1 : (i : Int) < (pn : Int) := by omega
      have e0 := h0 d0
      subst e0
      have e1 := h1 d1
      subst e1
      unfold isrAct; go_simp
      exact ⟨.slice (some ⟨pb, po, none⟩) pn pc, .int .i64 (i : Int), .pointer (some ⟨pb, po + i, none⟩), u14, u15, u16, u17, u18, u19, u20, rfl, hB, fun e0 => h0 (lset_ne (by decide) e0), fun e1 => h1 (lset_ne (by decide) e1), fun _ => rfl, fun e3 => h3 (lset_ne (by decide) e3), fun e4 => h4 (lset_ne (by decide) e4), fun e5 => h5 (lset_ne (by decide) e5), fun e6 => h6 (lset_ne (by decide) e6), fun e7 => h7 (lset_ne (by decide) e7), fun e8 => h8 (lset_ne (by decide) e8), fun e9 => h9 (lset_ne (by decide) e9)⟩
    · have ho' : some _ = some o := ho
      cases ho'
      have d2 := hd { on := 2, ground := .data } (by simp) rfl
      have hbw : Below w.heap.size w w := Below.refl _ _
      have c0 := (hB.cell (p := ⟨pb, po + i, none⟩) hpb).trans hci
      have e2 := h2 d2
      subst e2
      unfold isrAct; go_simp
      exact ⟨u11, u12, .pointer (some ⟨pb, po + i, none⟩), .int .i64 (zi : Int), u15, u16, u17, u18, u19, u20, rfl, hB, fun e0 => h0 (lset_ne (by decide) e0), fun e1 => h1 (lset_ne (by decide) e1), fun e2 => h2 (lset_ne (by decide) e2), fun _ => rfl, fun e4 => h4 (lset_ne (by decide) e4), fun e5 => h5 (lset_ne (by decide) e5), fun e6 => h6 (lset_ne (by decide) e6), fun e7 => h7 (lset_ne (by decide) e7), fun e8 => h8 (lset_ne (by decide) e8), fun e9 => h9 (lset_ne (by decide) e9)⟩
    · have ho' : some _ = some o := ho
      cases ho'
      have hbw : Below w.heap.size w w := Below.refl _ _
      unfold isrAct; go_simp
      exact ⟨u11, u12, u13, u14, .slice (some ⟨pb, po, none⟩) pn pc, u16, u17, u18, u19, u20, rfl, hB, fun e0 => h0 (lset_ne (by decide) e0), fun e1 => h1 (lset_ne (by decide) e1), fun e2 => h2 (lset_ne (by decide) e2), fun e3 => h3 (lset_ne (by decide) e3), fun _ => rfl, fun e5 => h5 (lset_ne (by decide) e5), fun e6 => h6 (lset_ne (by decide) e6), fun e7 => h7 (lset_ne (by decide) e7), fun e8 => h8 (lset_ne (by decide) e8), fun e9 => h9 (lset_ne (by decide) e9)⟩
    · have ho' : some _ = some o := ho
      cases ho'
      have hbw : Below w.heap.size w w := Below.refl _ _
      unfold isrAct; go_simp
      exact ⟨u11, u12, u13, u14, u15, .int .i64 (i : Int), u17, u18, u19, u20, rfl, hB, fun e0 => h0 (lset_ne (by decide) e0), fun e1 => h1 (lset_ne (by decide) e1), fun e2 => h2 (lset_ne (by decide) e2), fun e3 => h3 (lset_ne (by decide) e3), fun e4 => h4 (lset_ne (by decide) e4), fun _ => rfl, fun e6 => h6 (lset_ne (by decide) e6), fun e7 => h7 (lset_ne (by decide) e7), fun e8 => h8 (lset_ne (by decide) e8), fun e9 => h9 (lset_ne (by decide) e9)⟩
    · have ho' : some _ = some o := ho
      cases ho'
      have d5 := hd { on := 5, ground := .data } (by simp) rfl
      have hbw : Below w.heap.size w w := Below.refl _ _
      have v5 : IntKind.i64.wrap ((i : Int) - 1) = (j : Int) := by have := hij.out; rw [IntKind.wrap_i64]; omega
      have e5 := h5 d5
      subst e5
      unfold isrAct; go_simp
      exact ⟨u11, u12, u13, u14, u15, .int .i64 (i : Int), .int .i64 (j : Int), u18, u19, u20, rfl, hB, fun e0 => h0 (lset_ne (by decide) e0), fun e1 => h1 (lset_ne (by decide) e1), fun e2 => h2 (lset_ne (by decide) e2), fun e3 => h3 (lset_ne (by decide) e3), fun e4 => h4 (lset_ne (by decide) e4), fun e5 => h5 (lset_ne (by decide) e5), fun _ => rfl, fun e7 => h7 (lset_ne (by decide) e7), fun e8 => h8 (lset_ne (by decide) e8), fun e9 => h9 (lset_ne (by decide) e9)⟩
    · have ho' : some _ = some o := ho
      cases ho'
      have d4 := hd { on := 4, ground := .data } (by simp) rfl
      have d6 := hd { on := 6, ground := .data } (by simp) rfl
      have hbw : Below w.heap.size w w := Below.refl _ _
      have p0 : (0 : Int) ≤ (j : Int) := by omega
      have p1 : (j : Int) < (pn : Int) := by have := hij.out; omega
      have e4 := h4 d4
      subst e4
      have e6 := h6 d6
      subst e6
      unfold isrAct; go_simp
      exact ⟨u11, u12, u13, u14, .slice (some ⟨pb, po, none⟩) pn pc, u16, .int .i64 (j : Int), .pointer (some ⟨pb, po + j, none⟩), u19, u20, rfl, hB, fun e0 => h0 (lset_ne (by decide) e0), fun e1 => h1 (lset_ne (by decide) e1), fun e2 => h2 (lset_ne (by decide) e2), fun e3 => h3 (lset_ne (by decide) e3), fun e4 => h4 (lset_ne (by decide) e4), fun e5 => h5 (lset_ne (by decide) e5), fun e6 => h6 (lset_ne (by decide) e6), fun _ => rfl, fun e8 => h8 (lset_ne (by decide) e8), fun e9 => h9 (lset_ne (by decide) e9)⟩
    · have ho' : some _ = some o := ho
      cases ho'
      have d7 := hd { on := 7, ground := .data } (by simp) rfl
      have hbw : Below w.heap.size w w := Below.refl _ _
      have c0 := (hB.cell (p := ⟨pb, po + j, none⟩) hpb).trans hcj
      have e7 := h7 d7
      subst e7
      unfold isrAct; go_simp
      exact ⟨u11, u12, u13, u14, u15, u16, u17, .pointer (some ⟨pb, po + j, none⟩), .int .i64 (zj : Int), u20, rfl, hB, fun e0 => h0 (lset_ne (by decide) e0), fun e1 => h1 (lset_ne (by decide) e1), fun e2 => h2 (lset_ne (by decide) e2), fun e3 => h3 (lset_ne (by decide) e3), fun e4 => h4 (lset_ne (by decide) e4), fun e5 => h5 (lset_ne (by decide) e5), fun e6 => h6 (lset_ne (by decide) e6), fun e7 => h7 (lset_ne (by decide) e7), fun _ => rfl, fun e9 => h9 (lset_ne (by decide) e9)⟩
    · have ho' : some _ = some o := ho
      cases ho'
      have d3 := hd { on := 3, ground := .data } (by simp) rfl
      have d8 := hd { on := 8, ground := .data } (by simp) rfl
      have hbw : Below w.heap.size w w := Below.refl _ _
      have e3 := h3 d3
      subst e3
      have e8 := h8 d8
      subst e8
      unfold isrAct; go_simp
      refine (Try.cmp_Less_int2 (zi : Int) (zj : Int) w).mono ?_
      rintro e w' ⟨rfl, rfl⟩
      rw [decide_eq_false (show ¬ (zi : Int) < (zj : Int) by omega)]
      exact ⟨u11, u12, u13, .int .i64 (zi : Int), u15, u16, u17, u18, .int .i64 (zj : Int), .bool false, rfl, hB, fun e0 => h0 (lset_ne (by decide) e0), fun e1 => h1 (lset_ne (by decide) e1), fun e2 => h2 (lset_ne (by decide) e2), fun e3 => h3 (lset_ne (by decide) e3), fun e4 => h4 (lset_ne (by decide) e4), fun e5 => h5 (lset_ne (by decide) e5), fun e6 => h6 (lset_ne (by decide) e6), fun e7 => h7 (lset_ne (by decide) e7), fun e8 => h8 (lset_ne (by decide) e8), fun _ => rfl⟩
  · rintro listed a w ⟨u11, u12, u13, u14, u15, u16, u17, u18, u19, u20, rfl, hB, h0, h1, h2, h3, h4, h5, h6, h7, h8, h9⟩ hall
    exact hQ _ _ _ _ _ _ _ _ _ _ w hB (h0 (hall 0 (by decide))) (h1 (hall 1 (by decide))) (h2 (hall 2 (by decide))) (h3 (hall 3 (by decide))) (h4 (hall 4 (by decide))) (h5 (hall 5 (by decide))) (h6 (hall 6 (by decide))) (h7 (hall 7 (by decide))) (h8 (hall 8 (by decide))) (h9 (hall 9 (by decide)))
end Go.Proofs.Ytjjkabgbcflipaa
set_option autoImplicit false
namespace Go.Proofs.GM

section
variable {nx : Nat → List Nat} {r : Nat}
/-- d dominates q, seen from r. -/
def Dm (nx : Nat → List Nat) (r q d : Nat) : Prop := Rch nx (fun _ => False) r q ∧ ¬ Rch nx (fun x => x = d) r q
theorem Rch.free {B : Nat → Prop} {a b : Nat} (h : Rch nx B a b) : Rch nx (fun _ => False) a b := h.mono fun _ g => g.elim
theorem Rch.meets {B : Nat → Prop} {q d : Nat} (h : Rch nx B r q) (hn : ¬ Rch nx (fun x => x = d) r q) : Rch nx B r d := by
  refine Classical.byContradiction fun g => hn ?_
  exact (h.avoid g).mono fun x e => .inr e
theorem Dm.self {q : Nat} (h : Rch nx (fun _ => False) r q) : Dm nx r q q := ⟨h, fun g => g.right rfl⟩
theorem Dm.reach {q d : Nat} (h : Dm nx r q d) : Rch nx (fun _ => False) r d := h.1.meets h.2
theorem Dm.trans {q d e : Nat} (h : Dm nx r q d) (g : Dm nx r d e) : Dm nx r q e := ⟨h.1, fun k => g.2 (k.meets h.2)⟩
theorem Dm.anti {d e : Nat} (h : Dm nx r d e) (g : Dm nx r e d) : d = e := by
  refine Classical.byContradiction fun hne => ?_
  have key : ∀ x, Rch nx (fun _ => False) r x → Rch nx (fun x => x = d ∨ x = e) r x ∨ Rch nx (fun x => x = e) r d ∨ Rch nx (fun x => x = d) r e := by
    intro x hx
    induction hx with
    | refl _ =>
      by_cases h1 : r = d
      · exact .inr (.inl (h1 ▸ .refl (by rw [h1]; exact hne)))
      · by_cases h2 : r = e
        · exact .inr (.inr (h2 ▸ .refl (by rw [h2]; exact fun q => hne q.symm)))
        · exact .inl (.refl (fun q => q.elim h1 h2))
    | @step b c h1 h2 h3 ih =>
      rcases ih with ih | ih
      · by_cases e1 : c = d
        · subst e1
          exact .inr (.inl (.step (ih.mono fun _ => .inr) h2 hne))
        · by_cases e2 : c = e
          · subst e2
            exact .inr (.inr (.step (ih.mono fun _ => .inl) h2 e1))
          · exact .inl (.step ih h2 (fun q => q.elim e1 e2))
      · exact .inr ih
  rcases key d h.1 with k | k | k
  · exact k.right (.inl rfl)
  · exact h.2 k
  · exact g.2 k
theorem Dm.chain {q d e : Nat} (h : Dm nx r q d) (g : Dm nx r q e) (hne : d ≠ e) : Dm nx r d e ∨ Dm nx r e d := by
  have key : ∀ x, Rch nx (fun _ => False) r x → Rch nx (fun x => x = d ∨ x = e) r x ∨ Rch nx (fun x => x = e) d x ∨ Rch nx (fun x => x = d) e x := by
    intro x hx
    induction hx with
    | refl _ =>
      by_cases h1 : r = d
      · exact .inr (.inl (h1 ▸ .refl (by rw [h1]; exact hne)))
      · by_cases h2 : r = e
        · exact .inr (.inr (h2 ▸ .refl (by rw [h2]; exact fun q => hne q.symm)))
        · exact .inl (.refl (fun q => q.elim h1 h2))
    | @step b c h1 h2 h3 ih =>
      by_cases e1 : c = d
      · subst e1
        exact .inr (.inl (.refl hne))
      · by_cases e2 : c = e
        · subst e2
          exact .inr (.inr (.refl e1))
        · rcases ih with ih | ih | ih
          · exact .inl (.step ih h2 (fun q => q.elim e1 e2))
          · exact .inr (.inl (.step ih h2 e2))
          · exact .inr (.inr (.step ih h2 e1))
  rcases key q h.1 with k | k | k
  · exact (h.2 (k.mono fun _ => .inl)).elim
  · exact .inl ⟨h.reach, fun j => g.2 (j.trans k)⟩
  · exact .inr ⟨g.reach, fun j => h.2 (j.trans k)⟩
/-- p is the immediate dominator of q. -/
def IsId (nx : Nat → List Nat) (r q p : Nat) : Prop := p ≠ q ∧ Dm nx r q p ∧ ∀ e, e ≠ q → Dm nx r q e → Dm nx r p e
theorem IsId.unique {q p s : Nat} (h : IsId nx r q p) (g : IsId nx r q s) : p = s := (h.2.2 s g.1 g.2.1).anti (g.2.2 p h.1 h.2.1)

/-- How many numbers below P. -/
def cntT (f : Nat → Bool) : Nat → Nat
  | 0 => 0
  | n + 1 => cntT f n + (if f n = true then 1 else 0)
theorem cntT_le {f g : Nat → Bool} : ∀ P : Nat, (∀ x, x < P → f x = true → g x = true) → cntT f P ≤ cntT g P
  | 0, _ => Nat.le_refl _
  | n + 1, h => by
    have := cntT_le n fun x hx => h x (by omega)
    have := h n (by omega)
    unfold cntT
    by_cases e : f n = true
    · rw [if_pos e, if_pos (this e)]; omega
    · rw [if_neg e]; split <;> omega
theorem cntT_lt {f g : Nat → Bool} {y : Nat} : ∀ P : Nat, (∀ x, x < P → f x = true → g x = true) → y < P → g y = true → f y = false → cntT f P < cntT g P
  | 0, _, h, _, _ => by omega
  | n + 1, h, hy, h1, h2 => by
    unfold cntT
    by_cases e : y = n
    · subst e
      have := cntT_le y fun x hx => h x (by omega)
      rw [h1, h2]
      simp; omega
    · have := cntT_lt n (fun x hx => h x (by omega)) (by omega) h1 h2
      have := h n (by omega)
      by_cases e : f n = true
      · rw [if_pos e, if_pos (this e)]; omega
      · rw [if_neg e]; split <;> omega
/-- The dominator that is chosen by counts. -/
def immF (dom : Nat → Nat → Bool) (P q : Nat) : Nat → Int
  | 0 => -1
  | j + 1 => if j ≠ q ∧ dom q j = true ∧ (immF dom P q j < 0 ∨ cntT (dom (immF dom P q j).toNat) P < cntT (dom j) P) then (j : Int) else immF dom P q j
theorem immF_ok (dom : Nat → Nat → Bool) (P q : Nat) : ∀ j, (immF dom P q j = -1 ∧ ∀ e, e < j → e ≠ q → dom q e = false) ∨
    ∃ p : Nat, p < j ∧ immF dom P q j = (p : Int) ∧ p ≠ q ∧ dom q p = true ∧ ∀ e, e < j → e ≠ q → dom q e = true → cntT (dom e) P ≤ cntT (dom p) P
  | 0 => .inl ⟨rfl, fun e he => by omega⟩
  | j + 1 => by
    unfold immF
    by_cases hc : j ≠ q ∧ dom q j = true ∧ (immF dom P q j < 0 ∨ cntT (dom (immF dom P q j).toNat) P < cntT (dom j) P)
    · rw [if_pos hc]
      refine .inr ⟨j, by omega, rfl, hc.1, hc.2.1, fun e he h1 h2 => ?_⟩
      by_cases e1 : e = j
      · rw [e1]; exact Nat.le_refl _
      · rcases immF_ok dom P q j with ⟨-, h⟩ | ⟨p, hp, hq, -, -, h⟩
        · rw [h e (by omega) h1] at h2; cases h2
        · have := h e (by omega) h1 h2
          rcases hc.2.2 with k | k
          · rw [hq] at k; omega
          · rw [hq, Int.toNat_natCast] at k; omega
    · rw [if_neg hc]
      rcases immF_ok dom P q j with ⟨h0, h⟩ | ⟨p, hp, hq, h1, h2, h⟩
      · refine .inl ⟨h0, fun e he h1 => ?_⟩
        by_cases e1 : e = j
        · subst e1
          rw [← Bool.not_eq_true]
          exact fun k => hc ⟨h1, k, .inl (by omega)⟩
        · exact h e (by omega) h1
      · refine .inr ⟨p, by omega, hq, h1, h2, fun e he k1 k2 => ?_⟩
        by_cases e1 : e = j
        · subst e1
          refine Nat.le_of_not_lt fun k => hc ⟨k1, k2, .inr ?_⟩
          rw [hq, Int.toNat_natCast]; exact k
        · exact h e (by omega) k1 k2
/-- The one that is chosen by counts is the immediate one. -/
theorem immF_id {dom : Nat → Nat → Bool} {P q : Nat} (hd : ∀ x e, x < P → e < P → (dom x e = true ↔ Dm nx r x e)) (hP : ∀ x, Rch nx (fun _ => False) r x → x < P) (hq : q < P) :
    (immF dom P q P = -1 ∧ ∀ e, e ≠ q → ¬ Dm nx r q e) ∨ ∃ p : Nat, p < P ∧ immF dom P q P = (p : Int) ∧ IsId nx r q p := by
  rcases immF_ok dom P q P with ⟨h0, h⟩ | ⟨p, hp, h0, h1, h2, h⟩
  · refine .inl ⟨h0, fun e he g => ?_⟩
    have hl := hP e g.reach
    have := h e hl he
    rw [(hd q e hq hl).2 g] at this
    cases this
  · have hqp := (hd q p hq hp).1 h2
    refine .inr ⟨p, hp, h0, h1, hqp, fun e he g => ?_⟩
    have hl := hP e g.reach
    by_cases e1 : e = p
    · rw [e1]; exact Dm.self hqp.reach
    · rcases hqp.chain g (fun q => e1 q.symm) with k | k
      · exact k
      · have h3 := h e hl he ((hd q e hq hl).2 g)
        have h4 : cntT (dom p) P < cntT (dom e) P := by
          refine cntT_lt P (y := e) (fun x hx h => ?_) hl ((hd e e hl hl).2 (Dm.self g.reach)) ?_
          · exact (hd e x hl hx).2 (k.trans ((hd p x hp hx).1 h))
          · rw [← Bool.not_eq_true]
            exact fun j => e1 ((k.anti ((hd p e hp hl).1 j)))
        omega
/-- The first strict dominator in the order of a visit is the immediate one. -/
theorem first_id {t : List Nat} {q p : Nat} (hv : VL nx (fun _ => False) [r] t) {u v : List Nat} (ht : t = u ++ p :: v) (hp : p ≠ q ∧ Dm nx r q p) (hu : ∀ e ∈ u, ¬ (e ≠ q ∧ Dm nx r q e)) : IsId nx r q p := by
  have hnd := hv.nodup
  refine ⟨hp.1, hp.2, fun e he g => ?_⟩
  by_cases e1 : e = p
  · rw [e1]; exact Dm.self hp.2.reach
  · rcases hp.2.chain g (fun q => e1 q.symm) with k | k
    · exact k
    · exfalso
      have het : e ∈ t := (hv.mem e).2 ⟨r, by simp, g.reach⟩
      have hpt : p ∈ t := by rw [ht]; simp
      have hle := hv.over p hpt e het (by
        rintro ⟨x, hx, j⟩
        rw [List.mem_singleton] at hx
        subst hx
        exact k.2 (j.mono fun y hy => .inr hy))
      have hi := ((Le.idx hnd).1 hle).2.2
      have heu : e ∉ u := fun j => hu e j ⟨he, g⟩
      have hpu : p ∉ u := by
        rw [ht, List.nodup_append] at hnd
        exact fun j => hnd.2.2 p j p (by simp) rfl
      rw [ht, List.idxOf_append, List.idxOf_append, if_neg heu, if_neg hpu, List.idxOf_cons, List.idxOf_cons] at hi
      have e2 : (p == e) = false := by simpa using fun q => e1 q.symm
      have e3 : (p == p) = true := by simp
      rw [e2, e3] at hi
      simp only [cond_false, cond_true, Nat.zero_add, Nat.add_zero] at hi
      omega
end
end Go.Proofs.GM
namespace Go.Proofs.Ytjjkabgbcflipaa
open Go Go.Proofs Go.RowKit GM

theorem DomT.dm {nx : Nat → List Nat} {r P : Nat} {t : List Nat} {T : Nat → List Nat} (h : DomT nx r P t T) {p q : Nat} (hq : q ∈ t) (hp : p ∈ t) : (¬ (q = p ∨ q ∈ T p)) ↔ (p ≠ q ∧ Dm nx r q p) := by
  have h1 := (h.ord.mem q).1 hq
  obtain ⟨a, ha, h1⟩ := h1
  rw [List.mem_singleton] at ha
  subst ha
  have h2 := (h.wo p hp).mem q
  constructor
  · intro k
    refine ⟨fun e => k (.inl e.symm), h1, fun g => k (.inr (h2.2 ⟨a, by simp, g⟩))⟩
  · rintro ⟨k1, -, k2⟩ (k | k)
    · exact k1 k.symm
    · obtain ⟨b, hb, g⟩ := h2.1 k
      rw [List.mem_singleton] at hb
      subst hb
      exact k2 g
theorem DomT.parId {nx : Nat → List Nat} {r P : Nat} {t : List Nat} {T : Nat → List Nat} (h : DomT nx r P t T) (q : Nat) :
    (parF t T t q = -1 ∧ ∀ e, e ≠ q → ¬ Dm nx r q e) ∨ ∃ p : Nat, p < P ∧ parF t T t q = (p : Int) ∧ IsId nx r q p := by
  unfold parF
  by_cases hq : q ∈ t
  · rw [if_pos hq]
    cases hf : t.find? (fun p => !(q == p || (T p).contains q)) with
    | none =>
      refine .inl ⟨rfl, fun e he g => ?_⟩
      have het : e ∈ t := (h.ord.mem e).2 ⟨r, by simp, g.reach⟩
      have := List.find?_eq_none.1 hf e het
      have hk := (h.dm hq het).2 ⟨he, g⟩
      simp only [Bool.not_eq_true, Bool.not_eq_false', Bool.or_eq_true, beq_iff_eq, List.contains_iff_mem] at this
      exact hk this
    | some p =>
      obtain ⟨hp, u, v, ht, hu⟩ := List.find?_eq_some_iff_append.1 hf
      have hpt : p ∈ t := by rw [ht]; simp
      have hpq : p ≠ q ∧ Dm nx r q p := (h.dm hq hpt).1 (by
        intro k
        simp only [Bool.not_eq_true', Bool.or_eq_false_iff, beq_eq_false_iff_ne] at hp
        rcases k with k | k
        · exact hp.1 k
        · have := hp.2; simp [k] at this)
      refine .inr ⟨p, h.lt p hpt, rfl, first_id h.ord ht hpq (fun e he k => ?_)⟩
      have het : e ∈ t := by rw [ht]; simp [he]
      have h3 := hu e he
      have h4 := (h.dm hq het).2 k
      simp only [Bool.not_not, Bool.or_eq_true, beq_iff_eq, List.contains_iff_mem] at h3
      exact h4 h3
  · rw [if_neg hq]
    refine .inl ⟨rfl, fun e he g => hq ((h.ord.mem q).2 ⟨r, by simp, g.1⟩)⟩
theorem DomT.in_of {nx : Nat → List Nat} {r P : Nat} {t : List Nat} {T : Nat → List Nat} (h : DomT nx r P t T) {x : Nat} (g : Rch nx (fun _ => False) r x) : x < P := h.lt x ((h.ord.mem x).2 ⟨r, by simp, g⟩)
/-- Both answers are the same. -/
theorem DomT.eq {nx : Nat → List Nat} {r P : Nat} {t : List Nat} {T : Nat → List Nat} (h : DomT nx r P t T) {f : Nat → Nat → Bool} (hd : ∀ x e, x < P → e < P → (f x e = true ↔ Dm nx r x e)) {q : Nat} (hq : q < P) : immF f P q P = parF t T t q := by
  rcases immF_id hd (fun x g => h.in_of g) hq with ⟨h1, h2⟩ | ⟨p, -, h1, h2⟩
  · rcases h.parId q with ⟨h3, -⟩ | ⟨s, -, -, h4⟩
    · rw [h1, h3]
    · exact (h2 s h4.1 h4.2.1).elim
  · rcases h.parId q with ⟨-, h4⟩ | ⟨s, -, h3, h4⟩
    · exact (h4 p h2.1 h2.2.1).elim
    · rw [h1, h3, h2.unique h4]
end Go.Proofs.Ytjjkabgbcflipaa
namespace Go.Proofs.Ytjjkabgbcflipaa
open Go Go.Proofs Go.RowKit Go.Shelf GM

attribute [local go_sem] Oper.semAt_some

/-- A row of numbers that can be read, perhaps empty. -/
def IRow (W : World) (v : Value) (l : List Int) : Prop := ∃ ao c, v = .slice ao l.length c ∧ (l = [] ∨ ∃ g, ao = some ⟨g, 0, none⟩ ∧ g < W.heap.size ∧ ∀ k, k < l.length → W.cell? ⟨g, k, none⟩ = some (.int .i64 (l.getD k 0)))
theorem IRow.below {W W' : World} {v : Value} {l : List Int} (h : IRow W v l) (hb : Below W.heap.size W W') : IRow W' v l := by
  obtain ⟨ao, c, e, h⟩ := h
  refine ⟨ao, c, e, h.imp_right ?_⟩
  rintro ⟨g, e1, h1, h2⟩
  exact ⟨g, e1, Nat.lt_of_lt_of_le h1 hb.size, fun k hk => (hb.cell (p := ⟨g, k, none⟩) h1).trans (h2 k hk)⟩
theorem IRow.nil (W : World) : IRow W nilS [] := ⟨none, 0, rfl, .inl rfl⟩
theorem IRow.of_nm {g P : Nat} {W : World} {f : Nat → Int} (h : NmAt W g P f) : IRow W (.slice (some ⟨g, 0, none⟩) P P) ((List.range P).map f) := by
  refine ⟨some ⟨g, 0, none⟩, P, by simp, .inr ⟨g, rfl, h.lt, fun k hk => ?_⟩⟩
  have hk' : k < P := by simpa using hk
  rw [h.nc k hk', List.getD_eq_getElem?_getD, List.getElem?_map, List.getElem?_range hk']
  rfl
theorem eq_row {W : World} {v u : Value} {l : List Int} (h : IRow W v l) (h' : IRow W u l) (hl : l.length ≤ 100000) :
    Calls Try.prog 27 #[v, u] W fun e w' => e = .returned (.bool true) ∧ Below W.heap.size W w' := by
  obtain ⟨a1, c1, rfl, h⟩ := h
  obtain ⟨a2, c2, rfl, h'⟩ := h'
  rcases h with h | ⟨g1, rfl, -, h1⟩
  · subst h
    refine (Try.slices_Equal_int_empty a1 a2 c1 0 c2 W (by omega)).mono ?_
    rintro e w' ⟨rfl, rfl⟩
    exact ⟨rfl, Below.refl _ _⟩
  · rcases h' with h' | ⟨g2, rfl, -, h2⟩
    · subst h'
      refine (Try.slices_Equal_int_empty (some ⟨g1, 0, none⟩) a2 c1 0 c2 W (by omega)).mono ?_
      rintro e w' ⟨rfl, rfl⟩
      exact ⟨rfl, Below.refl _ _⟩
    · refine (Try.slices_Equal_int g1 0 l.length c1 g2 0 l.length c2 l l W (Nat.le_refl _) (Nat.le_refl _) (by omega) (by omega) (fun j hj => by rw [Nat.zero_add]; exact h1 j hj) (fun j hj => by rw [Nat.zero_add]; exact h2 j hj)).mono ?_
      rintro e w' ⟨rfl, q, rfl⟩
      exact ⟨by simp, below_drewN (Below.refl _ _) _⟩
/-- The immediate dominator, as a number. -/
noncomputable def idF (nx : Nat → List Nat) (r q : Nat) : Int := by
  classical
  exact if h : ∃ p, IsId nx r q p then (Classical.choose h : Nat) else -1
theorem idF_some {nx : Nat → List Nat} {r q p : Nat} (h : IsId nx r q p) : idF nx r q = (p : Int) := by
  unfold idF
  have hx : ∃ p, IsId nx r q p := ⟨p, h⟩
  rw [dif_pos hx]
  rw [h.unique (Classical.choose_spec hx)]
theorem idF_none {nx : Nat → List Nat} {r q : Nat} (h : ∀ e, e ≠ q → ¬ Dm nx r q e) : idF nx r q = -1 := by
  unfold idF
  rw [dif_neg]
  rintro ⟨p, hp⟩
  exact h p hp.1 hp.2.1
theorem DomT.id {nx : Nat → List Nat} {r P : Nat} {t : List Nat} {T : Nat → List Nat} (h : DomT nx r P t T) (q : Nat) : parF t T t q = idF nx r q := by
  rcases h.parId q with ⟨h1, h2⟩ | ⟨p, -, h1, h2⟩
  · rw [h1, idF_none h2]
  · rw [h1, idF_some h2]
theorem imm_id {nx : Nat → List Nat} {r P q : Nat} {f : Nat → Nat → Bool} (hd : ∀ x e, x < P → e < P → (f x e = true ↔ Dm nx r x e)) (hP : ∀ x, Rch nx (fun _ => False) r x → x < P) (hq : q < P) : immF f P q P = idF nx r q := by
  rcases immF_id hd hP hq with ⟨h1, h2⟩ | ⟨p, -, h1, h2⟩
  · rw [h1, idF_none h2]
  · rw [h1, idF_some h2]
theorem nxF_lt {P : Nat} {x : Int} {E : List Ed} (h : ckG P x E = 0) {b c : Nat} (hc : c ∈ nxF P E b) : c < P := by
  obtain ⟨-, -, -, hp⟩ := ckG_ok h
  by_cases hb : b < P
  · obtain ⟨j, hj, e1, e2⟩ := (nx_mem (fun d => d.f) (fun d => d.t) E hb).1 hc
    have := isPt_true (hp j hj).2
    omega
  · have : nxF P E b = [] := by unfold nxF nxt; rw [lsN_out _ _ hb]; rfl
    rw [this] at hc; simp at hc
theorem rch_lt {P : Nat} {x : Int} {E : List Ed} (h : ckG P x E = 0) {r q : Nat} (hr : r < P) {B : Nat → Prop} (g : Rch (nxF P E) B r q) : q < P := by
  cases g with
  | refl _ => exact hr
  | step _ h1 _ => exact nxF_lt h h1
theorem nxF_turn (P : Nat) (E : List Ed) : nxF P (E.map turn) = nxB P E := by
  have h1 : esN (fun d => d.t) (E.map turn) = esN (fun d => d.f) E := by unfold esN; rw [List.map_map]; rfl
  have h2 : lsN P (fun d => d.f) (E.map turn) = lsN P (fun d => d.t) E := by
    unfold lsN
    rw [List.length_map]
    apply List.map_congr_left
    intro p _
    apply List.filter_congr
    intro i hi
    rw [edD_turn (List.mem_range.1 hi)]
    rfl
  unfold nxF nxB
  rw [h1, h2]
theorem ckG_turn {P : Nat} {x : Int} {E : List Ed} (h : ckG P x E = 0) : ckG P x (E.map turn) = 0 := by
  obtain ⟨h1, h2, h3, h4⟩ := ckG_ok h
  obtain ⟨-, -, h5⟩ := ckG_pos h
  unfold ckG
  rw [if_neg (by omega), h5, if_neg (by simp), List.length_map, if_neg (by omega), if_pos]
  unfold ckEs
  rw [List.all_eq_true]
  intro d hd
  obtain ⟨d0, h0, rfl⟩ := List.mem_map.1 hd
  obtain ⟨j, hj, rfl⟩ := List.getElem_of_mem h0
  have h6 := h4 j hj
  rw [edD_eq hj] at h6
  show (isPt P E[j].t && isPt P E[j].f) = true
  rw [h6.1, h6.2]; rfl
noncomputable def domL (nx : Nat → List Ed → Nat → List Nat) (rt : Nat) (n x : Int) (E : List Ed) : List Int := if ckG n x E = 0 then (List.range n.toNat).map (idF (nx n.toNat E) rt) else []
theorem domL_len (nx : Nat → List Ed → Nat → List Nat) (rt : Nat) (n x : Int) (E : List Ed) : (domL nx rt n x E).length ≤ 100000 := by
  unfold domL
  split
  · rename_i h
    obtain ⟨h1, h2, -⟩ := ckG_pos h
    simp; omega
  · simp
/-- What the reference's Dominators answers. -/
def RDomsQ (nx : Nat → List Ed → Nat → List Nat) (rt : Nat) (n x : Int) (E : List Ed) (w : World) : Ending → World → Prop := fun e w' => Below w.heap.size w w' ∧ ∃ v, e = .returned (.tuple #[v, .int .i64 (ckG n x E : Nat)]) ∧ IRow w' v (domL nx rt n x E)
section
variable {A : Nat → Prop} (n x : Int) (ao : Option Addr) (c : Nat) (E : List Ed) (w : World) (hr : ERow A w ao c E)
include hr
theorem dom_u : Calls Try.prog 28 #[.agg #[.int .i64 n, .int .i64 x, .slice ao E.length c]] w (RDomsQ nxF 0 n x E w) := by
  refine (Dominators_any n x ao c E w hr).mono ?_
  rintro e w' ⟨hb, ⟨h, rfl⟩ | ⟨h, g, t, T, rfl, hd, hg, -⟩⟩
  · exact ⟨hb, _, rfl, by unfold domL; rw [if_neg h]; exact IRow.nil _⟩
  · refine ⟨hb, _, by rw [h]; rfl, ?_⟩
    unfold domL; rw [if_pos h]
    have e := IRow.of_nm hg
    rw [show parF t T t = idF (nxF n.toNat E) 0 from funext fun q => hd.id q] at e
    exact e
theorem pdom_u : Calls Try.prog 30 #[.agg #[.int .i64 n, .int .i64 x, .slice ao E.length c]] w (RDomsQ nxB x.toNat n x E w) := by
  refine (Postdominators_any n x ao c E w hr).mono ?_
  rintro e w' ⟨hb, ⟨h, rfl⟩ | ⟨h, g, t, T, rfl, hd, hg, -⟩⟩
  · exact ⟨hb, _, rfl, by unfold domL; rw [if_neg h]; exact IRow.nil _⟩
  · refine ⟨hb, _, by rw [h]; rfl, ?_⟩
    unfold domL; rw [if_pos h]
    have e := IRow.of_nm hg
    rw [show parF t T t = idF (nxB n.toNat E) x.toNat from funext fun q => hd.id q] at e
    exact e
end
end Go.Proofs.Ytjjkabgbcflipaa
namespace Go.Proofs.Ytjjkabgbcflipaa
open Go Go.Proofs Go.RowKit Go.Shelf GM

attribute [local go_sem] Oper.semAt_some

theorem idF_cases {nx : Nat → List Nat} {r P q : Nat} (hP : ∀ x, Rch nx (fun _ => False) r x → x < P) (hq : q < P) : (idF nx r q = -1 ∧ ∀ e, e ≠ q → ¬ Dm nx r q e) ∨ ∃ s : Nat, s < P ∧ idF nx r q = (s : Int) ∧ IsId nx r q s := by
  classical
  rcases immF_id (dom := fun x e => decide (Dm nx r x e)) (P := P) (q := q) (fun x e _ _ => by simp) hP hq with ⟨-, h⟩ | ⟨p, hp, -, h⟩
  · exact .inl ⟨idF_none h, h⟩
  · exact .inr ⟨p, hp, idF_some h, h⟩
/-- Where a chain stands: what it has, and where it goes on. -/
structure ChS (nx : Nat → List Nat) (r P p : Nat) (D : List Nat) (cur : Int) : Prop where
  nd : D.Nodup
  lt : ∀ d ∈ D, d < P
  sub : ∀ d ∈ D, d = p ∨ Dm nx r p d
  up : (cur = -1 ∧ p ∈ D ∧ ∀ d, Dm nx r p d → d ∈ D) ∨ ∃ c : Nat, c < P ∧ cur = (c : Int) ∧ c ∉ D ∧ (c = p ∨ Dm nx r p c) ∧ (∀ d ∈ D, Dm nx r d c) ∧ (∀ d, Dm nx r p d → d ∈ D ∨ Dm nx r c d) ∧ (p ∈ D ∨ c = p)
theorem ChS.start {nx : Nat → List Nat} {r P p : Nat} (hp : p < P) : ChS nx r P p [] (p : Int) :=
  ⟨by simp, by simp, by simp, .inr ⟨p, hp, rfl, by simp, .inl rfl, by simp, fun d h => .inr h, .inr rfl⟩⟩
theorem ChS.next {nx : Nat → List Nat} {r P p c : Nat} {D : List Nat} (hP : ∀ x, Rch nx (fun _ => False) r x → x < P) (h : ChS nx r P p D (c : Int)) : ChS nx r P p (D ++ [c]) (idF nx r c) ∧ c < P := by
  rcases h.up with ⟨h1, -⟩ | ⟨c', hc, e, h1, h2, h3, h4, h5⟩
  · omega
  · obtain rfl : c = c' := by omega
    refine ⟨⟨?_, ?_, ?_, ?_⟩, hc⟩
    · rw [List.nodup_append]
      exact ⟨h.nd, by simp, fun a ha b hb q => by rw [List.mem_singleton] at hb; rw [q, hb] at ha; exact h1 ha⟩
    · intro d hd
      rcases List.mem_append.1 hd with hd | hd
      · exact h.lt d hd
      · rw [List.mem_singleton] at hd; subst hd; exact hc
    · intro d hd
      rcases List.mem_append.1 hd with hd | hd
      · exact h.sub d hd
      · rw [List.mem_singleton] at hd; subst hd; exact h2
    · have hpD : p ∈ D ++ [c] := by
        rcases h5 with h5 | h5
        · simp [h5]
        · simp [h5]
      rcases idF_cases hP hc with ⟨e1, k1⟩ | ⟨s, hs, e1, k1⟩
      · refine .inl ⟨e1, hpD, fun d hd => ?_⟩
        rcases h4 d hd with k | k
        · simp [k]
        · by_cases e2 : d = c
          · simp [e2]
          · exact (k1 d e2 k).elim
      · refine .inr ⟨s, hs, e1, ?_, .inr ?_, ?_, ?_, .inl hpD⟩
        · intro hd
          rcases List.mem_append.1 hd with hd | hd
          · exact k1.1 ((h3 s hd).anti k1.2.1)
          · rw [List.mem_singleton] at hd; exact k1.1 hd
        · rcases h2 with h2 | h2
          · rw [← h2]; exact k1.2.1
          · exact h2.trans k1.2.1
        · intro d hd
          rcases List.mem_append.1 hd with hd | hd
          · exact (h3 d hd).trans k1.2.1
          · rw [List.mem_singleton] at hd; subst hd; exact k1.2.1
        · intro d hd
          rcases h4 d hd with k | k
          · exact .inl (by simp [k])
          · by_cases e2 : d = c
            · exact .inl (by simp [e2])
            · exact .inr (k1.2.2 d e2 k)
theorem ChS.len {nx : Nat → List Nat} {r P p : Nat} {D : List Nat} {cur : Int} (h : ChS nx r P p D cur) : D.length ≤ P := nodup_len P D h.nd h.lt
theorem ChS.done {nx : Nat → List Nat} {r P p : Nat} {D : List Nat} (h : ChS nx r P p D (-1)) : ∀ d, d ∈ D ↔ d = p ∨ Dm nx r p d := by
  rcases h.up with ⟨-, h1, h2⟩ | ⟨c, -, e, -⟩
  · exact fun d => ⟨h.sub d, fun k => k.elim (fun k => k ▸ h1) (h2 d)⟩
  · omega
set_option maxRecDepth 100000 in
set_option maxHeartbeats 1000000 in
theorem chain_any {nx : Nat → List Nat} {r P p : Nat} (hP : ∀ x, Rch nx (fun _ => False) r x → x < P) (hp : p < P) (hP1 : P ≤ 1000) (v : Value) (w : World) (hv : IRow w v ((List.range P).map (idF nx r))) :
    Calls Try.prog 39 #[v, .int .i64 (p : Int)] w fun e w' => ∃ (u : Value) (D : List Nat), e = .returned (.tuple #[u, .bool true]) ∧ ownI w.heap.size w' u (D.map fun (n : Nat) => (n : Int)) ∧ D.length ≤ P ∧ (∀ d, d ∈ D ↔ d = p ∨ Dm nx r p d) ∧ Below w.heap.size w w' := by
  obtain ⟨ao, vc, rfl, hv⟩ := hv
  have hl : ((List.range P).map (idF nx r)).length = P := by simp
  rw [hl] at hv ⊢
  obtain ⟨g, rfl, hg, hc⟩ : ∃ g, ao = some ⟨g, 0, none⟩ ∧ g < w.heap.size ∧ ∀ k, k < P → w.cell? ⟨g, k, none⟩ = some (.int .i64 (idF nx r k)) := by
    rcases hv with hv | ⟨g, e, hg, hc⟩
    · exfalso
      have := congrArg List.length hv
      rw [hl] at this; simp at this; omega
    · refine ⟨g, e, hg, fun k hk => ?_⟩
      rw [hc k hk, List.getD_eq_getElem?_getD, List.getElem?_map, List.getElem?_range hk]; rfl
  have HC := Lib.hid hc; have HP := Lib.hid hP; have HG := Lib.hid hg
  clear hv hl hc hP hg
  have v1 : IntKind.i64.wrap ((P : Int) + 1) = (P : Int) + 1 := by rw [IntKind.wrap_i64]; omega
  go_enter Try.func39, Try.ntmps39
  go_wp2_with fail
  go_loopw [10, 1, 6] (fun iv cv ov wr => ∃ (D : List Nat) (cur : Int), iv = .int .i64 (D.length : Int) ∧ cv = .int .i64 cur ∧ ownI w.heap.size wr ov (D.map fun (n : Nat) => (n : Int)) ∧ ChS nx r P p D cur ∧ Below w.heap.size w wr) (fun iv _ _ _ => P + 1 - (intOf iv).toNat)
  case atStart => exact ⟨[], _, rfl, rfl, ownI.nil, ChS.start hp, Below.refl _ _⟩
  case round =>
    obtain ⟨wr1, rfl⟩ : ∃ W1 : World, W1 = wr := ⟨_, rfl⟩
    obtain ⟨D, cur, rfl, rfl, hown, hch, hb⟩ := hrel
    have hlen := hch.len
    have j1 : (D.length : Int) < (P : Int) + 1 := by omega
    by_cases hcur : cur = -1
    · subst hcur
      have HH := Lib.hid (And.intro hown (And.intro hch hb))
      clear hown hch hb
      go_wp2_with fail
      refine bodyPost_ret (by first | (simp [results, Try.results39, go_sem]; done) | (simp [results, Try.results39, go_sem]; rfl)) rfl ?_
      obtain ⟨hown, hch, hb⟩ := HH.out
      exact ⟨_, D, rfl, hown, hch.len, hch.done, hb⟩
    · obtain ⟨c, hcP, rfl⟩ : ∃ c : Nat, c < P ∧ cur = (c : Int) := by
        rcases hch.up with ⟨h1, -⟩ | ⟨c, hc, e, -⟩
        · exact (hcur h1).elim
        · exact ⟨c, hc, e⟩
      have hn := (hch.next HP.out).1
      obtain ⟨vo, oc, rfl, -⟩ := hown.slice
      rw [List.length_map] at hown
      have j2 : (0 : Int) ≤ (c : Int) := by omega
      have j3 : (c : Int) < (P : Int) := by omega
      have hbA : Below wr1.heap.size wr1 (wr1.alloc (.cells #[.int .i64 (c : Int)] 3)) := (Below.refl _ _).alloc (Nat.le_refl _) _
      have hoA := hown.below hbA
      have hle : w.heap.size ≤ (wr1.alloc (.cells #[.int .i64 (c : Int)] 3)).heap.size := by have := hb.size; simp; omega
      have hz : (wr1.alloc (.cells #[.int .i64 (c : Int)] 3)).heap.size = wr1.heap.size + 1 := by simp
      have hc0 : (wr1.alloc (.cells #[.int .i64 (c : Int)] 3)).cell? ⟨wr1.heap.size, 0, none⟩ = some (.int .i64 (c : Int)) := by go_cell
      have hb2 := Below.chain hb hbA
      have hlm : (D.map fun (n : Nat) => (n : Int)).length ≤ 1200000 := by rw [List.length_map]; omega
      have HOA := Lib.hid hoA; have HLE := Lib.hid hle; have HC0 := Lib.hid hc0; have HB2 := Lib.hid hb2; have HN := Lib.hid hn; have HLM := Lib.hid hlm; have HLEN := Lib.hid hlen; have HCP := Lib.hid hcP
      have HBN := Lib.hid (And.intro hb hz)
      clear hown hch hb hbA hoA hle hz hc0 hb2 hn hlm hlen hcur hcP
      go_wp2_with (first | (at_builtin; refine wpList_push (lo := w.heap.size) (l := D.map fun (n : Nat) => (n : Int)) rfl (.tmp 23) (.tmp 25) rfl (by simp [Act.eval, Act.put]) HOA.out HLM.out HLE.out wr1.heap.size (c : Int) (by simp [Act.eval, Act.put]) HC0.out ?_; intro g9 cap n9 w9 hn9 h9 hg9 hgx; clear hgx; obtain rfl : n9 = D.length + 1 := hn9.trans (by rw [List.length_map]); clear hn9; refine Hid.out ?_) | fail)
      have hb9 : Below w.heap.size w w9 := by
        have h := But.of_grown (S := fun b => (Value.slice vo D.length oc).ownBlock = some b) hg9 (fun _ e => e)
        exact HB2.out.trans ⟨h.os, h.tape, h.output, h.size, fun k hk => h.block k (by have := HLE.out; omega) (fun e => by have := (HOA.out.lt e).1; omega)⟩
      have z0 := (hb9.cell (p := ⟨g, c, none⟩) HG.out).trans (HC.out c HCP.out)
      have HB9 := Lib.hid hb9; have H9 := Lib.hid h9
      clear hb9 hg9 h9
      refine Lib.hid ?_
      go_wp2_with fail
      go_roundw
      case rel =>
        refine ⟨D ++ [c], idF nx r c, by rw [List.length_append]; go_num, rfl, ?_, HN.out, HB9.out⟩
        rw [List.map_append]; exact H9.out
      case measure => have := HLEN.out; simp [intOf]; omega
theorem good_any {A : Nat → Prop} (n x : Int) (ao : Option Addr) (c : Nat) (E : List Ed) (w : World) (hr : ERow A w ao c E) :
    Calls Try.prog 38 #[.agg #[.int .i64 n, .int .i64 x, .slice ao E.length c]] w fun e w' => e = .returned (.bool (fewG n E && decide (ckG n x E = 0))) ∧ Below w.heap.size w w' := by
  have hA : Below w.heap.size w (w.alloc (Obj.cells #[.int .i64 n, .int .i64 x, .slice ao E.length c] 24)) := (Below.refl _ _).alloc (Nat.le_refl _) _
  have hX := GBx.new w n x ao E.length c
  have KF := Lib.hid (few_any n x ao c E (w.alloc (Obj.cells #[.int .i64 n, .int .i64 x, .slice ao E.length c] 24)))
  have CC := fun W hW => refCheck_any n x ao c E W (hr.keep (B := A) (But.of_below (S := fun _ => False) (w' := W) hW) (fun _ h _ => ⟨id, h⟩))
  have KC := Lib.hid CC; have HA := Lib.hid hA; have HX := Lib.hid hX
  obtain ⟨y0, y1, y2, y3⟩ := hX
  clear hr hA CC
  generalize fewG n E = fw at *
  obtain ⟨K, hK⟩ : ∃ K, ckG n x E = K := ⟨_, rfl⟩
  rw [hK] at KC ⊢
  clear hK
  have t1 : ((K : Int) == 0) = decide (K = 0) := by rw [Bool.eq_iff_iff]; simp
  cases fw with
  | false =>
    go_enter Try.func38, Try.ntmps38
    go_wp2_with (first | (go_at_call 13; refine (KF.out).mono ?_; rintro e w1 ⟨rfl, hb⟩; refine Hid.out ?_) | fail)
    have HB := Lib.hid (Below.chain HA.out hb)
    clear hb
    refine Lib.hid ?_
    go_wp2_with fail
    go_ret
    exact ⟨by simp, HB.out⟩
  | true =>
    go_enter Try.func38, Try.ntmps38
    go_wp2_with (first | (go_at_call 13; refine (KF.out).mono ?_; rintro e w1 ⟨rfl, hb⟩; refine Hid.out ?_) | fail)
    have HB := Lib.hid (Below.chain HA.out hb)
    obtain ⟨y0, y1, y2, y3⟩ := HX.out.below hb
    clear hb
    refine Lib.hid ?_
    go_wp2_with (first | (go_at_call 22; refine (KC.out _ HB.out).mono ?_; rintro e w2 ⟨rfl, hb⟩; refine Hid.out ?_) | fail)
    have HB2 := Lib.hid (Below.chain HB.out hb)
    clear hb
    refine Lib.hid ?_
    go_wp2_with fail
    go_ret
    exact ⟨by simp, HB2.out⟩
end Go.Proofs.Ytjjkabgbcflipaa
