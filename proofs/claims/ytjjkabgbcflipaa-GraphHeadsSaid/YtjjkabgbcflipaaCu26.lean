import Derived.Test.YtjjkabgbcflipaaCu25
set_option linter.unusedSimpArgs false
set_option linter.unusedVariables false
namespace Go.Proofs.Ytjjkabgbcflipaa
open Go Go.Proofs Go.RowKit Go.Shelf GM

theorem step_pushE {lo : Nat} {W : World} {v : Value} {L : List Ed} {d : Ed} {ops : Array Oper} {o : Oper} {a : Act} {K : Act → World → Prop} {Q : Exit → Act → World → Prop} {E : Prop}
    (hg : o.guard = none) (s x : Operand) (hop : o.op = Op.call { callee := Callee.builtin Builtin.append, args := #[s, x], argTypes := #[22, 22] })
    (hs : a.eval s = v) (hown : EOwn lo W v L) (hl : L.length ≤ 100000) (hbase : lo ≤ W.heap.size)
    (ad : Nat) (hx : a.eval x = .slice (some ⟨ad, 0, none⟩) 1 1) (hc : EdAt W ad 0 d)
    (hK : ∀ (g cap n : Nat) (w9 : World), n = L.length + 1 → EOwn lo w9 (.slice (some ⟨g, 0, none⟩) n cap) (L ++ [d]) → W.grownBy w9 v.ownBlock → (v.ownBlock = some g ∨ g = W.heap.size) → K (a.put o.dst (.slice (some ⟨g, 0, none⟩) n cap)) w9) :
    if Region.wanted o (yielded ops a.tmps) = true then Oper.wp Try.prog o a W K Q else E := by
  obtain ⟨i0, hi, hz0, hz1, hz2⟩ := info_parts infoEdge
  refine step_append_lies W hg s x 22 hop lo 55 i0 (.agg (edD [] 0).cs) 21 280 Try.underlying22 hi hz0 hz1 hz2 rfl (by decide) v L.length (edCells L) hs hown ⟨ad, 0, none⟩ 1 1 d.cs.toList hx rfl ?_ ?_ (by decide) (by unfold maxLen; omega) (by omega) hbase _ rfl ?_
  · intro j u hu
    rw [Array.getElem?_toList] at hu
    have := hc j u hu
    rw [show (⟨ad, 0, none⟩ : Addr).add j = ⟨ad, 0 + j, none⟩ by unfold Addr.add; split <;> simp_all]
    exact this
  · intro u hu
    have := d.good.one
    rw [Array.all_eq_true'] at this
    exact this u (Array.mem_toList_iff.1 hu)
  · intro g cap w9 hown9 hgrow hgg hg9
    refine hK g cap _ w9 rfl ?_ hgrow hgg
    unfold EOwn
    rw [List.length_append, edCells_snoc]
    exact hown9
/-- The worlds in which the steps of the region run. -/
def RowT (lo G3 : Nat) (t f : Int) (v : Value) (L : List Ed) (W0 : World) (u32 u33 : Value) (listed : Array Bool) (w : World) : Prop :=
  (listed.getD 16 false = false ∧ listed.getD 18 false = false ∧ Below W0.heap.size W0 w ∧ (listed.getD 15 false = true → ∃ b, u32 = .slice (some ⟨b, 0, none⟩) 1 1 ∧ b < w.heap.size ∧ EdAt w b 0 (zE t f))) ∨
  ((listed.getD 16 false = true ∧ listed.getD 15 false = true ∧ ∃ g n c, u33 = .slice (some ⟨g, 0, none⟩) n c ∧ g ≠ G3) ∧ listed.getD 18 false = false ∧ EOwn lo w u33 (L ++ [zE t f]) ∧ But (fun b => v.ownBlock = some b) W0 w) ∨
  ((∀ j, j < 19 → listed.getD j false = true) ∧ EOwn lo w u33 (L ++ [zE t f]) ∧ w.cell? ⟨G3, 2, none⟩ = some u33 ∧ (∃ g n c, u33 = .slice (some ⟨g, 0, none⟩) n c ∧ g ≠ G3) ∧ ∃ w', But (fun b => v.ownBlock = some b) W0 w' ∧ w = w'.setCell ⟨G3, 2, none⟩ u33)
theorem RowT.live {lo G3 : Nat} {t f : Int} {v : Value} {L : List Ed} {W0 w : World} {u32 u33 : Value} {listed : Array Bool} {i : Nat} (h : RowT lo G3 t f v L W0 u32 u33 listed w) (hi : i < 19) (hl : listed.getD i true = false) :
    But (fun b => v.ownBlock = some b) W0 w ∧ listed.getD 18 false = false := by
  rcases h with ⟨-, h2, h3, -⟩ | ⟨-, h2, -, h3⟩ | ⟨h1, -⟩
  · exact ⟨But.of_below h3, h2⟩
  · exact ⟨h3, h2⟩
  · exact (no_both hl (h1 i hi)).elim
theorem RowT.step {lo G3 : Nat} {t f : Int} {v : Value} {L : List Ed} {W0 w : World} {u32 u33 : Value} {listed : Array Bool} {i : Nat} (h : RowT lo G3 t f v L W0 u32 u33 listed w) (h10 : i ≠ 15) (h11 : i ≠ 16) (h13 : i ≠ 18) :
    RowT lo G3 t f v L W0 u32 u33 (listed.setIfInBounds i true) w := by
  rcases h with ⟨h1, h2, h3, h4⟩ | ⟨h1, h2, h3, h4⟩ | ⟨h1, h2, h3⟩
  · exact .inl ⟨by rw [getD_set_ne false h11]; exact h1, by rw [getD_set_ne false h13]; exact h2, h3, fun e => h4 (lset_ne h10 e)⟩
  · exact .inr (.inl ⟨⟨lset_up h1.1, lset_up h1.2.1, h1.2.2⟩, by rw [getD_set_ne false h13]; exact h2, h3, h4⟩)
  · exact .inr (.inr ⟨fun j hj => lset_up (h1 j hj), h2, h3⟩)
def tuAct (G3 G i : Nat) (q0 q2 q5 q6 q7 q8 q9 q10 q11 q12 q13 q14 q15 q16 q35 u17 u18 u19 u20 u21 u22 u23 u24 u25 u26 u27 u28 u29 u30 u31 u32 u33 u34 : Value) : Act :=
  { tmps := #[q0, .pointer (some ⟨G, 0, none⟩), q2, .pointer (some ⟨G3, 0, none⟩), .int .i64 (i : Int), q5, q6, q7, q8, q9, q10, q11, q12, q13, q14, q15, q16, u17, u18, u19, u20, u21, u22, u23, u24, u25, u26, u27, u28, u29, u30, u31, u32, u33, u34, q35], defers := [] }
def tuI (lo G3 G eb eo n c i : Nat) (t f : Int) (v : Value) (L : List Ed) (q0 q2 q5 q6 q7 q8 q9 q10 q11 q12 q13 q14 q15 q16 q35 : Value) (W0 : World) (listed : Array Bool) (a : Act) (w : World) : Prop :=
  ∃ u17 u18 u19 u20 u21 u22 u23 u24 u25 u26 u27 u28 u29 u30 u31 u32 u33 u34, a = tuAct G3 G i q0 q2 q5 q6 q7 q8 q9 q10 q11 q12 q13 q14 q15 q16 q35 u17 u18 u19 u20 u21 u22 u23 u24 u25 u26 u27 u28 u29 u30 u31 u32 u33 u34 ∧ RowT lo G3 t f v L W0 u32 u33 listed w ∧
    (listed.getD 0 false = true → u17 = .pointer (some ⟨G3, 2, none⟩)) ∧
    (listed.getD 1 false = true → u18 = v) ∧
    (listed.getD 2 false = true → u19 = .pointer (some ⟨G, 2, none⟩)) ∧
    (listed.getD 3 false = true → u20 = .slice (some ⟨eb, eo, none⟩) n c) ∧
    (listed.getD 4 false = true → u21 = .int .i64 (i : Int)) ∧
    (listed.getD 5 false = true → u22 = .pointer (some ⟨eb, eo + i * 21, none⟩)) ∧
    (listed.getD 6 false = true → u23 = .pointer (some ⟨eb, eo + i * 21 + 1, none⟩)) ∧
    (listed.getD 7 false = true → u24 = .int .i64 t) ∧
    (listed.getD 8 false = true → u25 = .pointer (some ⟨G, 2, none⟩)) ∧
    (listed.getD 9 false = true → u26 = .slice (some ⟨eb, eo, none⟩) n c) ∧
    (listed.getD 10 false = true → u27 = .int .i64 (i : Int)) ∧
    (listed.getD 11 false = true → u28 = .pointer (some ⟨eb, eo + i * 21, none⟩)) ∧
    (listed.getD 12 false = true → u29 = .pointer (some ⟨eb, eo + i * 21, none⟩)) ∧
    (listed.getD 13 false = true → u30 = .int .i64 f) ∧
    (listed.getD 14 false = true → u31 = .agg #[.int .i64 t, .int .i64 f, .int .i64 0, .int .i64 0, .int .i64 0, .int .i64 0, .int .i64 0, .int .i64 0, .int .i64 0, .string ⟨#[]⟩, .int .i64 0, .slice none 0 0, .int .i64 0, .string ⟨#[]⟩, .int .i64 0, .slice none 0 0, .int .i64 0, .slice none 0 0, .slice none 0 0, .slice none 0 0, .slice none 0 0]) ∧
    (listed.getD 17 false = true → u34 = .pointer (some ⟨G3, 2, none⟩))
set_option maxRecDepth 20000 in
set_option maxHeartbeats 4000000 in
theorem tu_region (lo G3 G eb eo n c i : Nat) (t f : Int) (v : Value) (L : List Ed) (q0 q2 q5 q6 q7 q8 q9 q10 q11 q12 q13 q14 q15 q16 q35 : Value) (W0 : World) (i17 i18 i19 i20 i21 i22 i23 i24 i25 i26 i27 i28 i29 i30 i31 i32 i33 i34 : Value) (hL : L.length ≤ 1024) (hin : i < n) (hn : n ≤ 1024) (hG : G < W0.heap.size) (hG3 : G3 < W0.heap.size) (hGn : ∀ b, v.ownBlock = some b → b ≠ G3 ∧ b ≠ G ∧ b ≠ eb) (hG2 : W0.cell? ⟨G, 2, none⟩ = some (.slice (some ⟨eb, eo, none⟩) n c)) (heb : eb < W0.heap.size) (hef : W0.cell? ⟨eb, eo + i * 21, none⟩ = some (.int .i64 f)) (het : W0.cell? ⟨eb, eo + i * 21 + 1, none⟩ = some (.int .i64 t)) (hv : W0.cell? ⟨G3, 2, none⟩ = some v) (hvf : W0.frozen? ⟨G3, 2, none⟩ = false) (how : EOwn lo W0 v L) (hlo : lo ≤ W0.heap.size) {Q : Exit → Act → World → Prop}
    (hQ : ∀ u17 u18 u19 u20 u21 u22 u23 u24 u25 u26 u27 u28 u29 u30 u31 u32 u33 u34 w, (EOwn lo w u33 (L ++ [zE t f]) ∧ w.cell? ⟨G3, 2, none⟩ = some u33 ∧ (∃ g n c, u33 = .slice (some ⟨g, 0, none⟩) n c ∧ g ≠ G3) ∧ ∃ w', But (fun b => v.ownBlock = some b) W0 w' ∧ w = w'.setCell ⟨G3, 2, none⟩ u33) → (u17 = .pointer (some ⟨G3, 2, none⟩)) → (u18 = v) → (u19 = .pointer (some ⟨G, 2, none⟩)) → (u20 = .slice (some ⟨eb, eo, none⟩) n c) → (u21 = .int .i64 (i : Int)) → (u22 = .pointer (some ⟨eb, eo + i * 21, none⟩)) → (u23 = .pointer (some ⟨eb, eo + i * 21 + 1, none⟩)) → (u24 = .int .i64 t) → (u25 = .pointer (some ⟨G, 2, none⟩)) → (u26 = .slice (some ⟨eb, eo, none⟩) n c) → (u27 = .int .i64 (i : Int)) → (u28 = .pointer (some ⟨eb, eo + i * 21, none⟩)) → (u29 = .pointer (some ⟨eb, eo + i * 21, none⟩)) → (u30 = .int .i64 f) → (u31 = .agg #[.int .i64 t, .int .i64 f, .int .i64 0, .int .i64 0, .int .i64 0, .int .i64 0, .int .i64 0, .int .i64 0, .int .i64 0, .string ⟨#[]⟩, .int .i64 0, .slice none 0 0, .int .i64 0, .string ⟨#[]⟩, .int .i64 0, .slice none 0 0, .int .i64 0, .slice none 0 0, .slice none 0 0, .slice none 0 0, .slice none 0 0]) → (u34 = .pointer (some ⟨G3, 2, none⟩)) → Q .normal (tuAct G3 G i q0 q2 q5 q6 q7 q8 q9 q10 q11 q12 q13 q14 q15 q16 q35 u17 u18 u19 u20 u21 u22 u23 u24 u25 u26 u27 u28 u29 u30 u31 u32 u33 u34) w) :
    (Code.region 5 #[{ dst := some 17, op := Op.fieldAddr 24 (Operand.tmp 3) 2, type := 0, pos := "ref.go:52", after := #[], guard := none }, { dst := some 18, op := Op.load 22 (Operand.tmp 17), type := 22, pos := "ref.go:52", after := #[{ on := 0, ground := Ground.data }], guard := none }, { dst := some 19, op := Op.fieldAddr 24 (Operand.tmp 1) 2, type := 0, pos := "ref.go:52", after := #[], guard := none }, { dst := some 20, op := Op.load 22 (Operand.tmp 19), type := 22, pos := "ref.go:52", after := #[{ on := 2, ground := Ground.data }], guard := none }, { dst := some 21, op := Op.move (Operand.tmp 4), type := 3, pos := "ref.go:52", after := #[], guard := none }, { dst := some 22, op := Op.indexAddr 22 (Operand.tmp 20) (Operand.tmp 21), type := 0, pos := "ref.go:52", after := #[{ on := 3, ground := Ground.data }, { on := 4, ground := Ground.data }], guard := none }, { dst := some 23, op := Op.fieldAddr 55 (Operand.tmp 22) 1, type := 0, pos := "ref.go:52", after := #[{ on := 5, ground := Ground.data }], guard := none }, { dst := some 24, op := Op.load 3 (Operand.tmp 23), type := 3, pos := "ref.go:52", after := #[{ on := 6, ground := Ground.data }], guard := none }, { dst := some 25, op := Op.fieldAddr 24 (Operand.tmp 1) 2, type := 0, pos := "ref.go:52", after := #[], guard := none }, { dst := some 26, op := Op.load 22 (Operand.tmp 25), type := 22, pos := "ref.go:52", after := #[{ on := 8, ground := Ground.data }], guard := none }, { dst := some 27, op := Op.move (Operand.tmp 4), type := 3, pos := "ref.go:52", after := #[], guard := none }, { dst := some 28, op := Op.indexAddr 22 (Operand.tmp 26) (Operand.tmp 27), type := 0, pos := "ref.go:52", after := #[{ on := 9, ground := Ground.data }, { on := 10, ground := Ground.data }], guard := none }, { dst := some 29, op := Op.fieldAddr 55 (Operand.tmp 28) 0, type := 0, pos := "ref.go:52", after := #[{ on := 11, ground := Ground.data }], guard := none }, { dst := some 30, op := Op.load 3 (Operand.tmp 29), type := 3, pos := "ref.go:52", after := #[{ on := 12, ground := Ground.data }], guard := none }, { dst := some 31, op := Op.build 55 #[(0, Operand.tmp 24), (1, Operand.tmp 30)], type := 55, pos := "ref.go:52", after := #[{ on := 7, ground := Ground.data }, { on := 13, ground := Ground.data }], guard := none }, { dst := some 32, op := Op.buildSlice 22 1 #[(0, Operand.tmp 31)], type := 22, pos := "ref.go:52", after := #[{ on := 14, ground := Ground.data }], guard := none }, { dst := some 33, op := Op.call { callee := Callee.builtin Builtin.append, args := #[Operand.tmp 18, Operand.tmp 32], argTypes := #[22, 22] }, type := 22, pos := "ref.go:52", after := #[{ on := 1, ground := Ground.data }, { on := 15, ground := Ground.data }], guard := none }, { dst := some 34, op := Op.fieldAddr 24 (Operand.tmp 3) 2, type := 0, pos := "ref.go:52", after := #[{ on := 0, ground := Ground.phase }, { on := 1, ground := Ground.phase }, { on := 2, ground := Ground.phase }, { on := 3, ground := Ground.phase }, { on := 4, ground := Ground.phase }, { on := 5, ground := Ground.phase }, { on := 6, ground := Ground.phase }, { on := 7, ground := Ground.phase }, { on := 8, ground := Ground.phase }, { on := 9, ground := Ground.phase }, { on := 10, ground := Ground.phase }, { on := 11, ground := Ground.phase }, { on := 12, ground := Ground.phase }, { on := 13, ground := Ground.phase }, { on := 14, ground := Ground.phase }, { on := 15, ground := Ground.phase }, { on := 16, ground := Ground.phase }], guard := none }, { dst := none, op := Op.store 22 (Operand.tmp 34) (Operand.tmp 33), type := 0, pos := "ref.go:52", after := #[{ on := 17, ground := Ground.data }, { on := 16, ground := Ground.data }, { on := 16, ground := Ground.chain }, { on := 0, ground := Ground.phase }, { on := 1, ground := Ground.phase }, { on := 2, ground := Ground.phase }, { on := 3, ground := Ground.phase }, { on := 4, ground := Ground.phase }, { on := 5, ground := Ground.phase }, { on := 6, ground := Ground.phase }, { on := 7, ground := Ground.phase }, { on := 8, ground := Ground.phase }, { on := 9, ground := Ground.phase }, { on := 10, ground := Ground.phase }, { on := 11, ground := Ground.phase }, { on := 12, ground := Ground.phase }, { on := 13, ground := Ground.phase }, { on := 14, ground := Ground.phase }, { on := 15, ground := Ground.phase }, { on := 16, ground := Ground.phase }], guard := none }] true).wp Try.prog Q (tuAct G3 G i q0 q2 q5 q6 q7 q8 q9 q10 q11 q12 q13 q14 q15 q16 q35 (i17) (i18) (i19) (i20) (i21) (i22) (i23) (i24) (i25) (i26) (i27) (i28) (i29) (i30) (i31) (i32) (i33) (i34)) W0 := by
  refine wp_region_inv (by kernel_rfl) (by kernel_rfl) (tuI lo G3 G eb eo n c i t f v L q0 q2 q5 q6 q7 q8 q9 q10 q11 q12 q13 q14 q15 q16 q35 W0) ?_ ?_ ?_
  · refine ⟨_, _, _, _, _, _, _, _, _, _, _, _, _, _, _, _, _, _, rfl, .inl ⟨rfl, rfl, (Below.refl _ _).drew, fun e => by simp at e⟩, ?_, ?_, ?_, ?_, ?_, ?_, ?_, ?_, ?_, ?_, ?_, ?_, ?_, ?_, ?_, ?_⟩ <;> (intro e; simp at e)
  · intro listed a w i o hI hs ho hl hd
    have hi9 : i < 19 := (Array.getElem?_eq_some_iff.1 ho).1
    obtain ⟨u17, u18, u19, u20, u21, u22, u23, u24, u25, u26, u27, u28, u29, u30, u31, u32, u33, u34, rfl, hB, h0, h1, h2, h3, h4, h5, h6, h7, h8, h9, h10, h11, h12, h13, h14, h17⟩ := hI
    rcases (show i = 0 ∨ i = 1 ∨ i = 2 ∨ i = 3 ∨ i = 4 ∨ i = 5 ∨ i = 6 ∨ i = 7 ∨ i = 8 ∨ i = 9 ∨ i = 10 ∨ i = 11 ∨ i = 12 ∨ i = 13 ∨ i = 14 ∨ i = 15 ∨ i = 16 ∨ i = 17 ∨ i = 18 by omega) with rfl | rfl | rfl | rfl | rfl | rfl | rfl | rfl | rfl | rfl | rfl | rfl | rfl | rfl | rfl | rfl | rfl | rfl | rfl
    · have ho' : some _ = some o := ho
      cases ho'
      obtain ⟨hb1, hst⟩ := hB.live hi9 hl
      have hB2 := hB.step (i := 0) (by decide) (by decide) (by decide)
      unfold tuAct; go_simp
      exact ⟨.pointer (some ⟨G3, 2, none⟩), u18, u19, u20, u21, u22, u23, u24, u25, u26, u27, u28, u29, u30, u31, u32, u33, u34, rfl, hB2, fun _ => rfl, fun e1 => h1 (lset_ne (by decide) e1), fun e2 => h2 (lset_ne (by decide) e2), fun e3 => h3 (lset_ne (by decide) e3), fun e4 => h4 (lset_ne (by decide) e4), fun e5 => h5 (lset_ne (by decide) e5), fun e6 => h6 (lset_ne (by decide) e6), fun e7 => h7 (lset_ne (by decide) e7), fun e8 => h8 (lset_ne (by decide) e8), fun e9 => h9 (lset_ne (by decide) e9), fun e10 => h10 (lset_ne (by decide) e10), fun e11 => h11 (lset_ne (by decide) e11), fun e12 => h12 (lset_ne (by decide) e12), fun e13 => h13 (lset_ne (by decide) e13), fun e14 => h14 (lset_ne (by decide) e14), fun e17 => h17 (lset_ne (by decide) e17)⟩
    · have ho' : some _ = some o := ho
      cases ho'
      have d0 := hd { on := 0, ground := .data } (by simp) rfl
      obtain ⟨hb1, hst⟩ := hB.live hi9 hl
      have c2 : w.cell? ⟨G3, 2, none⟩ = some v := (hb1.cell (p := ⟨G3, 2, none⟩) hG3 (fun e => (hGn _ e).1 rfl)).trans hv
      have e0 := h0 d0
      subst e0
      have hB2 := hB.step (i := 1) (by decide) (by decide) (by decide)
      unfold tuAct; go_simp
      exact ⟨.pointer (some ⟨G3, 2, none⟩), v, u19, u20, u21, u22, u23, u24, u25, u26, u27, u28, u29, u30, u31, u32, u33, u34, rfl, hB2, fun e0 => h0 (lset_ne (by decide) e0), fun _ => rfl, fun e2 => h2 (lset_ne (by decide) e2), fun e3 => h3 (lset_ne (by decide) e3), fun e4 => h4 (lset_ne (by decide) e4), fun e5 => h5 (lset_ne (by decide) e5), fun e6 => h6 (lset_ne (by decide) e6), fun e7 => h7 (lset_ne (by decide) e7), fun e8 => h8 (lset_ne (by decide) e8), fun e9 => h9 (lset_ne (by decide) e9), fun e10 => h10 (lset_ne (by decide) e10), fun e11 => h11 (lset_ne (by decide) e11), fun e12 => h12 (lset_ne (by decide) e12), fun e13 => h13 (lset_ne (by decide) e13), fun e14 => h14 (lset_ne (by decide) e14), fun e17 => h17 (lset_ne (by decide) e17)⟩
    · have ho' : some _ = some o := ho
      cases ho'
      obtain ⟨hb1, hst⟩ := hB.live hi9 hl
      have hB2 := hB.step (i := 2) (by decide) (by decide) (by decide)
      unfold tuAct; go_simp
      exact ⟨u17, u18, .pointer (some ⟨G, 2, none⟩), u20, u21, u22, u23, u24, u25, u26, u27, u28, u29, u30, u31, u32, u33, u34, rfl, hB2, fun e0 => h0 (lset_ne (by decide) e0), fun e1 => h1 (lset_ne (by decide) e1), fun _ => rfl, fun e3 => h3 (lset_ne (by decide) e3), fun e4 => h4 (lset_ne (by decide) e4), fun e5 => h5 (lset_ne (by decide) e5), fun e6 => h6 (lset_ne (by decide) e6), fun e7 => h7 (lset_ne (by decide) e7), fun e8 => h8 (lset_ne (by decide) e8), fun e9 => h9 (lset_ne (by decide) e9), fun e10 => h10 (lset_ne (by decide) e10), fun e11 => h11 (lset_ne (by decide) e11), fun e12 => h12 (lset_ne (by decide) e12), fun e13 => h13 (lset_ne (by decide) e13), fun e14 => h14 (lset_ne (by decide) e14), fun e17 => h17 (lset_ne (by decide) e17)⟩
    · have ho' : some _ = some o := ho
      cases ho'
      have d2 := hd { on := 2, ground := .data } (by simp) rfl
      obtain ⟨hb1, hst⟩ := hB.live hi9 hl
      have c0 : w.cell? ⟨G, 2, none⟩ = some (.slice (some ⟨eb, eo, none⟩) n c) := (hb1.cell (p := ⟨G, 2, none⟩) hG (fun e => (hGn _ e).2.1 rfl)).trans hG2
      have e2 := h2 d2
      subst e2
      have hB2 := hB.step (i := 3) (by decide) (by decide) (by decide)
      unfold tuAct; go_simp
      exact ⟨u17, u18, .pointer (some ⟨G, 2, none⟩), .slice (some ⟨eb, eo, none⟩) n c, u21, u22, u23, u24, u25, u26, u27, u28, u29, u30, u31, u32, u33, u34, rfl, hB2, fun e0 => h0 (lset_ne (by decide) e0), fun e1 => h1 (lset_ne (by decide) e1), fun e2 => h2 (lset_ne (by decide) e2), fun _ => rfl, fun e4 => h4 (lset_ne (by decide) e4), fun e5 => h5 (lset_ne (by decide) e5), fun e6 => h6 (lset_ne (by decide) e6), fun e7 => h7 (lset_ne (by decide) e7), fun e8 => h8 (lset_ne (by decide) e8), fun e9 => h9 (lset_ne (by decide) e9), fun e10 => h10 (lset_ne (by decide) e10), fun e11 => h11 (lset_ne (by decide) e11), fun e12 => h12 (lset_ne (by decide) e12), fun e13 => h13 (lset_ne (by decide) e13), fun e14 => h14 (lset_ne (by decide) e14), fun e17 => h17 (lset_ne (by decide) e17)⟩
    · have ho' : some _ = some o := ho
      cases ho'
      obtain ⟨hb1, hst⟩ := hB.live hi9 hl
      have hB2 := hB.step (i := 4) (by decide) (by decide) (by decide)
      unfold tuAct; go_simp
      exact ⟨u17, u18, u19, u20, .int .i64 (i : Int), u22, u23, u24, u25, u26, u27, u28, u29, u30, u31, u32, u33, u34, rfl, hB2, fun e0 => h0 (lset_ne (by decide) e0), fun e1 => h1 (lset_ne (by decide) e1), fun e2 => h2 (lset_ne (by decide) e2), fun e3 => h3 (lset_ne (by decide) e3), fun _ => rfl, fun e5 => h5 (lset_ne (by decide) e5), fun e6 => h6 (lset_ne (by decide) e6), fun e7 => h7 (lset_ne (by decide) e7), fun e8 => h8 (lset_ne (by decide) e8), fun e9 => h9 (lset_ne (by decide) e9), fun e10 => h10 (lset_ne (by decide) e10), fun e11 => h11 (lset_ne (by decide) e11), fun e12 => h12 (lset_ne (by decide) e12), fun e13 => h13 (lset_ne (by decide) e13), fun e14 => h14 (lset_ne (by decide) e14), fun e17 => h17 (lset_ne (by decide) e17)⟩
    · have ho' : some _ = some o := ho
      cases ho'
      have d3 := hd { on := 3, ground := .data } (by simp) rfl
      have d4 := hd { on := 4, ground := .data } (by simp) rfl
      obtain ⟨hb1, hst⟩ := hB.live hi9 hl
      have p2 : (0 : Int) ≤ (i : Int) := by omega
      have p3 : (i : Int) < (n : Int) := by omega
      have e3 := h3 d3
      subst e3
      have e4 := h4 d4
      subst e4
      have hB2 := hB.step (i := 5) (by decide) (by decide) (by decide)
      unfold tuAct; go_simp
      exact ⟨u17, u18, u19, .slice (some ⟨eb, eo, none⟩) n c, .int .i64 (i : Int), .pointer (some ⟨eb, eo + i * 21, none⟩), u23, u24, u25, u26, u27, u28, u29, u30, u31, u32, u33, u34, rfl, hB2, fun e0 => h0 (lset_ne (by decide) e0), fun e1 => h1 (lset_ne (by decide) e1), fun e2 => h2 (lset_ne (by decide) e2), fun e3 => h3 (lset_ne (by decide) e3), fun e4 => h4 (lset_ne (by decide) e4), fun _ => rfl, fun e6 => h6 (lset_ne (by decide) e6), fun e7 => h7 (lset_ne (by decide) e7), fun e8 => h8 (lset_ne (by decide) e8), fun e9 => h9 (lset_ne (by decide) e9), fun e10 => h10 (lset_ne (by decide) e10), fun e11 => h11 (lset_ne (by decide) e11), fun e12 => h12 (lset_ne (by decide) e12), fun e13 => h13 (lset_ne (by decide) e13), fun e14 => h14 (lset_ne (by decide) e14), fun e17 => h17 (lset_ne (by decide) e17)⟩
    · have ho' : some _ = some o := ho
      cases ho'
      have d5 := hd { on := 5, ground := .data } (by simp) rfl
      obtain ⟨hb1, hst⟩ := hB.live hi9 hl
      have e5 := h5 d5
      subst e5
      have hB2 := hB.step (i := 6) (by decide) (by decide) (by decide)
      unfold tuAct; go_simp
      exact ⟨u17, u18, u19, u20, u21, .pointer (some ⟨eb, eo + i * 21, none⟩), .pointer (some ⟨eb, eo + i * 21 + 1, none⟩), u24, u25, u26, u27, u28, u29, u30, u31, u32, u33, u34, rfl, hB2, fun e0 => h0 (lset_ne (by decide) e0), fun e1 => h1 (lset_ne (by decide) e1), fun e2 => h2 (lset_ne (by decide) e2), fun e3 => h3 (lset_ne (by decide) e3), fun e4 => h4 (lset_ne (by decide) e4), fun e5 => h5 (lset_ne (by decide) e5), fun _ => rfl, fun e7 => h7 (lset_ne (by decide) e7), fun e8 => h8 (lset_ne (by decide) e8), fun e9 => h9 (lset_ne (by decide) e9), fun e10 => h10 (lset_ne (by decide) e10), fun e11 => h11 (lset_ne (by decide) e11), fun e12 => h12 (lset_ne (by decide) e12), fun e13 => h13 (lset_ne (by decide) e13), fun e14 => h14 (lset_ne (by decide) e14), fun e17 => h17 (lset_ne (by decide) e17)⟩
    · have ho' : some _ = some o := ho
      cases ho'
      have d6 := hd { on := 6, ground := .data } (by simp) rfl
      obtain ⟨hb1, hst⟩ := hB.live hi9 hl
      have c1 : w.cell? ⟨eb, eo + i * 21 + 1, none⟩ = some (.int .i64 t) := (hb1.cell (p := ⟨eb, eo + i * 21 + 1, none⟩) heb (fun e => (hGn _ e).2.2 rfl)).trans het
      have e6 := h6 d6
      subst e6
      have hB2 := hB.step (i := 7) (by decide) (by decide) (by decide)
      unfold tuAct; go_simp
      exact ⟨u17, u18, u19, u20, u21, u22, .pointer (some ⟨eb, eo + i * 21 + 1, none⟩), .int .i64 t, u25, u26, u27, u28, u29, u30, u31, u32, u33, u34, rfl, hB2, fun e0 => h0 (lset_ne (by decide) e0), fun e1 => h1 (lset_ne (by decide) e1), fun e2 => h2 (lset_ne (by decide) e2), fun e3 => h3 (lset_ne (by decide) e3), fun e4 => h4 (lset_ne (by decide) e4), fun e5 => h5 (lset_ne (by decide) e5), fun e6 => h6 (lset_ne (by decide) e6), fun _ => rfl, fun e8 => h8 (lset_ne (by decide) e8), fun e9 => h9 (lset_ne (by decide) e9), fun e10 => h10 (lset_ne (by decide) e10), fun e11 => h11 (lset_ne (by decide) e11), fun e12 => h12 (lset_ne (by decide) e12), fun e13 => h13 (lset_ne (by decide) e13), fun e14 => h14 (lset_ne (by decide) e14), fun e17 => h17 (lset_ne (by decide) e17)⟩
    · have ho' : some _ = some o := ho
      cases ho'
      obtain ⟨hb1, hst⟩ := hB.live hi9 hl
      have hB2 := hB.step (i := 8) (by decide) (by decide) (by decide)
      unfold tuAct; go_simp
      exact ⟨u17, u18, u19, u20, u21, u22, u23, u24, .pointer (some ⟨G, 2, none⟩), u26, u27, u28, u29, u30, u31, u32, u33, u34, rfl, hB2, fun e0 => h0 (lset_ne (by decide) e0), fun e1 => h1 (lset_ne (by decide) e1), fun e2 => h2 (lset_ne (by decide) e2), fun e3 => h3 (lset_ne (by decide) e3), fun e4 => h4 (lset_ne (by decide) e4), fun e5 => h5 (lset_ne (by decide) e5), fun e6 => h6 (lset_ne (by decide) e6), fun e7 => h7 (lset_ne (by decide) e7), fun _ => rfl, fun e9 => h9 (lset_ne (by decide) e9), fun e10 => h10 (lset_ne (by decide) e10), fun e11 => h11 (lset_ne (by decide) e11), fun e12 => h12 (lset_ne (by decide) e12), fun e13 => h13 (lset_ne (by decide) e13), fun e14 => h14 (lset_ne (by decide) e14), fun e17 => h17 (lset_ne (by decide) e17)⟩
    · have ho' : some _ = some o := ho
      cases ho'
      have d8 := hd { on := 8, ground := .data } (by simp) rfl
      obtain ⟨hb1, hst⟩ := hB.live hi9 hl
      have c0 : w.cell? ⟨G, 2, none⟩ = some (.slice (some ⟨eb, eo, none⟩) n c) := (hb1.cell (p := ⟨G, 2, none⟩) hG (fun e => (hGn _ e).2.1 rfl)).trans hG2
      have e8 := h8 d8
      subst e8
      have hB2 := hB.step (i := 9) (by decide) (by decide) (by decide)
      unfold tuAct; go_simp
      exact ⟨u17, u18, u19, u20, u21, u22, u23, u24, .pointer (some ⟨G, 2, none⟩), .slice (some ⟨eb, eo, none⟩) n c, u27, u28, u29, u30, u31, u32, u33, u34, rfl, hB2, fun e0 => h0 (lset_ne (by decide) e0), fun e1 => h1 (lset_ne (by decide) e1), fun e2 => h2 (lset_ne (by decide) e2), fun e3 => h3 (lset_ne (by decide) e3), fun e4 => h4 (lset_ne (by decide) e4), fun e5 => h5 (lset_ne (by decide) e5), fun e6 => h6 (lset_ne (by decide) e6), fun e7 => h7 (lset_ne (by decide) e7), fun e8 => h8 (lset_ne (by decide) e8), fun _ => rfl, fun e10 => h10 (lset_ne (by decide) e10), fun e11 => h11 (lset_ne (by decide) e11), fun e12 => h12 (lset_ne (by decide) e12), fun e13 => h13 (lset_ne (by decide) e13), fun e14 => h14 (lset_ne (by decide) e14), fun e17 => h17 (lset_ne (by decide) e17)⟩
    · have ho' : some _ = some o := ho
      cases ho'
      obtain ⟨hb1, hst⟩ := hB.live hi9 hl
      have hB2 := hB.step (i := 10) (by decide) (by decide) (by decide)
      unfold tuAct; go_simp
      exact ⟨u17, u18, u19, u20, u21, u22, u23, u24, u25, u26, .int .i64 (i : Int), u28, u29, u30, u31, u32, u33, u34, rfl, hB2, fun e0 => h0 (lset_ne (by decide) e0), fun e1 => h1 (lset_ne (by decide) e1), fun e2 => h2 (lset_ne (by decide) e2), fun e3 => h3 (lset_ne (by decide) e3), fun e4 => h4 (lset_ne (by decide) e4), fun e5 => h5 (lset_ne (by decide) e5), fun e6 => h6 (lset_ne (by decide) e6), fun e7 => h7 (lset_ne (by decide) e7), fun e8 => h8 (lset_ne (by decide) e8), fun e9 => h9 (lset_ne (by decide) e9), fun _ => rfl, fun e11 => h11 (lset_ne (by decide) e11), fun e12 => h12 (lset_ne (by decide) e12), fun e13 => h13 (lset_ne (by decide) e13), fun e14 => h14 (lset_ne (by decide) e14), fun e17 => h17 (lset_ne (by decide) e17)⟩
    · have ho' : some _ = some o := ho
      cases ho'
      have d9 := hd { on := 9, ground := .data } (by simp) rfl
      have d10 := hd { on := 10, ground := .data } (by simp) rfl
      obtain ⟨hb1, hst⟩ := hB.live hi9 hl
      have p2 : (0 : Int) ≤ (i : Int) := by omega
      have p3 : (i : Int) < (n : Int) := by omega
      have e9 := h9 d9
      subst e9
      have e10 := h10 d10
      subst e10
      have hB2 := hB.step (i := 11) (by decide) (by decide) (by decide)
      unfold tuAct; go_simp
      exact ⟨u17, u18, u19, u20, u21, u22, u23, u24, u25, .slice (some ⟨eb, eo, none⟩) n c, .int .i64 (i : Int), .pointer (some ⟨eb, eo + i * 21, none⟩), u29, u30, u31, u32, u33, u34, rfl, hB2, fun e0 => h0 (lset_ne (by decide) e0), fun e1 => h1 (lset_ne (by decide) e1), fun e2 => h2 (lset_ne (by decide) e2), fun e3 => h3 (lset_ne (by decide) e3), fun e4 => h4 (lset_ne (by decide) e4), fun e5 => h5 (lset_ne (by decide) e5), fun e6 => h6 (lset_ne (by decide) e6), fun e7 => h7 (lset_ne (by decide) e7), fun e8 => h8 (lset_ne (by decide) e8), fun e9 => h9 (lset_ne (by decide) e9), fun e10 => h10 (lset_ne (by decide) e10), fun _ => rfl, fun e12 => h12 (lset_ne (by decide) e12), fun e13 => h13 (lset_ne (by decide) e13), fun e14 => h14 (lset_ne (by decide) e14), fun e17 => h17 (lset_ne (by decide) e17)⟩
    · have ho' : some _ = some o := ho
      cases ho'
      have d11 := hd { on := 11, ground := .data } (by simp) rfl
      obtain ⟨hb1, hst⟩ := hB.live hi9 hl
      have e11 := h11 d11
      subst e11
      have hB2 := hB.step (i := 12) (by decide) (by decide) (by decide)
      unfold tuAct; go_simp
      exact ⟨u17, u18, u19, u20, u21, u22, u23, u24, u25, u26, u27, .pointer (some ⟨eb, eo + i * 21, none⟩), .pointer (some ⟨eb, eo + i * 21, none⟩), u30, u31, u32, u33, u34, rfl, hB2, fun e0 => h0 (lset_ne (by decide) e0), fun e1 => h1 (lset_ne (by decide) e1), fun e2 => h2 (lset_ne (by decide) e2), fun e3 => h3 (lset_ne (by decide) e3), fun e4 => h4 (lset_ne (by decide) e4), fun e5 => h5 (lset_ne (by decide) e5), fun e6 => h6 (lset_ne (by decide) e6), fun e7 => h7 (lset_ne (by decide) e7), fun e8 => h8 (lset_ne (by decide) e8), fun e9 => h9 (lset_ne (by decide) e9), fun e10 => h10 (lset_ne (by decide) e10), fun e11 => h11 (lset_ne (by decide) e11), fun _ => rfl, fun e13 => h13 (lset_ne (by decide) e13), fun e14 => h14 (lset_ne (by decide) e14), fun e17 => h17 (lset_ne (by decide) e17)⟩
    · have ho' : some _ = some o := ho
      cases ho'
      have d12 := hd { on := 12, ground := .data } (by simp) rfl
      obtain ⟨hb1, hst⟩ := hB.live hi9 hl
      have c1 : w.cell? ⟨eb, eo + i * 21, none⟩ = some (.int .i64 f) := (hb1.cell (p := ⟨eb, eo + i * 21, none⟩) heb (fun e => (hGn _ e).2.2 rfl)).trans hef
      have e12 := h12 d12
      subst e12
      have hB2 := hB.step (i := 13) (by decide) (by decide) (by decide)
      unfold tuAct; go_simp
      exact ⟨u17, u18, u19, u20, u21, u22, u23, u24, u25, u26, u27, u28, .pointer (some ⟨eb, eo + i * 21, none⟩), .int .i64 f, u31, u32, u33, u34, rfl, hB2, fun e0 => h0 (lset_ne (by decide) e0), fun e1 => h1 (lset_ne (by decide) e1), fun e2 => h2 (lset_ne (by decide) e2), fun e3 => h3 (lset_ne (by decide) e3), fun e4 => h4 (lset_ne (by decide) e4), fun e5 => h5 (lset_ne (by decide) e5), fun e6 => h6 (lset_ne (by decide) e6), fun e7 => h7 (lset_ne (by decide) e7), fun e8 => h8 (lset_ne (by decide) e8), fun e9 => h9 (lset_ne (by decide) e9), fun e10 => h10 (lset_ne (by decide) e10), fun e11 => h11 (lset_ne (by decide) e11), fun e12 => h12 (lset_ne (by decide) e12), fun _ => rfl, fun e14 => h14 (lset_ne (by decide) e14), fun e17 => h17 (lset_ne (by decide) e17)⟩
    · have ho' : some _ = some o := ho
      cases ho'
      have d7 := hd { on := 7, ground := .data } (by simp) rfl
      have d13 := hd { on := 13, ground := .data } (by simp) rfl
      obtain ⟨hb1, hst⟩ := hB.live hi9 hl
      have e7 := h7 d7
      subst e7
      have e13 := h13 d13
      subst e13
      have hB2 := hB.step (i := 14) (by decide) (by decide) (by decide)
      unfold tuAct; go_simp
      exact ⟨u17, u18, u19, u20, u21, u22, u23, .int .i64 t, u25, u26, u27, u28, u29, .int .i64 f, .agg #[.int .i64 t, .int .i64 f, .int .i64 0, .int .i64 0, .int .i64 0, .int .i64 0, .int .i64 0, .int .i64 0, .int .i64 0, .string ⟨#[]⟩, .int .i64 0, .slice none 0 0, .int .i64 0, .string ⟨#[]⟩, .int .i64 0, .slice none 0 0, .int .i64 0, .slice none 0 0, .slice none 0 0, .slice none 0 0, .slice none 0 0], u32, u33, u34, rfl, hB2, fun e0 => h0 (lset_ne (by decide) e0), fun e1 => h1 (lset_ne (by decide) e1), fun e2 => h2 (lset_ne (by decide) e2), fun e3 => h3 (lset_ne (by decide) e3), fun e4 => h4 (lset_ne (by decide) e4), fun e5 => h5 (lset_ne (by decide) e5), fun e6 => h6 (lset_ne (by decide) e6), fun e7 => h7 (lset_ne (by decide) e7), fun e8 => h8 (lset_ne (by decide) e8), fun e9 => h9 (lset_ne (by decide) e9), fun e10 => h10 (lset_ne (by decide) e10), fun e11 => h11 (lset_ne (by decide) e11), fun e12 => h12 (lset_ne (by decide) e12), fun e13 => h13 (lset_ne (by decide) e13), fun _ => rfl, fun e17 => h17 (lset_ne (by decide) e17)⟩
    · have ho' : some _ = some o := ho
      cases ho'
      have d14 := hd { on := 14, ground := .data } (by simp) rfl
      rcases hB with ⟨b1, b2, b3, b4⟩ | ⟨b1, b2, b3, b4⟩ | ⟨b1, b2⟩
      rotate_left
      · exact (no_both hl b1.2.1).elim
      · exact (no_both hl (b1 15 (by decide))).elim
      have e14 := h14 d14
      subst e14
      have heB : EdAt (w.alloc (Obj.cells #[.int .i64 t, .int .i64 f, .int .i64 0, .int .i64 0, .int .i64 0, .int .i64 0, .int .i64 0, .int .i64 0, .int .i64 0, .string ⟨#[]⟩, .int .i64 0, .slice none 0 0, .int .i64 0, .string ⟨#[]⟩, .int .i64 0, .slice none 0 0, .int .i64 0, .slice none 0 0, .slice none 0 0, .slice none 0 0, .slice none 0 0] 55)) w.heap.size 0 (zE t f) := by have h := EdAt.box w (zE t f); rw [zE_cs] at h; exact h
      have hB2 : RowT lo G3 t f v L W0 (.slice (some ⟨w.heap.size, 0, none⟩) 1 1) u33 (listed.setIfInBounds 15 true) (w.alloc (Obj.cells #[.int .i64 t, .int .i64 f, .int .i64 0, .int .i64 0, .int .i64 0, .int .i64 0, .int .i64 0, .int .i64 0, .int .i64 0, .string ⟨#[]⟩, .int .i64 0, .slice none 0 0, .int .i64 0, .string ⟨#[]⟩, .int .i64 0, .slice none 0 0, .int .i64 0, .slice none 0 0, .slice none 0 0, .slice none 0 0, .slice none 0 0] 55)) := .inl ⟨by rw [getD_set_ne false (by decide)]; exact b1, by rw [getD_set_ne false (by decide)]; exact b2, b3.alloc b3.size _, fun _ => ⟨w.heap.size, rfl, by simp, heB⟩⟩
      clear heB
      unfold tuAct; go_simp
      exact ⟨u17, u18, u19, u20, u21, u22, u23, u24, u25, u26, u27, u28, u29, u30, .agg #[.int .i64 t, .int .i64 f, .int .i64 0, .int .i64 0, .int .i64 0, .int .i64 0, .int .i64 0, .int .i64 0, .int .i64 0, .string ⟨#[]⟩, .int .i64 0, .slice none 0 0, .int .i64 0, .string ⟨#[]⟩, .int .i64 0, .slice none 0 0, .int .i64 0, .slice none 0 0, .slice none 0 0, .slice none 0 0, .slice none 0 0], .slice (some ⟨w.heap.size, 0, none⟩) 1 1, u33, u34, rfl, hB2, fun e0 => h0 (lset_ne (by decide) e0), fun e1 => h1 (lset_ne (by decide) e1), fun e2 => h2 (lset_ne (by decide) e2), fun e3 => h3 (lset_ne (by decide) e3), fun e4 => h4 (lset_ne (by decide) e4), fun e5 => h5 (lset_ne (by decide) e5), fun e6 => h6 (lset_ne (by decide) e6), fun e7 => h7 (lset_ne (by decide) e7), fun e8 => h8 (lset_ne (by decide) e8), fun e9 => h9 (lset_ne (by decide) e9), fun e10 => h10 (lset_ne (by decide) e10), fun e11 => h11 (lset_ne (by decide) e11), fun e12 => h12 (lset_ne (by decide) e12), fun e13 => h13 (lset_ne (by decide) e13), fun e14 => h14 (lset_ne (by decide) e14), fun e17 => h17 (lset_ne (by decide) e17)⟩
    · have ho' : some _ = some o := ho
      cases ho'
      have d1 := hd { on := 1, ground := .data } (by simp) rfl
      have d15 := hd { on := 15, ground := .data } (by simp) rfl
      rcases hB with ⟨b1, b2, b3, b4⟩ | ⟨b1, b2, b3, b4⟩ | ⟨b1, b2⟩
      rotate_left
      · exact (no_both hl b1.1).elim
      · exact (no_both hl (b1 16 (by decide))).elim
      obtain ⟨b, hu, hbl, hbc⟩ := b4 d15
      subst hu
      have e1 := h1 d1
      have how2 := how.but (But.of_below (S := fun _ => False) b3) (fun _ _ => id)
      refine step_pushE (v := v) (lo := lo) (L := L) (d := zE t f) rfl (.tmp 18) (.tmp 32) rfl e1 how2 (by omega) (Nat.le_trans hlo b3.size) b rfl hbc ?_
      intro g cap n9 w9 hn9 h9w hg9 hgx
      subst hn9
      have hgb : g ≠ G3 := hgx.elim (fun q => (hGn _ q).1) (fun q => by have := b3.size; omega)
      have hb9 := (But.of_below (S := fun b => v.ownBlock = some b) b3).trans (But.of_grown (S := fun b => v.ownBlock = some b) hg9 (fun _ e => e)) (fun _ _ e => e)
      have hB2 : RowT lo G3 t f v L W0 (.slice (some ⟨b, 0, none⟩) 1 1) (.slice (some ⟨g, 0, none⟩) (L.length + 1) cap) (listed.setIfInBounds 16 true) w9 := .inr (.inl ⟨⟨lset_eq hs (by decide), lset_up d15, _, _, _, rfl, hgb⟩, by rw [getD_set_ne false (by decide)]; exact b2, h9w, hb9⟩)
      unfold tuAct; simp only [Act.put, List.setIfInBounds_toArray, List.set_cons_zero, List.set_cons_succ]
      exact ⟨u17, u18, u19, u20, u21, u22, u23, u24, u25, u26, u27, u28, u29, u30, u31, .slice (some ⟨b, 0, none⟩) 1 1, .slice (some ⟨g, 0, none⟩) (L.length + 1) cap, u34, rfl, hB2, fun e0 => h0 (lset_ne (by decide) e0), fun e1 => h1 (lset_ne (by decide) e1), fun e2 => h2 (lset_ne (by decide) e2), fun e3 => h3 (lset_ne (by decide) e3), fun e4 => h4 (lset_ne (by decide) e4), fun e5 => h5 (lset_ne (by decide) e5), fun e6 => h6 (lset_ne (by decide) e6), fun e7 => h7 (lset_ne (by decide) e7), fun e8 => h8 (lset_ne (by decide) e8), fun e9 => h9 (lset_ne (by decide) e9), fun e10 => h10 (lset_ne (by decide) e10), fun e11 => h11 (lset_ne (by decide) e11), fun e12 => h12 (lset_ne (by decide) e12), fun e13 => h13 (lset_ne (by decide) e13), fun e14 => h14 (lset_ne (by decide) e14), fun e17 => h17 (lset_ne (by decide) e17)⟩
    · have ho' : some _ = some o := ho
      cases ho'
      have d0 := hd { on := 0, ground := .phase } (by simp) rfl
      have d1 := hd { on := 1, ground := .phase } (by simp) rfl
      have d2 := hd { on := 2, ground := .phase } (by simp) rfl
      have d3 := hd { on := 3, ground := .phase } (by simp) rfl
      have d4 := hd { on := 4, ground := .phase } (by simp) rfl
      have d5 := hd { on := 5, ground := .phase } (by simp) rfl
      have d6 := hd { on := 6, ground := .phase } (by simp) rfl
      have d7 := hd { on := 7, ground := .phase } (by simp) rfl
      have d8 := hd { on := 8, ground := .phase } (by simp) rfl
      have d9 := hd { on := 9, ground := .phase } (by simp) rfl
      have d10 := hd { on := 10, ground := .phase } (by simp) rfl
      have d11 := hd { on := 11, ground := .phase } (by simp) rfl
      have d12 := hd { on := 12, ground := .phase } (by simp) rfl
      have d13 := hd { on := 13, ground := .phase } (by simp) rfl
      have d14 := hd { on := 14, ground := .phase } (by simp) rfl
      have d15 := hd { on := 15, ground := .phase } (by simp) rfl
      have d16 := hd { on := 16, ground := .phase } (by simp) rfl
      obtain ⟨hb1, hst⟩ := hB.live hi9 hl
      have e0 := h0 d0
      subst e0
      have e1 := (h1 d1).symm
      subst e1
      have e2 := h2 d2
      subst e2
      have e3 := h3 d3
      subst e3
      have e4 := h4 d4
      subst e4
      have e5 := h5 d5
      subst e5
      have e6 := h6 d6
      subst e6
      have e7 := h7 d7
      subst e7
      have e8 := h8 d8
      subst e8
      have e9 := h9 d9
      subst e9
      have e10 := h10 d10
      subst e10
      have e11 := h11 d11
      subst e11
      have e12 := h12 d12
      subst e12
      have e13 := h13 d13
      subst e13
      have e14 := h14 d14
      subst e14
      have hB2 := hB.step (i := 17) (by decide) (by decide) (by decide)
      unfold tuAct; go_simp
      exact ⟨.pointer (some ⟨G3, 2, none⟩), v, .pointer (some ⟨G, 2, none⟩), .slice (some ⟨eb, eo, none⟩) n c, .int .i64 (i : Int), .pointer (some ⟨eb, eo + i * 21, none⟩), .pointer (some ⟨eb, eo + i * 21 + 1, none⟩), .int .i64 t, .pointer (some ⟨G, 2, none⟩), .slice (some ⟨eb, eo, none⟩) n c, .int .i64 (i : Int), .pointer (some ⟨eb, eo + i * 21, none⟩), .pointer (some ⟨eb, eo + i * 21, none⟩), .int .i64 f, .agg #[.int .i64 t, .int .i64 f, .int .i64 0, .int .i64 0, .int .i64 0, .int .i64 0, .int .i64 0, .int .i64 0, .int .i64 0, .string ⟨#[]⟩, .int .i64 0, .slice none 0 0, .int .i64 0, .string ⟨#[]⟩, .int .i64 0, .slice none 0 0, .int .i64 0, .slice none 0 0, .slice none 0 0, .slice none 0 0, .slice none 0 0], u32, u33, .pointer (some ⟨G3, 2, none⟩), rfl, hB2, fun e0 => h0 (lset_ne (by decide) e0), fun e1 => h1 (lset_ne (by decide) e1), fun e2 => h2 (lset_ne (by decide) e2), fun e3 => h3 (lset_ne (by decide) e3), fun e4 => h4 (lset_ne (by decide) e4), fun e5 => h5 (lset_ne (by decide) e5), fun e6 => h6 (lset_ne (by decide) e6), fun e7 => h7 (lset_ne (by decide) e7), fun e8 => h8 (lset_ne (by decide) e8), fun e9 => h9 (lset_ne (by decide) e9), fun e10 => h10 (lset_ne (by decide) e10), fun e11 => h11 (lset_ne (by decide) e11), fun e12 => h12 (lset_ne (by decide) e12), fun e13 => h13 (lset_ne (by decide) e13), fun e14 => h14 (lset_ne (by decide) e14), fun _ => rfl⟩
    · have ho' : some _ = some o := ho
      cases ho'
      have d17 := hd { on := 17, ground := .data } (by simp) rfl
      have d16 := hd { on := 16, ground := .data } (by simp) rfl
      have d16 := hd { on := 16, ground := .chain } (by simp) rfl
      have d0 := hd { on := 0, ground := .phase } (by simp) rfl
      have d1 := hd { on := 1, ground := .phase } (by simp) rfl
      have d2 := hd { on := 2, ground := .phase } (by simp) rfl
      have d3 := hd { on := 3, ground := .phase } (by simp) rfl
      have d4 := hd { on := 4, ground := .phase } (by simp) rfl
      have d5 := hd { on := 5, ground := .phase } (by simp) rfl
      have d6 := hd { on := 6, ground := .phase } (by simp) rfl
      have d7 := hd { on := 7, ground := .phase } (by simp) rfl
      have d8 := hd { on := 8, ground := .phase } (by simp) rfl
      have d9 := hd { on := 9, ground := .phase } (by simp) rfl
      have d10 := hd { on := 10, ground := .phase } (by simp) rfl
      have d11 := hd { on := 11, ground := .phase } (by simp) rfl
      have d12 := hd { on := 12, ground := .phase } (by simp) rfl
      have d13 := hd { on := 13, ground := .phase } (by simp) rfl
      have d14 := hd { on := 14, ground := .phase } (by simp) rfl
      have d15 := hd { on := 15, ground := .phase } (by simp) rfl
      have d16 := hd { on := 16, ground := .phase } (by simp) rfl
      obtain ⟨hb1, hst⟩ := hB.live hi9 hl
      have c2 : w.cell? ⟨G3, 2, none⟩ = some v := (hb1.cell (p := ⟨G3, 2, none⟩) hG3 (fun e => (hGn _ e).1 rfl)).trans hv
      have c3 : w.frozen? ⟨G3, 2, none⟩ = false := (hb1.frozen (p := ⟨G3, 2, none⟩) hG3 (fun e => (hGn _ e).1 rfl)).trans hvf
      rcases hB with ⟨b1, b2, b3, b4⟩ | ⟨b1, b2, b3, b4⟩ | ⟨b1, b2⟩
      · rw [b1] at d16; cases d16
      rotate_left
      · exact (no_both hl (b1 18 (by decide))).elim
      obtain ⟨-, -, g, ng, cg, hu, hgb⟩ := b1
      subst hu
      have e0 := h0 d0
      subst e0
      have e1 := (h1 d1).symm
      subst e1
      have e2 := h2 d2
      subst e2
      have e3 := h3 d3
      subst e3
      have e4 := h4 d4
      subst e4
      have e5 := h5 d5
      subst e5
      have e6 := h6 d6
      subst e6
      have e7 := h7 d7
      subst e7
      have e8 := h8 d8
      subst e8
      have e9 := h9 d9
      subst e9
      have e10 := h10 d10
      subst e10
      have e11 := h11 d11
      subst e11
      have e12 := h12 d12
      subst e12
      have e13 := h13 d13
      subst e13
      have e14 := h14 d14
      subst e14
      have e17 := h17 d17
      subst e17
      have hB2 : RowT lo G3 t f v L W0 u32 (.slice (some ⟨g, 0, none⟩) ng cg) (listed.setIfInBounds 18 true) (w.setCell ⟨G3, 2, none⟩ (.slice (some ⟨g, 0, none⟩) ng cg)) := .inr (.inr ⟨fun j hj => (by rcases (show j = 0 ∨ j = 1 ∨ j = 2 ∨ j = 3 ∨ j = 4 ∨ j = 5 ∨ j = 6 ∨ j = 7 ∨ j = 8 ∨ j = 9 ∨ j = 10 ∨ j = 11 ∨ j = 12 ∨ j = 13 ∨ j = 14 ∨ j = 15 ∨ j = 16 ∨ j = 17 ∨ j = 18 by omega) with rfl | rfl | rfl | rfl | rfl | rfl | rfl | rfl | rfl | rfl | rfl | rfl | rfl | rfl | rfl | rfl | rfl | rfl | rfl <;> first | exact lset_eq hs (by decide) | exact lset_up (by assumption)), EOwn.but b3 (But.set (S := fun b => b = G3) (But.refl _ w) ⟨G3, 2, none⟩ _ (fun _ => rfl)) (fun b e q => by cases e; exact hgb q), cellSet c2 _, ⟨_, _, _, rfl, hgb⟩, w, b4, rfl⟩)
      clear b3 b4
      unfold tuAct; go_simp
      exact ⟨.pointer (some ⟨G3, 2, none⟩), v, .pointer (some ⟨G, 2, none⟩), .slice (some ⟨eb, eo, none⟩) n c, .int .i64 (i : Int), .pointer (some ⟨eb, eo + i * 21, none⟩), .pointer (some ⟨eb, eo + i * 21 + 1, none⟩), .int .i64 t, .pointer (some ⟨G, 2, none⟩), .slice (some ⟨eb, eo, none⟩) n c, .int .i64 (i : Int), .pointer (some ⟨eb, eo + i * 21, none⟩), .pointer (some ⟨eb, eo + i * 21, none⟩), .int .i64 f, .agg #[.int .i64 t, .int .i64 f, .int .i64 0, .int .i64 0, .int .i64 0, .int .i64 0, .int .i64 0, .int .i64 0, .int .i64 0, .string ⟨#[]⟩, .int .i64 0, .slice none 0 0, .int .i64 0, .string ⟨#[]⟩, .int .i64 0, .slice none 0 0, .int .i64 0, .slice none 0 0, .slice none 0 0, .slice none 0 0, .slice none 0 0], u32, .slice (some ⟨g, 0, none⟩) ng cg, .pointer (some ⟨G3, 2, none⟩), rfl, hB2, fun e0 => h0 (lset_ne (by decide) e0), fun e1 => h1 (lset_ne (by decide) e1), fun e2 => h2 (lset_ne (by decide) e2), fun e3 => h3 (lset_ne (by decide) e3), fun e4 => h4 (lset_ne (by decide) e4), fun e5 => h5 (lset_ne (by decide) e5), fun e6 => h6 (lset_ne (by decide) e6), fun e7 => h7 (lset_ne (by decide) e7), fun e8 => h8 (lset_ne (by decide) e8), fun e9 => h9 (lset_ne (by decide) e9), fun e10 => h10 (lset_ne (by decide) e10), fun e11 => h11 (lset_ne (by decide) e11), fun e12 => h12 (lset_ne (by decide) e12), fun e13 => h13 (lset_ne (by decide) e13), fun e14 => h14 (lset_ne (by decide) e14), fun e17 => h17 (lset_ne (by decide) e17)⟩
  · rintro listed a w ⟨u17, u18, u19, u20, u21, u22, u23, u24, u25, u26, u27, u28, u29, u30, u31, u32, u33, u34, rfl, hB, h0, h1, h2, h3, h4, h5, h6, h7, h8, h9, h10, h11, h12, h13, h14, h17⟩ hall
    exact hQ _ _ _ _ _ _ _ _ _ _ _ _ _ _ _ _ _ _ w (hB.elim (fun h => absurd h.2.1 (by rw [hall 18 (by decide)]; decide)) (fun h => h.elim (fun h => absurd h.2.1 (by rw [hall 18 (by decide)]; decide)) (fun h => h.2))) (h0 (hall 0 (by decide))) (h1 (hall 1 (by decide))) (h2 (hall 2 (by decide))) (h3 (hall 3 (by decide))) (h4 (hall 4 (by decide))) (h5 (hall 5 (by decide))) (h6 (hall 6 (by decide))) (h7 (hall 7 (by decide))) (h8 (hall 8 (by decide))) (h9 (hall 9 (by decide))) (h10 (hall 10 (by decide))) (h11 (hall 11 (by decide))) (h12 (hall 12 (by decide))) (h13 (hall 13 (by decide))) (h14 (hall 14 (by decide))) (h17 (hall 17 (by decide)))
end Go.Proofs.Ytjjkabgbcflipaa
