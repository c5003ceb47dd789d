import Derived.Test.YtjjkabgbcflipaaCu18
set_option linter.unusedSimpArgs false
set_option linter.unusedVariables false
namespace Go.Proofs.Ytjjkabgbcflipaa
open Go Go.Proofs Go.RowKit GM

/-- The worlds in which the steps of the region run: nothing is appended yet; appended, not yet stored; stored. -/
def RowL (lo LB P s : Nat) (f : Int) (vs : List Value) (ls : List (List Int)) (W0 : World) (u32 u33 : Value) (listed : Array Bool) (w : World) : Prop :=
  (listed.getD 18 false = false ∧ listed.getD 20 false = false ∧ Below W0.heap.size W0 w ∧ (listed.getD 17 false = true → C0 w u32 f)) ∨
  ((listed.getD 18 false = true ∧ listed.getD 17 false = true ∧ ∃ g n c, u33 = .slice (some ⟨g, 0, none⟩) n c) ∧ listed.getD 20 false = false ∧ LvAt lo (w.setCell ⟨LB, s, none⟩ u33) LB P (vs.set s u33) (ls.set s (ls.getD s [] ++ [f])) ∧ But (fun b => (vs.getD s nilS).ownBlock = some b) W0 w) ∨
  ((∀ j, j < 21 → listed.getD j false = true) ∧ LvAt lo w LB P (vs.set s u33) (ls.set s (ls.getD s [] ++ [f])) ∧ But (fun b => (vs.getD s nilS).ownBlock = some b ∨ b = LB) W0 w)
theorem RowL.live {lo LB P s : Nat} {f : Int} {vs : List Value} {ls : List (List Int)} {W0 w : World} {u32 u33 : Value} {listed : Array Bool} {i : Nat} (h : RowL lo LB P s f vs ls W0 u32 u33 listed w) (hi : i < 21) (hl : listed.getD i true = false) :
    But (fun b => (vs.getD s nilS).ownBlock = some b) W0 w ∧ listed.getD 20 false = false := by
  rcases h with ⟨-, h2, h3, -⟩ | ⟨-, h2, -, h3⟩ | ⟨h1, -⟩
  · exact ⟨But.of_below h3, h2⟩
  · exact ⟨h3, h2⟩
  · exact (no_both hl (h1 i hi)).elim
theorem RowL.step {lo LB P s : Nat} {f : Int} {vs : List Value} {ls : List (List Int)} {W0 w : World} {u32 u33 : Value} {listed : Array Bool} {i : Nat} (h : RowL lo LB P s f vs ls W0 u32 u33 listed w) (h10 : i ≠ 17) (h11 : i ≠ 18) (h13 : i ≠ 20) :
    RowL lo LB P s f vs ls W0 u32 u33 (listed.setIfInBounds i true) w := by
  rcases h with ⟨h1, h2, h3, h4⟩ | ⟨h1, h2, h3, h4⟩ | ⟨h1, h2, h3⟩
  · exact .inl ⟨by rw [getD_set_ne false h11]; exact h1, by rw [getD_set_ne false h13]; exact h2, h3, fun e => h4 (lset_ne h10 e)⟩
  · exact .inr (.inl ⟨⟨lset_up h1.1, lset_up h1.2.1, h1.2.2⟩, by rw [getD_set_ne false h13]; exact h2, h3, h4⟩)
  · exact .inr (.inr ⟨fun j hj => lset_up (h1 j hj), h2, h3⟩)
def rlAct (LB P G i : Nat) (q0 q2 q5 q6 q7 q8 q9 q10 q11 q12 q13 q14 q35 u15 u16 u17 u18 u19 u20 u21 u22 u23 u24 u25 u26 u27 u28 u29 u30 u31 u32 u33 u34 : Value) : Act :=
  { tmps := #[q0, .pointer (some ⟨G, 0, none⟩), q2, .slice (some ⟨LB, 0, none⟩) P P, .int .i64 (i : Int), q5, q6, q7, q8, q9, q10, q11, q12, q13, q14, u15, u16, u17, u18, u19, u20, u21, u22, u23, u24, u25, u26, u27, u28, u29, u30, u31, u32, u33, u34, q35], defers := [] }
def rlI (lo LB P s G eb eo n c i : Nat) (vs : List Value) (ls : List (List Int)) (q0 q2 q5 q6 q7 q8 q9 q10 q11 q12 q13 q14 q35 : Value) (W0 : World) (listed : Array Bool) (a : Act) (w : World) : Prop :=
  ∃ u15 u16 u17 u18 u19 u20 u21 u22 u23 u24 u25 u26 u27 u28 u29 u30 u31 u32 u33 u34, a = rlAct LB P G i q0 q2 q5 q6 q7 q8 q9 q10 q11 q12 q13 q14 q35 u15 u16 u17 u18 u19 u20 u21 u22 u23 u24 u25 u26 u27 u28 u29 u30 u31 u32 u33 u34 ∧ RowL lo LB P s (i : Int) vs ls W0 u32 u33 listed w ∧
    (listed.getD 0 false = true → u15 = .slice (some ⟨LB, 0, none⟩) P P) ∧
    (listed.getD 1 false = true → u16 = .pointer (some ⟨G, 2, none⟩)) ∧
    (listed.getD 2 false = true → u17 = .slice (some ⟨eb, eo, none⟩) n c) ∧
    (listed.getD 3 false = true → u18 = .int .i64 (i : Int)) ∧
    (listed.getD 4 false = true → u19 = .pointer (some ⟨eb, eo + i * 21, none⟩)) ∧
    (listed.getD 5 false = true → u20 = .pointer (some ⟨eb, eo + i * 21, none⟩)) ∧
    (listed.getD 6 false = true → u21 = .int .i64 (s : Int)) ∧
    (listed.getD 7 false = true → u22 = .slice (some ⟨LB, 0, none⟩) P P) ∧
    (listed.getD 8 false = true → u23 = .pointer (some ⟨G, 2, none⟩)) ∧
    (listed.getD 9 false = true → u24 = .slice (some ⟨eb, eo, none⟩) n c) ∧
    (listed.getD 10 false = true → u25 = .int .i64 (i : Int)) ∧
    (listed.getD 11 false = true → u26 = .pointer (some ⟨eb, eo + i * 21, none⟩)) ∧
    (listed.getD 12 false = true → u27 = .pointer (some ⟨eb, eo + i * 21, none⟩)) ∧
    (listed.getD 13 false = true → u28 = .int .i64 (s : Int)) ∧
    (listed.getD 14 false = true → u29 = .pointer (some ⟨LB, s, none⟩)) ∧
    (listed.getD 15 false = true → u30 = vs.getD s nilS) ∧
    (listed.getD 16 false = true → u31 = .int .i64 (i : Int)) ∧
    (listed.getD 19 false = true → u34 = .pointer (some ⟨LB, s, none⟩))
set_option maxRecDepth 20000 in
set_option maxHeartbeats 4000000 in
theorem rl_region (lo LB P s G eb eo n c i : Nat) (vs : List Value) (ls : List (List Int)) (q0 q2 q5 q6 q7 q8 q9 q10 q11 q12 q13 q14 q35 : Value) (W0 : World) (i15 i16 i17 i18 i19 i20 i21 i22 i23 i24 i25 i26 i27 i28 i29 i30 i31 i32 i33 i34 : Value) (hsP : s < P) (hP : P ≤ 512) (hrow : (ls.getD s []).length ≤ 100000) (hin : i < n) (hn : n ≤ 1024) (hG : G < W0.heap.size) (hG2 : W0.cell? ⟨G, 2, none⟩ = some (.slice (some ⟨eb, eo, none⟩) n c)) (heb : eb < W0.heap.size) (hes : W0.cell? ⟨eb, eo + i * 21, none⟩ = some (.int .i64 (s : Int))) (hlv : LvAt lo W0 LB P vs ls) (hlo : lo ≤ W0.heap.size) (hnG : G < lo) (hne : eb < lo) {Q : Exit → Act → World → Prop}
    (hQ : ∀ u15 u16 u17 u18 u19 u20 u21 u22 u23 u24 u25 u26 u27 u28 u29 u30 u31 u32 u33 u34 w, LvAt lo w LB P (vs.set s u33) (ls.set s (ls.getD s [] ++ [(i : Int)])) ∧ But (fun b => (vs.getD s nilS).ownBlock = some b ∨ b = LB) W0 w → (u15 = .slice (some ⟨LB, 0, none⟩) P P) → (u16 = .pointer (some ⟨G, 2, none⟩)) → (u17 = .slice (some ⟨eb, eo, none⟩) n c) → (u18 = .int .i64 (i : Int)) → (u19 = .pointer (some ⟨eb, eo + i * 21, none⟩)) → (u20 = .pointer (some ⟨eb, eo + i * 21, none⟩)) → (u21 = .int .i64 (s : Int)) → (u22 = .slice (some ⟨LB, 0, none⟩) P P) → (u23 = .pointer (some ⟨G, 2, none⟩)) → (u24 = .slice (some ⟨eb, eo, none⟩) n c) → (u25 = .int .i64 (i : Int)) → (u26 = .pointer (some ⟨eb, eo + i * 21, none⟩)) → (u27 = .pointer (some ⟨eb, eo + i * 21, none⟩)) → (u28 = .int .i64 (s : Int)) → (u29 = .pointer (some ⟨LB, s, none⟩)) → (u30 = vs.getD s nilS) → (u31 = .int .i64 (i : Int)) → (u34 = .pointer (some ⟨LB, s, none⟩)) → Q .normal (rlAct LB P G i q0 q2 q5 q6 q7 q8 q9 q10 q11 q12 q13 q14 q35 u15 u16 u17 u18 u19 u20 u21 u22 u23 u24 u25 u26 u27 u28 u29 u30 u31 u32 u33 u34) w) :
    (Code.region 5 #[{ dst := some 15, op := Op.move (Operand.tmp 3), type := 27, pos := "ref.go:35", after := #[], guard := none }, { dst := some 16, op := Op.fieldAddr 24 (Operand.tmp 1) 2, type := 0, pos := "ref.go:35", after := #[], guard := none }, { dst := some 17, op := Op.load 22 (Operand.tmp 16), type := 22, pos := "ref.go:35", after := #[{ on := 1, ground := Ground.data }], guard := none }, { dst := some 18, op := Op.move (Operand.tmp 4), type := 3, pos := "ref.go:35", after := #[], guard := none }, { dst := some 19, op := Op.indexAddr 22 (Operand.tmp 17) (Operand.tmp 18), type := 0, pos := "ref.go:35", after := #[{ on := 2, ground := Ground.data }, { on := 3, ground := Ground.data }], guard := none }, { dst := some 20, op := Op.fieldAddr 55 (Operand.tmp 19) 0, type := 0, pos := "ref.go:35", after := #[{ on := 4, ground := Ground.data }], guard := none }, { dst := some 21, op := Op.load 3 (Operand.tmp 20), type := 3, pos := "ref.go:35", after := #[{ on := 5, ground := Ground.data }], guard := none }, { dst := some 22, op := Op.move (Operand.tmp 3), type := 27, pos := "ref.go:35", after := #[], guard := none }, { dst := some 23, op := Op.fieldAddr 24 (Operand.tmp 1) 2, type := 0, pos := "ref.go:35", after := #[], guard := none }, { dst := some 24, op := Op.load 22 (Operand.tmp 23), type := 22, pos := "ref.go:35", after := #[{ on := 8, ground := Ground.data }], guard := none }, { dst := some 25, op := Op.move (Operand.tmp 4), type := 3, pos := "ref.go:35", after := #[], guard := none }, { dst := some 26, op := Op.indexAddr 22 (Operand.tmp 24) (Operand.tmp 25), type := 0, pos := "ref.go:35", after := #[{ on := 9, ground := Ground.data }, { on := 10, ground := Ground.data }], guard := none }, { dst := some 27, op := Op.fieldAddr 55 (Operand.tmp 26) 0, type := 0, pos := "ref.go:35", after := #[{ on := 11, ground := Ground.data }], guard := none }, { dst := some 28, op := Op.load 3 (Operand.tmp 27), type := 3, pos := "ref.go:35", after := #[{ on := 12, ground := Ground.data }], guard := none }, { dst := some 29, op := Op.indexAddr 27 (Operand.tmp 22) (Operand.tmp 28), type := 0, pos := "ref.go:35", after := #[{ on := 7, ground := Ground.data }, { on := 13, ground := Ground.data }], guard := none }, { dst := some 30, op := Op.load 51 (Operand.tmp 29), type := 51, pos := "ref.go:35", after := #[{ on := 14, ground := Ground.data }], guard := none }, { dst := some 31, op := Op.move (Operand.tmp 4), type := 3, pos := "ref.go:35", after := #[], guard := none }, { dst := some 32, op := Op.buildSlice 51 1 #[(0, Operand.tmp 31)], type := 51, pos := "ref.go:35", after := #[{ on := 16, ground := Ground.data }], guard := none }, { dst := some 33, op := Op.call { callee := Callee.builtin Builtin.append, args := #[Operand.tmp 30, Operand.tmp 32], argTypes := #[51, 51] }, type := 51, pos := "ref.go:35", after := #[{ on := 15, ground := Ground.data }, { on := 17, ground := Ground.data }], guard := none }, { dst := some 34, op := Op.indexAddr 27 (Operand.tmp 15) (Operand.tmp 21), type := 0, pos := "ref.go:35", after := #[{ on := 0, ground := Ground.data }, { on := 6, ground := Ground.data }, { on := 0, ground := Ground.phase }, { on := 1, ground := Ground.phase }, { on := 2, ground := Ground.phase }, { on := 3, ground := Ground.phase }, { on := 4, ground := Ground.phase }, { on := 5, ground := Ground.phase }, { on := 6, ground := Ground.phase }, { on := 7, ground := Ground.phase }, { on := 8, ground := Ground.phase }, { on := 9, ground := Ground.phase }, { on := 10, ground := Ground.phase }, { on := 11, ground := Ground.phase }, { on := 12, ground := Ground.phase }, { on := 13, ground := Ground.phase }, { on := 14, ground := Ground.phase }, { on := 15, ground := Ground.phase }, { on := 16, ground := Ground.phase }, { on := 17, ground := Ground.phase }, { on := 18, ground := Ground.phase }], guard := none }, { dst := none, op := Op.store 51 (Operand.tmp 34) (Operand.tmp 33), type := 0, pos := "ref.go:35", after := #[{ on := 19, ground := Ground.data }, { on := 18, ground := Ground.data }, { on := 18, ground := Ground.chain }, { on := 0, ground := Ground.phase }, { on := 1, ground := Ground.phase }, { on := 2, ground := Ground.phase }, { on := 3, ground := Ground.phase }, { on := 4, ground := Ground.phase }, { on := 5, ground := Ground.phase }, { on := 6, ground := Ground.phase }, { on := 7, ground := Ground.phase }, { on := 8, ground := Ground.phase }, { on := 9, ground := Ground.phase }, { on := 10, ground := Ground.phase }, { on := 11, ground := Ground.phase }, { on := 12, ground := Ground.phase }, { on := 13, ground := Ground.phase }, { on := 14, ground := Ground.phase }, { on := 15, ground := Ground.phase }, { on := 16, ground := Ground.phase }, { on := 17, ground := Ground.phase }, { on := 18, ground := Ground.phase }], guard := none }] true).wp Try.prog Q (rlAct LB P G i q0 q2 q5 q6 q7 q8 q9 q10 q11 q12 q13 q14 q35 (i15) (i16) (i17) (i18) (i19) (i20) (i21) (i22) (i23) (i24) (i25) (i26) (i27) (i28) (i29) (i30) (i31) (i32) (i33) (i34)) W0 := by
  refine wp_region_inv (by kernel_rfl) (by kernel_rfl) (rlI lo LB P s G eb eo n c i vs ls q0 q2 q5 q6 q7 q8 q9 q10 q11 q12 q13 q14 q35 W0) ?_ ?_ ?_
  · refine ⟨_, _, _, _, _, _, _, _, _, _, _, _, _, _, _, _, _, _, _, _, rfl, .inl ⟨rfl, rfl, (Below.refl _ _).drew, fun e => by simp at e⟩, ?_, ?_, ?_, ?_, ?_, ?_, ?_, ?_, ?_, ?_, ?_, ?_, ?_, ?_, ?_, ?_, ?_, ?_⟩ <;> (intro e; simp at e)
  · intro listed a w i o hI hs ho hl hd
    have hi9 : i < 21 := (Array.getElem?_eq_some_iff.1 ho).1
    obtain ⟨u15, u16, u17, u18, u19, u20, u21, u22, u23, u24, u25, u26, u27, u28, u29, u30, u31, u32, u33, u34, rfl, hB, h0, h1, h2, h3, h4, h5, h6, h7, h8, h9, h10, h11, h12, h13, h14, h15, h16, h19⟩ := hI
    rcases (show i = 0 ∨ i = 1 ∨ i = 2 ∨ i = 3 ∨ i = 4 ∨ i = 5 ∨ i = 6 ∨ i = 7 ∨ i = 8 ∨ i = 9 ∨ i = 10 ∨ i = 11 ∨ i = 12 ∨ i = 13 ∨ i = 14 ∨ i = 15 ∨ i = 16 ∨ i = 17 ∨ i = 18 ∨ i = 19 ∨ i = 20 by omega) with rfl | rfl | rfl | rfl | rfl | rfl | rfl | rfl | rfl | rfl | rfl | rfl | rfl | rfl | rfl | rfl | rfl | rfl | rfl | rfl | rfl
    · have ho' : some _ = some o := ho
      cases ho'
      have hB2 := hB.step (i := 0) (by decide) (by decide) (by decide)
      unfold rlAct; go_simp
      exact ⟨.slice (some ⟨LB, 0, none⟩) P P, u16, u17, u18, u19, u20, u21, u22, u23, u24, u25, u26, u27, u28, u29, u30, u31, u32, u33, u34, rfl, hB2, fun _ => rfl, fun e1 => h1 (lset_ne (by decide) e1), fun e2 => h2 (lset_ne (by decide) e2), fun e3 => h3 (lset_ne (by decide) e3), fun e4 => h4 (lset_ne (by decide) e4), fun e5 => h5 (lset_ne (by decide) e5), fun e6 => h6 (lset_ne (by decide) e6), fun e7 => h7 (lset_ne (by decide) e7), fun e8 => h8 (lset_ne (by decide) e8), fun e9 => h9 (lset_ne (by decide) e9), fun e10 => h10 (lset_ne (by decide) e10), fun e11 => h11 (lset_ne (by decide) e11), fun e12 => h12 (lset_ne (by decide) e12), fun e13 => h13 (lset_ne (by decide) e13), fun e14 => h14 (lset_ne (by decide) e14), fun e15 => h15 (lset_ne (by decide) e15), fun e16 => h16 (lset_ne (by decide) e16), fun e19 => h19 (lset_ne (by decide) e19)⟩
    · have ho' : some _ = some o := ho
      cases ho'
      have hB2 := hB.step (i := 1) (by decide) (by decide) (by decide)
      unfold rlAct; go_simp
      exact ⟨u15, .pointer (some ⟨G, 2, none⟩), u17, u18, u19, u20, u21, u22, u23, u24, u25, u26, u27, u28, u29, u30, u31, u32, u33, u34, rfl, hB2, fun e0 => h0 (lset_ne (by decide) e0), fun _ => rfl, fun e2 => h2 (lset_ne (by decide) e2), fun e3 => h3 (lset_ne (by decide) e3), fun e4 => h4 (lset_ne (by decide) e4), fun e5 => h5 (lset_ne (by decide) e5), fun e6 => h6 (lset_ne (by decide) e6), fun e7 => h7 (lset_ne (by decide) e7), fun e8 => h8 (lset_ne (by decide) e8), fun e9 => h9 (lset_ne (by decide) e9), fun e10 => h10 (lset_ne (by decide) e10), fun e11 => h11 (lset_ne (by decide) e11), fun e12 => h12 (lset_ne (by decide) e12), fun e13 => h13 (lset_ne (by decide) e13), fun e14 => h14 (lset_ne (by decide) e14), fun e15 => h15 (lset_ne (by decide) e15), fun e16 => h16 (lset_ne (by decide) e16), fun e19 => h19 (lset_ne (by decide) e19)⟩
    · have ho' : some _ = some o := ho
      cases ho'
      have d1 := hd { on := 1, ground := .data } (by simp) rfl
      obtain ⟨hb1, hst⟩ := hB.live hi9 hl
      have hLn : ¬ (vs.getD s nilS).ownBlock = some LB := fun e => by have := ((hlv.row s hsP).lt e).1; have := hlv.low; omega
      have c0 : w.cell? ⟨G, 2, none⟩ = some (.slice (some ⟨eb, eo, none⟩) n c) := (hb1.cell (p := ⟨G, 2, none⟩) hG (fun e => by have := ((hlv.row s hsP).lt e).1; dsimp only at this; omega)).trans hG2
      have e1 := h1 d1
      subst e1
      have hB2 := hB.step (i := 2) (by decide) (by decide) (by decide)
      unfold rlAct; go_simp
      exact ⟨u15, .pointer (some ⟨G, 2, none⟩), .slice (some ⟨eb, eo, none⟩) n c, u18, u19, u20, u21, u22, u23, u24, u25, u26, u27, u28, u29, u30, u31, u32, u33, u34, rfl, hB2, fun e0 => h0 (lset_ne (by decide) e0), fun e1 => h1 (lset_ne (by decide) e1), fun _ => rfl, fun e3 => h3 (lset_ne (by decide) e3), fun e4 => h4 (lset_ne (by decide) e4), fun e5 => h5 (lset_ne (by decide) e5), fun e6 => h6 (lset_ne (by decide) e6), fun e7 => h7 (lset_ne (by decide) e7), fun e8 => h8 (lset_ne (by decide) e8), fun e9 => h9 (lset_ne (by decide) e9), fun e10 => h10 (lset_ne (by decide) e10), fun e11 => h11 (lset_ne (by decide) e11), fun e12 => h12 (lset_ne (by decide) e12), fun e13 => h13 (lset_ne (by decide) e13), fun e14 => h14 (lset_ne (by decide) e14), fun e15 => h15 (lset_ne (by decide) e15), fun e16 => h16 (lset_ne (by decide) e16), fun e19 => h19 (lset_ne (by decide) e19)⟩
    · have ho' : some _ = some o := ho
      cases ho'
      have hB2 := hB.step (i := 3) (by decide) (by decide) (by decide)
      unfold rlAct; go_simp
      exact ⟨u15, u16, u17, .int .i64 (i : Int), u19, u20, u21, u22, u23, u24, u25, u26, u27, u28, u29, u30, u31, u32, u33, u34, rfl, hB2, fun e0 => h0 (lset_ne (by decide) e0), fun e1 => h1 (lset_ne (by decide) e1), fun e2 => h2 (lset_ne (by decide) e2), fun _ => rfl, fun e4 => h4 (lset_ne (by decide) e4), fun e5 => h5 (lset_ne (by decide) e5), fun e6 => h6 (lset_ne (by decide) e6), fun e7 => h7 (lset_ne (by decide) e7), fun e8 => h8 (lset_ne (by decide) e8), fun e9 => h9 (lset_ne (by decide) e9), fun e10 => h10 (lset_ne (by decide) e10), fun e11 => h11 (lset_ne (by decide) e11), fun e12 => h12 (lset_ne (by decide) e12), fun e13 => h13 (lset_ne (by decide) e13), fun e14 => h14 (lset_ne (by decide) e14), fun e15 => h15 (lset_ne (by decide) e15), fun e16 => h16 (lset_ne (by decide) e16), fun e19 => h19 (lset_ne (by decide) e19)⟩
    · have ho' : some _ = some o := ho
      cases ho'
      have d2 := hd { on := 2, ground := .data } (by simp) rfl
      have d3 := hd { on := 3, ground := .data } (by simp) rfl
      have p2 : (0 : Int) ≤ (i : Int) := by omega
      have p3 : (i : Int) < (n : Int) := by omega
      have e2 := h2 d2
      subst e2
      have e3 := h3 d3
      subst e3
      have hB2 := hB.step (i := 4) (by decide) (by decide) (by decide)
      unfold rlAct; go_simp
      exact ⟨u15, u16, .slice (some ⟨eb, eo, none⟩) n c, .int .i64 (i : Int), .pointer (some ⟨eb, eo + i * 21, none⟩), u20, u21, u22, u23, u24, u25, u26, u27, u28, u29, u30, u31, u32, u33, u34, rfl, hB2, fun e0 => h0 (lset_ne (by decide) e0), fun e1 => h1 (lset_ne (by decide) e1), fun e2 => h2 (lset_ne (by decide) e2), fun e3 => h3 (lset_ne (by decide) e3), fun _ => rfl, fun e5 => h5 (lset_ne (by decide) e5), fun e6 => h6 (lset_ne (by decide) e6), fun e7 => h7 (lset_ne (by decide) e7), fun e8 => h8 (lset_ne (by decide) e8), fun e9 => h9 (lset_ne (by decide) e9), fun e10 => h10 (lset_ne (by decide) e10), fun e11 => h11 (lset_ne (by decide) e11), fun e12 => h12 (lset_ne (by decide) e12), fun e13 => h13 (lset_ne (by decide) e13), fun e14 => h14 (lset_ne (by decide) e14), fun e15 => h15 (lset_ne (by decide) e15), fun e16 => h16 (lset_ne (by decide) e16), fun e19 => h19 (lset_ne (by decide) e19)⟩
    · have ho' : some _ = some o := ho
      cases ho'
      have d4 := hd { on := 4, ground := .data } (by simp) rfl
      have e4 := h4 d4
      subst e4
      have hB2 := hB.step (i := 5) (by decide) (by decide) (by decide)
      unfold rlAct; go_simp
      exact ⟨u15, u16, u17, u18, .pointer (some ⟨eb, eo + i * 21, none⟩), .pointer (some ⟨eb, eo + i * 21, none⟩), u21, u22, u23, u24, u25, u26, u27, u28, u29, u30, u31, u32, u33, u34, rfl, hB2, fun e0 => h0 (lset_ne (by decide) e0), fun e1 => h1 (lset_ne (by decide) e1), fun e2 => h2 (lset_ne (by decide) e2), fun e3 => h3 (lset_ne (by decide) e3), fun e4 => h4 (lset_ne (by decide) e4), fun _ => rfl, fun e6 => h6 (lset_ne (by decide) e6), fun e7 => h7 (lset_ne (by decide) e7), fun e8 => h8 (lset_ne (by decide) e8), fun e9 => h9 (lset_ne (by decide) e9), fun e10 => h10 (lset_ne (by decide) e10), fun e11 => h11 (lset_ne (by decide) e11), fun e12 => h12 (lset_ne (by decide) e12), fun e13 => h13 (lset_ne (by decide) e13), fun e14 => h14 (lset_ne (by decide) e14), fun e15 => h15 (lset_ne (by decide) e15), fun e16 => h16 (lset_ne (by decide) e16), fun e19 => h19 (lset_ne (by decide) e19)⟩
    · have ho' : some _ = some o := ho
      cases ho'
      have d5 := hd { on := 5, ground := .data } (by simp) rfl
      obtain ⟨hb1, hst⟩ := hB.live hi9 hl
      have hLn : ¬ (vs.getD s nilS).ownBlock = some LB := fun e => by have := ((hlv.row s hsP).lt e).1; have := hlv.low; omega
      have c1 : w.cell? ⟨eb, eo + i * 21, none⟩ = some (.int .i64 (s : Int)) := (hb1.cell (p := ⟨eb, eo + i * 21, none⟩) heb (fun e => by have := ((hlv.row s hsP).lt e).1; dsimp only at this; omega)).trans hes
      have e5 := h5 d5
      subst e5
      have hB2 := hB.step (i := 6) (by decide) (by decide) (by decide)
      unfold rlAct; go_simp
      exact ⟨u15, u16, u17, u18, u19, .pointer (some ⟨eb, eo + i * 21, none⟩), .int .i64 (s : Int), u22, u23, u24, u25, u26, u27, u28, u29, u30, u31, u32, u33, u34, rfl, hB2, fun e0 => h0 (lset_ne (by decide) e0), fun e1 => h1 (lset_ne (by decide) e1), fun e2 => h2 (lset_ne (by decide) e2), fun e3 => h3 (lset_ne (by decide) e3), fun e4 => h4 (lset_ne (by decide) e4), fun e5 => h5 (lset_ne (by decide) e5), fun _ => rfl, fun e7 => h7 (lset_ne (by decide) e7), fun e8 => h8 (lset_ne (by decide) e8), fun e9 => h9 (lset_ne (by decide) e9), fun e10 => h10 (lset_ne (by decide) e10), fun e11 => h11 (lset_ne (by decide) e11), fun e12 => h12 (lset_ne (by decide) e12), fun e13 => h13 (lset_ne (by decide) e13), fun e14 => h14 (lset_ne (by decide) e14), fun e15 => h15 (lset_ne (by decide) e15), fun e16 => h16 (lset_ne (by decide) e16), fun e19 => h19 (lset_ne (by decide) e19)⟩
    · have ho' : some _ = some o := ho
      cases ho'
      have hB2 := hB.step (i := 7) (by decide) (by decide) (by decide)
      unfold rlAct; go_simp
      exact ⟨u15, u16, u17, u18, u19, u20, u21, .slice (some ⟨LB, 0, none⟩) P P, u23, u24, u25, u26, u27, u28, u29, u30, u31, u32, u33, u34, rfl, hB2, fun e0 => h0 (lset_ne (by decide) e0), fun e1 => h1 (lset_ne (by decide) e1), fun e2 => h2 (lset_ne (by decide) e2), fun e3 => h3 (lset_ne (by decide) e3), fun e4 => h4 (lset_ne (by decide) e4), fun e5 => h5 (lset_ne (by decide) e5), fun e6 => h6 (lset_ne (by decide) e6), fun _ => rfl, fun e8 => h8 (lset_ne (by decide) e8), fun e9 => h9 (lset_ne (by decide) e9), fun e10 => h10 (lset_ne (by decide) e10), fun e11 => h11 (lset_ne (by decide) e11), fun e12 => h12 (lset_ne (by decide) e12), fun e13 => h13 (lset_ne (by decide) e13), fun e14 => h14 (lset_ne (by decide) e14), fun e15 => h15 (lset_ne (by decide) e15), fun e16 => h16 (lset_ne (by decide) e16), fun e19 => h19 (lset_ne (by decide) e19)⟩
    · have ho' : some _ = some o := ho
      cases ho'
      have hB2 := hB.step (i := 8) (by decide) (by decide) (by decide)
      unfold rlAct; go_simp
      exact ⟨u15, u16, u17, u18, u19, u20, u21, u22, .pointer (some ⟨G, 2, none⟩), u24, u25, u26, u27, u28, u29, u30, u31, u32, u33, u34, rfl, hB2, fun e0 => h0 (lset_ne (by decide) e0), fun e1 => h1 (lset_ne (by decide) e1), fun e2 => h2 (lset_ne (by decide) e2), fun e3 => h3 (lset_ne (by decide) e3), fun e4 => h4 (lset_ne (by decide) e4), fun e5 => h5 (lset_ne (by decide) e5), fun e6 => h6 (lset_ne (by decide) e6), fun e7 => h7 (lset_ne (by decide) e7), fun _ => rfl, fun e9 => h9 (lset_ne (by decide) e9), fun e10 => h10 (lset_ne (by decide) e10), fun e11 => h11 (lset_ne (by decide) e11), fun e12 => h12 (lset_ne (by decide) e12), fun e13 => h13 (lset_ne (by decide) e13), fun e14 => h14 (lset_ne (by decide) e14), fun e15 => h15 (lset_ne (by decide) e15), fun e16 => h16 (lset_ne (by decide) e16), fun e19 => h19 (lset_ne (by decide) e19)⟩
    · have ho' : some _ = some o := ho
      cases ho'
      have d8 := hd { on := 8, ground := .data } (by simp) rfl
      obtain ⟨hb1, hst⟩ := hB.live hi9 hl
      have hLn : ¬ (vs.getD s nilS).ownBlock = some LB := fun e => by have := ((hlv.row s hsP).lt e).1; have := hlv.low; omega
      have c0 : w.cell? ⟨G, 2, none⟩ = some (.slice (some ⟨eb, eo, none⟩) n c) := (hb1.cell (p := ⟨G, 2, none⟩) hG (fun e => by have := ((hlv.row s hsP).lt e).1; dsimp only at this; omega)).trans hG2
      have e8 := h8 d8
      subst e8
      have hB2 := hB.step (i := 9) (by decide) (by decide) (by decide)
      unfold rlAct; go_simp
      exact ⟨u15, u16, u17, u18, u19, u20, u21, u22, .pointer (some ⟨G, 2, none⟩), .slice (some ⟨eb, eo, none⟩) n c, u25, u26, u27, u28, u29, u30, u31, u32, u33, u34, rfl, hB2, fun e0 => h0 (lset_ne (by decide) e0), fun e1 => h1 (lset_ne (by decide) e1), fun e2 => h2 (lset_ne (by decide) e2), fun e3 => h3 (lset_ne (by decide) e3), fun e4 => h4 (lset_ne (by decide) e4), fun e5 => h5 (lset_ne (by decide) e5), fun e6 => h6 (lset_ne (by decide) e6), fun e7 => h7 (lset_ne (by decide) e7), fun e8 => h8 (lset_ne (by decide) e8), fun _ => rfl, fun e10 => h10 (lset_ne (by decide) e10), fun e11 => h11 (lset_ne (by decide) e11), fun e12 => h12 (lset_ne (by decide) e12), fun e13 => h13 (lset_ne (by decide) e13), fun e14 => h14 (lset_ne (by decide) e14), fun e15 => h15 (lset_ne (by decide) e15), fun e16 => h16 (lset_ne (by decide) e16), fun e19 => h19 (lset_ne (by decide) e19)⟩
    · have ho' : some _ = some o := ho
      cases ho'
      have hB2 := hB.step (i := 10) (by decide) (by decide) (by decide)
      unfold rlAct; go_simp
      exact ⟨u15, u16, u17, u18, u19, u20, u21, u22, u23, u24, .int .i64 (i : Int), u26, u27, u28, u29, u30, u31, u32, u33, u34, rfl, hB2, fun e0 => h0 (lset_ne (by decide) e0), fun e1 => h1 (lset_ne (by decide) e1), fun e2 => h2 (lset_ne (by decide) e2), fun e3 => h3 (lset_ne (by decide) e3), fun e4 => h4 (lset_ne (by decide) e4), fun e5 => h5 (lset_ne (by decide) e5), fun e6 => h6 (lset_ne (by decide) e6), fun e7 => h7 (lset_ne (by decide) e7), fun e8 => h8 (lset_ne (by decide) e8), fun e9 => h9 (lset_ne (by decide) e9), fun _ => rfl, fun e11 => h11 (lset_ne (by decide) e11), fun e12 => h12 (lset_ne (by decide) e12), fun e13 => h13 (lset_ne (by decide) e13), fun e14 => h14 (lset_ne (by decide) e14), fun e15 => h15 (lset_ne (by decide) e15), fun e16 => h16 (lset_ne (by decide) e16), fun e19 => h19 (lset_ne (by decide) e19)⟩
    · have ho' : some _ = some o := ho
      cases ho'
      have d9 := hd { on := 9, ground := .data } (by simp) rfl
      have d10 := hd { on := 10, ground := .data } (by simp) rfl
      have p2 : (0 : Int) ≤ (i : Int) := by omega
      have p3 : (i : Int) < (n : Int) := by omega
      have e9 := h9 d9
      subst e9
      have e10 := h10 d10
      subst e10
      have hB2 := hB.step (i := 11) (by decide) (by decide) (by decide)
      unfold rlAct; go_simp
      exact ⟨u15, u16, u17, u18, u19, u20, u21, u22, u23, .slice (some ⟨eb, eo, none⟩) n c, .int .i64 (i : Int), .pointer (some ⟨eb, eo + i * 21, none⟩), u27, u28, u29, u30, u31, u32, u33, u34, rfl, hB2, fun e0 => h0 (lset_ne (by decide) e0), fun e1 => h1 (lset_ne (by decide) e1), fun e2 => h2 (lset_ne (by decide) e2), fun e3 => h3 (lset_ne (by decide) e3), fun e4 => h4 (lset_ne (by decide) e4), fun e5 => h5 (lset_ne (by decide) e5), fun e6 => h6 (lset_ne (by decide) e6), fun e7 => h7 (lset_ne (by decide) e7), fun e8 => h8 (lset_ne (by decide) e8), fun e9 => h9 (lset_ne (by decide) e9), fun e10 => h10 (lset_ne (by decide) e10), fun _ => rfl, fun e12 => h12 (lset_ne (by decide) e12), fun e13 => h13 (lset_ne (by decide) e13), fun e14 => h14 (lset_ne (by decide) e14), fun e15 => h15 (lset_ne (by decide) e15), fun e16 => h16 (lset_ne (by decide) e16), fun e19 => h19 (lset_ne (by decide) e19)⟩
    · have ho' : some _ = some o := ho
      cases ho'
      have d11 := hd { on := 11, ground := .data } (by simp) rfl
      have e11 := h11 d11
      subst e11
      have hB2 := hB.step (i := 12) (by decide) (by decide) (by decide)
      unfold rlAct; go_simp
      exact ⟨u15, u16, u17, u18, u19, u20, u21, u22, u23, u24, u25, .pointer (some ⟨eb, eo + i * 21, none⟩), .pointer (some ⟨eb, eo + i * 21, none⟩), u28, u29, u30, u31, u32, u33, u34, rfl, hB2, fun e0 => h0 (lset_ne (by decide) e0), fun e1 => h1 (lset_ne (by decide) e1), fun e2 => h2 (lset_ne (by decide) e2), fun e3 => h3 (lset_ne (by decide) e3), fun e4 => h4 (lset_ne (by decide) e4), fun e5 => h5 (lset_ne (by decide) e5), fun e6 => h6 (lset_ne (by decide) e6), fun e7 => h7 (lset_ne (by decide) e7), fun e8 => h8 (lset_ne (by decide) e8), fun e9 => h9 (lset_ne (by decide) e9), fun e10 => h10 (lset_ne (by decide) e10), fun e11 => h11 (lset_ne (by decide) e11), fun _ => rfl, fun e13 => h13 (lset_ne (by decide) e13), fun e14 => h14 (lset_ne (by decide) e14), fun e15 => h15 (lset_ne (by decide) e15), fun e16 => h16 (lset_ne (by decide) e16), fun e19 => h19 (lset_ne (by decide) e19)⟩
    · have ho' : some _ = some o := ho
      cases ho'
      have d12 := hd { on := 12, ground := .data } (by simp) rfl
      obtain ⟨hb1, hst⟩ := hB.live hi9 hl
      have hLn : ¬ (vs.getD s nilS).ownBlock = some LB := fun e => by have := ((hlv.row s hsP).lt e).1; have := hlv.low; omega
      have c1 : w.cell? ⟨eb, eo + i * 21, none⟩ = some (.int .i64 (s : Int)) := (hb1.cell (p := ⟨eb, eo + i * 21, none⟩) heb (fun e => by have := ((hlv.row s hsP).lt e).1; dsimp only at this; omega)).trans hes
      have e12 := h12 d12
      subst e12
      have hB2 := hB.step (i := 13) (by decide) (by decide) (by decide)
      unfold rlAct; go_simp
      exact ⟨u15, u16, u17, u18, u19, u20, u21, u22, u23, u24, u25, u26, .pointer (some ⟨eb, eo + i * 21, none⟩), .int .i64 (s : Int), u29, u30, u31, u32, u33, u34, rfl, hB2, fun e0 => h0 (lset_ne (by decide) e0), fun e1 => h1 (lset_ne (by decide) e1), fun e2 => h2 (lset_ne (by decide) e2), fun e3 => h3 (lset_ne (by decide) e3), fun e4 => h4 (lset_ne (by decide) e4), fun e5 => h5 (lset_ne (by decide) e5), fun e6 => h6 (lset_ne (by decide) e6), fun e7 => h7 (lset_ne (by decide) e7), fun e8 => h8 (lset_ne (by decide) e8), fun e9 => h9 (lset_ne (by decide) e9), fun e10 => h10 (lset_ne (by decide) e10), fun e11 => h11 (lset_ne (by decide) e11), fun e12 => h12 (lset_ne (by decide) e12), fun _ => rfl, fun e14 => h14 (lset_ne (by decide) e14), fun e15 => h15 (lset_ne (by decide) e15), fun e16 => h16 (lset_ne (by decide) e16), fun e19 => h19 (lset_ne (by decide) e19)⟩
    · have ho' : some _ = some o := ho
      cases ho'
      have d7 := hd { on := 7, ground := .data } (by simp) rfl
      have d13 := hd { on := 13, ground := .data } (by simp) rfl
      have p0 : (0 : Int) ≤ (s : Int) := by omega
      have p1 : (s : Int) < (P : Int) := by omega
      have e7 := h7 d7
      subst e7
      have e13 := h13 d13
      subst e13
      have hB2 := hB.step (i := 14) (by decide) (by decide) (by decide)
      unfold rlAct; go_simp
      exact ⟨u15, u16, u17, u18, u19, u20, u21, .slice (some ⟨LB, 0, none⟩) P P, u23, u24, u25, u26, u27, .int .i64 (s : Int), .pointer (some ⟨LB, s, none⟩), u30, u31, u32, u33, u34, rfl, hB2, fun e0 => h0 (lset_ne (by decide) e0), fun e1 => h1 (lset_ne (by decide) e1), fun e2 => h2 (lset_ne (by decide) e2), fun e3 => h3 (lset_ne (by decide) e3), fun e4 => h4 (lset_ne (by decide) e4), fun e5 => h5 (lset_ne (by decide) e5), fun e6 => h6 (lset_ne (by decide) e6), fun e7 => h7 (lset_ne (by decide) e7), fun e8 => h8 (lset_ne (by decide) e8), fun e9 => h9 (lset_ne (by decide) e9), fun e10 => h10 (lset_ne (by decide) e10), fun e11 => h11 (lset_ne (by decide) e11), fun e12 => h12 (lset_ne (by decide) e12), fun e13 => h13 (lset_ne (by decide) e13), fun _ => rfl, fun e15 => h15 (lset_ne (by decide) e15), fun e16 => h16 (lset_ne (by decide) e16), fun e19 => h19 (lset_ne (by decide) e19)⟩
    · have ho' : some _ = some o := ho
      cases ho'
      have d14 := hd { on := 14, ground := .data } (by simp) rfl
      obtain ⟨hb1, hst⟩ := hB.live hi9 hl
      have hLn : ¬ (vs.getD s nilS).ownBlock = some LB := fun e => by have := ((hlv.row s hsP).lt e).1; have := hlv.low; omega
      have c2 : w.cell? ⟨LB, s, none⟩ = some (vs.getD s nilS) := (hb1.cell (p := ⟨LB, s, none⟩) hlv.lt hLn).trans (hlv.tab s hsP)
      clear hLn
      generalize hrv : vs.getD s nilS = rv at *
      have e14 := h14 d14
      subst e14
      have hB2 := hB.step (i := 15) (by decide) (by decide) (by decide)
      unfold rlAct; go_simp
      exact ⟨u15, u16, u17, u18, u19, u20, u21, u22, u23, u24, u25, u26, u27, u28, .pointer (some ⟨LB, s, none⟩), rv, u31, u32, u33, u34, rfl, hB2, fun e0 => h0 (lset_ne (by decide) e0), fun e1 => h1 (lset_ne (by decide) e1), fun e2 => h2 (lset_ne (by decide) e2), fun e3 => h3 (lset_ne (by decide) e3), fun e4 => h4 (lset_ne (by decide) e4), fun e5 => h5 (lset_ne (by decide) e5), fun e6 => h6 (lset_ne (by decide) e6), fun e7 => h7 (lset_ne (by decide) e7), fun e8 => h8 (lset_ne (by decide) e8), fun e9 => h9 (lset_ne (by decide) e9), fun e10 => h10 (lset_ne (by decide) e10), fun e11 => h11 (lset_ne (by decide) e11), fun e12 => h12 (lset_ne (by decide) e12), fun e13 => h13 (lset_ne (by decide) e13), fun e14 => h14 (lset_ne (by decide) e14), fun _ => hrv.symm, fun e16 => h16 (lset_ne (by decide) e16), fun e19 => h19 (lset_ne (by decide) e19)⟩
    · have ho' : some _ = some o := ho
      cases ho'
      have hB2 := hB.step (i := 16) (by decide) (by decide) (by decide)
      unfold rlAct; go_simp
      exact ⟨u15, u16, u17, u18, u19, u20, u21, u22, u23, u24, u25, u26, u27, u28, u29, u30, .int .i64 (i : Int), u32, u33, u34, rfl, hB2, fun e0 => h0 (lset_ne (by decide) e0), fun e1 => h1 (lset_ne (by decide) e1), fun e2 => h2 (lset_ne (by decide) e2), fun e3 => h3 (lset_ne (by decide) e3), fun e4 => h4 (lset_ne (by decide) e4), fun e5 => h5 (lset_ne (by decide) e5), fun e6 => h6 (lset_ne (by decide) e6), fun e7 => h7 (lset_ne (by decide) e7), fun e8 => h8 (lset_ne (by decide) e8), fun e9 => h9 (lset_ne (by decide) e9), fun e10 => h10 (lset_ne (by decide) e10), fun e11 => h11 (lset_ne (by decide) e11), fun e12 => h12 (lset_ne (by decide) e12), fun e13 => h13 (lset_ne (by decide) e13), fun e14 => h14 (lset_ne (by decide) e14), fun e15 => h15 (lset_ne (by decide) e15), fun _ => rfl, fun e19 => h19 (lset_ne (by decide) e19)⟩
    · have ho' : some _ = some o := ho
      cases ho'
      have d16 := hd { on := 16, ground := .data } (by simp) rfl
      rcases hB with ⟨b1, b2, b3, b4⟩ | ⟨b1, b2, b3, b4⟩ | ⟨b1, b2⟩
      rotate_left
      · exact (no_both hl b1.2.1).elim
      · exact (no_both hl (b1 17 (by decide))).elim
      have e16 := h16 d16
      subst e16
      have hB2 : RowL lo LB P s (i : Int) vs ls W0 (.slice (some ⟨w.heap.size, 0, none⟩) 1 1) u33 (listed.setIfInBounds 17 true) (w.alloc (Obj.cells #[.int .i64 (i : Int)] 3)) := .inl ⟨by rw [getD_set_ne false (by decide)]; exact b1, by rw [getD_set_ne false (by decide)]; exact b2, b3.alloc b3.size _, fun _ => ⟨w.heap.size, rfl, by simp, by go_cell⟩⟩
      unfold rlAct; go_simp
      exact ⟨u15, u16, u17, u18, u19, u20, u21, u22, u23, u24, u25, u26, u27, u28, u29, u30, .int .i64 (i : Int), .slice (some ⟨w.heap.size, 0, none⟩) 1 1, u33, u34, rfl, hB2, fun e0 => h0 (lset_ne (by decide) e0), fun e1 => h1 (lset_ne (by decide) e1), fun e2 => h2 (lset_ne (by decide) e2), fun e3 => h3 (lset_ne (by decide) e3), fun e4 => h4 (lset_ne (by decide) e4), fun e5 => h5 (lset_ne (by decide) e5), fun e6 => h6 (lset_ne (by decide) e6), fun e7 => h7 (lset_ne (by decide) e7), fun e8 => h8 (lset_ne (by decide) e8), fun e9 => h9 (lset_ne (by decide) e9), fun e10 => h10 (lset_ne (by decide) e10), fun e11 => h11 (lset_ne (by decide) e11), fun e12 => h12 (lset_ne (by decide) e12), fun e13 => h13 (lset_ne (by decide) e13), fun e14 => h14 (lset_ne (by decide) e14), fun e15 => h15 (lset_ne (by decide) e15), fun e16 => h16 (lset_ne (by decide) e16), fun e19 => h19 (lset_ne (by decide) e19)⟩
    · have ho' : some _ = some o := ho
      cases ho'
      have d15 := hd { on := 15, ground := .data } (by simp) rfl
      have d17 := hd { on := 17, ground := .data } (by simp) rfl
      rcases hB with ⟨b1, b2, b3, b4⟩ | ⟨b1, b2, b3, b4⟩ | ⟨b1, b2⟩
      rotate_left
      · exact (no_both hl b1.1).elim
      · exact (no_both hl (b1 18 (by decide))).elim
      obtain ⟨b, hu, hbl, hbc⟩ := b4 d17
      subst hu
      have e15 := h15 d15
      subst e15
      have how := (hlv.row s hsP).below' b3 (fun b e => ((hlv.row s hsP).lt e).2)
      refine step_pushI (v := vs.getD s nilS) (lo := lo) (l := ls.getD s []) rfl (.tmp 30) (.tmp 32) rfl rfl how (by omega) (Nat.le_trans hlo b3.size) b (i : Int) rfl hbc ?_
      intro g cap n w9 hn h9w hg9 hgg
      subst hn
      have hlv2 := (hlv.but (S := fun _ => False) (But.of_below b3) id (fun _ _ _ _ => id)).push hsP h9w hg9 hgg
      have hb9 := (But.of_below (S := fun b => (vs.getD s nilS).ownBlock = some b) b3).trans (But.of_grown (S := fun b => (vs.getD s nilS).ownBlock = some b) hg9 (fun _ e => e)) (fun _ _ e => e)
      have hB2 : RowL lo LB P s (i : Int) vs ls W0 (.slice (some ⟨b, 0, none⟩) 1 1) (.slice (some ⟨g, 0, none⟩) ((ls.getD s []).length + 1) cap) (listed.setIfInBounds 18 true) w9 := .inr (.inl ⟨⟨lset_eq hs (by decide), lset_up d17, _, _, _, rfl⟩, by rw [getD_set_ne false (by decide)]; exact b2, hlv2, hb9⟩)
      unfold rlAct; simp only [Act.put, List.setIfInBounds_toArray, List.set_cons_zero, List.set_cons_succ]
      exact ⟨u15, u16, u17, u18, u19, u20, u21, u22, u23, u24, u25, u26, u27, u28, u29, vs.getD s nilS, u31, .slice (some ⟨b, 0, none⟩) 1 1, .slice (some ⟨g, 0, none⟩) ((ls.getD s []).length + 1) cap, u34, rfl, hB2, fun e0 => h0 (lset_ne (by decide) e0), fun e1 => h1 (lset_ne (by decide) e1), fun e2 => h2 (lset_ne (by decide) e2), fun e3 => h3 (lset_ne (by decide) e3), fun e4 => h4 (lset_ne (by decide) e4), fun e5 => h5 (lset_ne (by decide) e5), fun e6 => h6 (lset_ne (by decide) e6), fun e7 => h7 (lset_ne (by decide) e7), fun e8 => h8 (lset_ne (by decide) e8), fun e9 => h9 (lset_ne (by decide) e9), fun e10 => h10 (lset_ne (by decide) e10), fun e11 => h11 (lset_ne (by decide) e11), fun e12 => h12 (lset_ne (by decide) e12), fun e13 => h13 (lset_ne (by decide) e13), fun e14 => h14 (lset_ne (by decide) e14), fun e15 => h15 (lset_ne (by decide) e15), fun e16 => h16 (lset_ne (by decide) e16), fun e19 => h19 (lset_ne (by decide) e19)⟩
    · have ho' : some _ = some o := ho
      cases ho'
      have d0 := hd { on := 0, ground := .data } (by simp) rfl
      have d6 := hd { on := 6, ground := .data } (by simp) rfl
      have d0 := hd { on := 0, ground := .phase } (by simp) rfl
      have d1 := hd { on := 1, ground := .phase } (by simp) rfl
      have d2 := hd { on := 2, ground := .phase } (by simp) rfl
      have d3 := hd { on := 3, ground := .phase } (by simp) rfl
      have d4 := hd { on := 4, ground := .phase } (by simp) rfl
      have d5 := hd { on := 5, ground := .phase } (by simp) rfl
      have d6 := hd { on := 6, ground := .phase } (by simp) rfl
      have d7 := hd { on := 7, ground := .phase } (by simp) rfl
      have d8 := hd { on := 8, ground := .phase } (by simp) rfl
      have d9 := hd { on := 9, ground := .phase } (by simp) rfl
      have d10 := hd { on := 10, ground := .phase } (by simp) rfl
      have d11 := hd { on := 11, ground := .phase } (by simp) rfl
      have d12 := hd { on := 12, ground := .phase } (by simp) rfl
      have d13 := hd { on := 13, ground := .phase } (by simp) rfl
      have d14 := hd { on := 14, ground := .phase } (by simp) rfl
      have d15 := hd { on := 15, ground := .phase } (by simp) rfl
      have d16 := hd { on := 16, ground := .phase } (by simp) rfl
      have d17 := hd { on := 17, ground := .phase } (by simp) rfl
      have d18 := hd { on := 18, ground := .phase } (by simp) rfl
      have p0 : (0 : Int) ≤ (s : Int) := by omega
      have p1 : (s : Int) < (P : Int) := by omega
      have e0 := h0 d0
      subst e0
      have e1 := h1 d1
      subst e1
      have e2 := h2 d2
      subst e2
      have e3 := h3 d3
      subst e3
      have e4 := h4 d4
      subst e4
      have e5 := h5 d5
      subst e5
      have e6 := h6 d6
      subst e6
      have e7 := h7 d7
      subst e7
      have e8 := h8 d8
      subst e8
      have e9 := h9 d9
      subst e9
      have e10 := h10 d10
      subst e10
      have e11 := h11 d11
      subst e11
      have e12 := h12 d12
      subst e12
      have e13 := h13 d13
      subst e13
      have e14 := h14 d14
      subst e14
      have e15 := h15 d15
      subst e15
      have e16 := h16 d16
      subst e16
      generalize hrv : vs.getD s nilS = rv at *
      have hB2 := hB.step (i := 19) (by decide) (by decide) (by decide)
      unfold rlAct; go_simp
      exact ⟨.slice (some ⟨LB, 0, none⟩) P P, .pointer (some ⟨G, 2, none⟩), .slice (some ⟨eb, eo, none⟩) n c, .int .i64 (i : Int), .pointer (some ⟨eb, eo + i * 21, none⟩), .pointer (some ⟨eb, eo + i * 21, none⟩), .int .i64 (s : Int), .slice (some ⟨LB, 0, none⟩) P P, .pointer (some ⟨G, 2, none⟩), .slice (some ⟨eb, eo, none⟩) n c, .int .i64 (i : Int), .pointer (some ⟨eb, eo + i * 21, none⟩), .pointer (some ⟨eb, eo + i * 21, none⟩), .int .i64 (s : Int), .pointer (some ⟨LB, s, none⟩), rv, .int .i64 (i : Int), u32, u33, .pointer (some ⟨LB, s, none⟩), rfl, hB2, fun e0 => h0 (lset_ne (by decide) e0), fun e1 => h1 (lset_ne (by decide) e1), fun e2 => h2 (lset_ne (by decide) e2), fun e3 => h3 (lset_ne (by decide) e3), fun e4 => h4 (lset_ne (by decide) e4), fun e5 => h5 (lset_ne (by decide) e5), fun e6 => h6 (lset_ne (by decide) e6), fun e7 => h7 (lset_ne (by decide) e7), fun e8 => h8 (lset_ne (by decide) e8), fun e9 => h9 (lset_ne (by decide) e9), fun e10 => h10 (lset_ne (by decide) e10), fun e11 => h11 (lset_ne (by decide) e11), fun e12 => h12 (lset_ne (by decide) e12), fun e13 => h13 (lset_ne (by decide) e13), fun e14 => h14 (lset_ne (by decide) e14), fun _ => hrv.symm, fun e16 => h16 (lset_ne (by decide) e16), fun _ => rfl⟩
    · have ho' : some _ = some o := ho
      cases ho'
      have d19 := hd { on := 19, ground := .data } (by simp) rfl
      have d18 := hd { on := 18, ground := .data } (by simp) rfl
      have d18 := hd { on := 18, ground := .chain } (by simp) rfl
      have d0 := hd { on := 0, ground := .phase } (by simp) rfl
      have d1 := hd { on := 1, ground := .phase } (by simp) rfl
      have d2 := hd { on := 2, ground := .phase } (by simp) rfl
      have d3 := hd { on := 3, ground := .phase } (by simp) rfl
      have d4 := hd { on := 4, ground := .phase } (by simp) rfl
      have d5 := hd { on := 5, ground := .phase } (by simp) rfl
      have d6 := hd { on := 6, ground := .phase } (by simp) rfl
      have d7 := hd { on := 7, ground := .phase } (by simp) rfl
      have d8 := hd { on := 8, ground := .phase } (by simp) rfl
      have d9 := hd { on := 9, ground := .phase } (by simp) rfl
      have d10 := hd { on := 10, ground := .phase } (by simp) rfl
      have d11 := hd { on := 11, ground := .phase } (by simp) rfl
      have d12 := hd { on := 12, ground := .phase } (by simp) rfl
      have d13 := hd { on := 13, ground := .phase } (by simp) rfl
      have d14 := hd { on := 14, ground := .phase } (by simp) rfl
      have d15 := hd { on := 15, ground := .phase } (by simp) rfl
      have d16 := hd { on := 16, ground := .phase } (by simp) rfl
      have d17 := hd { on := 17, ground := .phase } (by simp) rfl
      have d18 := hd { on := 18, ground := .phase } (by simp) rfl
      obtain ⟨hb1, hst⟩ := hB.live hi9 hl
      have hLn : ¬ (vs.getD s nilS).ownBlock = some LB := fun e => by have := ((hlv.row s hsP).lt e).1; have := hlv.low; omega
      have c2 : w.cell? ⟨LB, s, none⟩ = some (vs.getD s nilS) := (hb1.cell (p := ⟨LB, s, none⟩) hlv.lt hLn).trans (hlv.tab s hsP)
      have c3 : w.frozen? ⟨LB, s, none⟩ = false := (hb1.frozen (p := ⟨LB, s, none⟩) hlv.lt hLn).trans (hlv.free s)
      rcases hB with ⟨b1, b2, b3, b4⟩ | ⟨b1, b2, b3, b4⟩ | ⟨b1, b2⟩
      · rw [b1] at d18; cases d18
      rotate_left
      · exact (no_both hl (b1 20 (by decide))).elim
      obtain ⟨-, -, g, ng, cg, hu⟩ := b1
      subst hu
      have e0 := h0 d0
      subst e0
      have e1 := h1 d1
      subst e1
      have e2 := h2 d2
      subst e2
      have e3 := h3 d3
      subst e3
      have e4 := h4 d4
      subst e4
      have e5 := h5 d5
      subst e5
      have e6 := h6 d6
      subst e6
      have e7 := h7 d7
      subst e7
      have e8 := h8 d8
      subst e8
      have e9 := h9 d9
      subst e9
      have e10 := h10 d10
      subst e10
      have e11 := h11 d11
      subst e11
      have e12 := h12 d12
      subst e12
      have e13 := h13 d13
      subst e13
      have e14 := h14 d14
      subst e14
      have e15 := h15 d15
      subst e15
      have e16 := h16 d16
      subst e16
      have e19 := h19 d19
      subst e19
      have hb9 : But (fun b => (vs.getD s nilS).ownBlock = some b ∨ b = LB) W0 (w.setCell ⟨LB, s, none⟩ (.slice (some ⟨g, 0, none⟩) ng cg)) := (b4.mono (fun _ _ e => Or.inl e)).set _ _ (fun _ => Or.inr rfl)
      have hB2 : RowL lo LB P s (i : Int) vs ls W0 u32 (.slice (some ⟨g, 0, none⟩) ng cg) (listed.setIfInBounds 20 true) (w.setCell ⟨LB, s, none⟩ (.slice (some ⟨g, 0, none⟩) ng cg)) := .inr (.inr ⟨fun j hj => (by rcases (show j = 0 ∨ j = 1 ∨ j = 2 ∨ j = 3 ∨ j = 4 ∨ j = 5 ∨ j = 6 ∨ j = 7 ∨ j = 8 ∨ j = 9 ∨ j = 10 ∨ j = 11 ∨ j = 12 ∨ j = 13 ∨ j = 14 ∨ j = 15 ∨ j = 16 ∨ j = 17 ∨ j = 18 ∨ j = 19 ∨ j = 20 by omega) with rfl | rfl | rfl | rfl | rfl | rfl | rfl | rfl | rfl | rfl | rfl | rfl | rfl | rfl | rfl | rfl | rfl | rfl | rfl | rfl | rfl; all_goals first | exact lset_eq hs (by decide) | (apply lset_up; assumption)), b3, hb9⟩)
      clear hb9 b3 b4
      generalize hrv : vs.getD s nilS = rv at *
      unfold rlAct; go_simp
      exact ⟨.slice (some ⟨LB, 0, none⟩) P P, .pointer (some ⟨G, 2, none⟩), .slice (some ⟨eb, eo, none⟩) n c, .int .i64 (i : Int), .pointer (some ⟨eb, eo + i * 21, none⟩), .pointer (some ⟨eb, eo + i * 21, none⟩), .int .i64 (s : Int), .slice (some ⟨LB, 0, none⟩) P P, .pointer (some ⟨G, 2, none⟩), .slice (some ⟨eb, eo, none⟩) n c, .int .i64 (i : Int), .pointer (some ⟨eb, eo + i * 21, none⟩), .pointer (some ⟨eb, eo + i * 21, none⟩), .int .i64 (s : Int), .pointer (some ⟨LB, s, none⟩), rv, .int .i64 (i : Int), u32, .slice (some ⟨g, 0, none⟩) ng cg, .pointer (some ⟨LB, s, none⟩), rfl, hB2, fun e0 => h0 (lset_ne (by decide) e0), fun e1 => h1 (lset_ne (by decide) e1), fun e2 => h2 (lset_ne (by decide) e2), fun e3 => h3 (lset_ne (by decide) e3), fun e4 => h4 (lset_ne (by decide) e4), fun e5 => h5 (lset_ne (by decide) e5), fun e6 => h6 (lset_ne (by decide) e6), fun e7 => h7 (lset_ne (by decide) e7), fun e8 => h8 (lset_ne (by decide) e8), fun e9 => h9 (lset_ne (by decide) e9), fun e10 => h10 (lset_ne (by decide) e10), fun e11 => h11 (lset_ne (by decide) e11), fun e12 => h12 (lset_ne (by decide) e12), fun e13 => h13 (lset_ne (by decide) e13), fun e14 => h14 (lset_ne (by decide) e14), fun _ => hrv.symm, fun e16 => h16 (lset_ne (by decide) e16), fun e19 => h19 (lset_ne (by decide) e19)⟩
  · rintro listed a w ⟨u15, u16, u17, u18, u19, u20, u21, u22, u23, u24, u25, u26, u27, u28, u29, u30, u31, u32, u33, u34, rfl, hB, h0, h1, h2, h3, h4, h5, h6, h7, h8, h9, h10, h11, h12, h13, h14, h15, h16, h19⟩ hall
    exact hQ _ _ _ _ _ _ _ _ _ _ _ _ _ _ _ _ _ _ _ _ w (hB.elim (fun h => absurd h.2.1 (by rw [hall 20 (by decide)]; decide)) (fun h => h.elim (fun h => absurd h.2.1 (by rw [hall 20 (by decide)]; decide)) (fun h => h.2))) (h0 (hall 0 (by decide))) (h1 (hall 1 (by decide))) (h2 (hall 2 (by decide))) (h3 (hall 3 (by decide))) (h4 (hall 4 (by decide))) (h5 (hall 5 (by decide))) (h6 (hall 6 (by decide))) (h7 (hall 7 (by decide))) (h8 (hall 8 (by decide))) (h9 (hall 9 (by decide))) (h10 (hall 10 (by decide))) (h11 (hall 11 (by decide))) (h12 (hall 12 (by decide))) (h13 (hall 13 (by decide))) (h14 (hall 14 (by decide))) (h15 (hall 15 (by decide))) (h16 (hall 16 (by decide))) (h19 (hall 19 (by decide)))
end Go.Proofs.Ytjjkabgbcflipaa
