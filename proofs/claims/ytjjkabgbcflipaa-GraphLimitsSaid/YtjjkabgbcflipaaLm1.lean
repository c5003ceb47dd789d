import Derived.Test.YtjjkabgbcflipaaCu27
set_option linter.unusedSimpArgs false
set_option linter.unusedVariables false
namespace Go.Proofs.Ytjjkabgbcflipaa
open Go Go.Proofs Go.RowKit Go.Shelf GM

/-- The worlds in which the steps of the region run. -/
def RowM (lo G3 : Nat) (f t : Int) (v : Value) (L : List Ed) (W0 : World) (ub ua : Value) (listed : Array Bool) (w : World) : Prop :=
  (listed.getD 11 false = false ∧ listed.getD 13 false = false ∧ Below W0.heap.size W0 w ∧ (listed.getD 10 false = true → ∃ b, ub = .slice (some ⟨b, 0, none⟩) 1 1 ∧ b < w.heap.size ∧ EdAt w b 0 (zE f t))) ∨
  ((listed.getD 11 false = true ∧ listed.getD 10 false = true ∧ ∃ g n c, ua = .slice (some ⟨g, 0, none⟩) n c ∧ g ≠ G3) ∧ listed.getD 13 false = false ∧ EOwn lo w ua (L ++ [zE f t]) ∧ But (fun b => v.ownBlock = some b) W0 w) ∨
  ((∀ j, j < 14 → listed.getD j false = true) ∧ EOwn lo w ua (L ++ [zE f t]) ∧ w.cell? ⟨G3, 2, none⟩ = some ua ∧ (∃ g n c, ua = .slice (some ⟨g, 0, none⟩) n c ∧ g ≠ G3) ∧ ∃ w', But (fun b => v.ownBlock = some b) W0 w' ∧ w = w'.setCell ⟨G3, 2, none⟩ ua)
theorem RowM.live {lo G3 : Nat} {f t : Int} {v : Value} {L : List Ed} {W0 w : World} {ub ua : Value} {listed : Array Bool} {i : Nat} (h : RowM lo G3 f t v L W0 ub ua listed w) (hi : i < 14) (hl : listed.getD i true = false) :
    But (fun b => v.ownBlock = some b) W0 w ∧ listed.getD 13 false = false := by
  rcases h with ⟨-, h2, h3, -⟩ | ⟨-, h2, -, h3⟩ | ⟨h1, -⟩
  · exact ⟨But.of_below h3, h2⟩
  · exact ⟨h3, h2⟩
  · exact (no_both hl (h1 i hi)).elim
theorem RowM.step {lo G3 : Nat} {f t : Int} {v : Value} {L : List Ed} {W0 w : World} {ub ua : Value} {listed : Array Bool} {i : Nat} (h : RowM lo G3 f t v L W0 ub ua listed w) (h10 : i ≠ 10) (h11 : i ≠ 11) (h13 : i ≠ 13) :
    RowM lo G3 f t v L W0 ub ua (listed.setIfInBounds i true) w := by
  rcases h with ⟨h1, h2, h3, h4⟩ | ⟨h1, h2, h3, h4⟩ | ⟨h1, h2, h3⟩
  · exact .inl ⟨by rw [getD_set_ne false h11]; exact h1, by rw [getD_set_ne false h13]; exact h2, h3, fun e => h4 (lset_ne h10 e)⟩
  · exact .inr (.inl ⟨⟨lset_up h1.1, lset_up h1.2.1, h1.2.2⟩, by rw [getD_set_ne false h13]; exact h2, h3, h4⟩)
  · exact .inr (.inr ⟨fun j hj => lset_up (h1 j hj), h2, h3⟩)
def lmAct (G3 m i : Nat) (q0 q1 q2 q3 q4 q8 q9 q10 q11 q12 q13 q14 q15 q16 q17 q18 q19 q20 q21 q22 q23 q24 q38 q39 q40 q41 q42 q43 q44 q45 q46 q47 q48 q49 q50 q51 q52 q53 q54 q55 q56 q57 q58 q59 q60 q61 q62 q63 q64 q65 q66 q67 q68 q69 q70 q71 q72 q73 q74 q75 q76 q77 q78 q79 q80 q81 q82 q83 u25 u26 u27 u28 u29 u30 u31 u32 u33 u34 u35 u36 u37 : Value) : Act :=
  { tmps := #[q0, q1, q2, q3, q4, .int .i64 (m : Int), .pointer (some ⟨G3, 0, none⟩), .int .i64 (i : Int), q8, q9, q10, q11, q12, q13, q14, q15, q16, q17, q18, q19, q20, q21, q22, q23, q24, u25, u26, u27, u28, u29, u30, u31, u32, u33, u34, u35, u36, u37, q38, q39, q40, q41, q42, q43, q44, q45, q46, q47, q48, q49, q50, q51, q52, q53, q54, q55, q56, q57, q58, q59, q60, q61, q62, q63, q64, q65, q66, q67, q68, q69, q70, q71, q72, q73, q74, q75, q76, q77, q78, q79, q80, q81, q82, q83], defers := [] }
def lmI (lo G3 m i : Nat) (f t : Int) (v : Value) (L : List Ed) (q0 q1 q2 q3 q4 q8 q9 q10 q11 q12 q13 q14 q15 q16 q17 q18 q19 q20 q21 q22 q23 q24 q38 q39 q40 q41 q42 q43 q44 q45 q46 q47 q48 q49 q50 q51 q52 q53 q54 q55 q56 q57 q58 q59 q60 q61 q62 q63 q64 q65 q66 q67 q68 q69 q70 q71 q72 q73 q74 q75 q76 q77 q78 q79 q80 q81 q82 q83 : Value) (W0 : World) (listed : Array Bool) (a : Act) (w : World) : Prop :=
  ∃ u25 u26 u27 u28 u29 u30 u31 u32 u33 u34 u35 u36 u37, a = lmAct G3 m i q0 q1 q2 q3 q4 q8 q9 q10 q11 q12 q13 q14 q15 q16 q17 q18 q19 q20 q21 q22 q23 q24 q38 q39 q40 q41 q42 q43 q44 q45 q46 q47 q48 q49 q50 q51 q52 q53 q54 q55 q56 q57 q58 q59 q60 q61 q62 q63 q64 q65 q66 q67 q68 q69 q70 q71 q72 q73 q74 q75 q76 q77 q78 q79 q80 q81 q82 q83 u25 u26 u27 u28 u29 u30 u31 u32 u33 u34 u35 u36 u37 ∧ RowM lo G3 f t v L W0 u35 u36 listed w ∧
    (listed.getD 0 false = true → u25 = .pointer (some ⟨G3, 2, none⟩)) ∧
    (listed.getD 1 false = true → u26 = v) ∧
    (listed.getD 2 false = true → u27 = .int .i64 (i : Int)) ∧
    (listed.getD 3 false = true → u28 = .int .i64 (m : Int)) ∧
    (listed.getD 4 false = true → u29 = .int .i64 f) ∧
    (listed.getD 5 false = true → u30 = .int .i64 (i : Int)) ∧
    (listed.getD 6 false = true → u31 = .int .i64 ((i : Int) + 1)) ∧
    (listed.getD 7 false = true → u32 = .int .i64 (m : Int)) ∧
    (listed.getD 8 false = true → u33 = .int .i64 t) ∧
    (listed.getD 9 false = true → u34 = .agg #[.int .i64 f, .int .i64 t, .int .i64 0, .int .i64 0, .int .i64 0, .int .i64 0, .int .i64 0, .int .i64 0, .int .i64 0, .string ⟨#[]⟩, .int .i64 0, .slice none 0 0, .int .i64 0, .string ⟨#[]⟩, .int .i64 0, .slice none 0 0, .int .i64 0, .slice none 0 0, .slice none 0 0, .slice none 0 0, .slice none 0 0]) ∧
    (listed.getD 12 false = true → u37 = .pointer (some ⟨G3, 2, none⟩))
set_option maxRecDepth 20000 in
set_option maxHeartbeats 4000000 in
theorem lm_region (lo G3 m i : Nat) (f t : Int) (v : Value) (L : List Ed) (q0 q1 q2 q3 q4 q8 q9 q10 q11 q12 q13 q14 q15 q16 q17 q18 q19 q20 q21 q22 q23 q24 q38 q39 q40 q41 q42 q43 q44 q45 q46 q47 q48 q49 q50 q51 q52 q53 q54 q55 q56 q57 q58 q59 q60 q61 q62 q63 q64 q65 q66 q67 q68 q69 q70 q71 q72 q73 q74 q75 q76 q77 q78 q79 q80 q81 q82 q83 : Value) (W0 : World) (i25 i26 i27 i28 i29 i30 i31 i32 i33 i34 i35 i36 i37 : Value) (hL : L.length ≤ 2000) (hm0 : 0 < m) (hm : m ≤ 1000) (hi : i ≤ 2000) (hf : Hid (f = ((i % m : Nat) : Int))) (ht : Hid (t = (((i + 1) % m : Nat) : Int))) (hG3 : G3 < W0.heap.size) (hGn : ∀ b, v.ownBlock = some b → b ≠ G3) (hv : W0.cell? ⟨G3, 2, none⟩ = some v) (hvf : W0.frozen? ⟨G3, 2, none⟩ = false) (how : EOwn lo W0 v L) (hlo : lo ≤ W0.heap.size) {Q : Exit → Act → World → Prop}
    (hQ : ∀ u25 u26 u27 u28 u29 u30 u31 u32 u33 u34 u35 u36 u37 w, (EOwn lo w u36 (L ++ [zE f t]) ∧ w.cell? ⟨G3, 2, none⟩ = some u36 ∧ (∃ g n c, u36 = .slice (some ⟨g, 0, none⟩) n c ∧ g ≠ G3) ∧ ∃ w', But (fun b => v.ownBlock = some b) W0 w' ∧ w = w'.setCell ⟨G3, 2, none⟩ u36) → (u25 = .pointer (some ⟨G3, 2, none⟩)) → (u26 = v) → (u27 = .int .i64 (i : Int)) → (u28 = .int .i64 (m : Int)) → (u29 = .int .i64 f) → (u30 = .int .i64 (i : Int)) → (u31 = .int .i64 ((i : Int) + 1)) → (u32 = .int .i64 (m : Int)) → (u33 = .int .i64 t) → (u34 = .agg #[.int .i64 f, .int .i64 t, .int .i64 0, .int .i64 0, .int .i64 0, .int .i64 0, .int .i64 0, .int .i64 0, .int .i64 0, .string ⟨#[]⟩, .int .i64 0, .slice none 0 0, .int .i64 0, .string ⟨#[]⟩, .int .i64 0, .slice none 0 0, .int .i64 0, .slice none 0 0, .slice none 0 0, .slice none 0 0, .slice none 0 0]) → (u37 = .pointer (some ⟨G3, 2, none⟩)) → Q .normal (lmAct G3 m i q0 q1 q2 q3 q4 q8 q9 q10 q11 q12 q13 q14 q15 q16 q17 q18 q19 q20 q21 q22 q23 q24 q38 q39 q40 q41 q42 q43 q44 q45 q46 q47 q48 q49 q50 q51 q52 q53 q54 q55 q56 q57 q58 q59 q60 q61 q62 q63 q64 q65 q66 q67 q68 q69 q70 q71 q72 q73 q74 q75 q76 q77 q78 q79 q80 q81 q82 q83 u25 u26 u27 u28 u29 u30 u31 u32 u33 u34 u35 u36 u37) w) :
    (Code.region 7 #[{ dst := some 25, op := Op.fieldAddr 24 (Operand.tmp 6) 2, type := 0, pos := "law.go:61", after := #[], guard := none }, { dst := some 26, op := Op.load 22 (Operand.tmp 25), type := 22, pos := "law.go:61", after := #[{ on := 0, ground := Ground.data }], guard := none }, { dst := some 27, op := Op.move (Operand.tmp 7), type := 3, pos := "law.go:61", after := #[], guard := none }, { dst := some 28, op := Op.move (Operand.tmp 5), type := 3, pos := "law.go:61", after := #[], guard := none }, { dst := some 29, op := Op.binOp BinOp.rem 3 (Operand.tmp 27) (Operand.tmp 28) 3, type := 3, pos := "law.go:61", after := #[{ on := 2, ground := Ground.data }, { on := 3, ground := Ground.data }], guard := none }, { dst := some 30, op := Op.move (Operand.tmp 7), type := 3, pos := "law.go:61", after := #[], guard := none }, { dst := some 31, op := Op.binOp BinOp.add 3 (Operand.tmp 30) (Operand.const (Value.int IntKind.i64 1)) 3, type := 3, pos := "law.go:61", after := #[{ on := 5, ground := Ground.data }], guard := none }, { dst := some 32, op := Op.move (Operand.tmp 5), type := 3, pos := "law.go:61", after := #[], guard := none }, { dst := some 33, op := Op.binOp BinOp.rem 3 (Operand.tmp 31) (Operand.tmp 32) 3, type := 3, pos := "law.go:61", after := #[{ on := 6, ground := Ground.data }, { on := 7, ground := Ground.data }], guard := none }, { dst := some 34, op := Op.build 55 #[(0, Operand.tmp 29), (1, Operand.tmp 33)], type := 55, pos := "law.go:61", after := #[{ on := 4, ground := Ground.data }, { on := 8, ground := Ground.data }], guard := none }, { dst := some 35, op := Op.buildSlice 22 1 #[(0, Operand.tmp 34)], type := 22, pos := "law.go:61", after := #[{ on := 9, ground := Ground.data }], guard := none }, { dst := some 36, op := Op.call { callee := Callee.builtin Builtin.append, args := #[Operand.tmp 26, Operand.tmp 35], argTypes := #[22, 22] }, type := 22, pos := "law.go:61", after := #[{ on := 1, ground := Ground.data }, { on := 10, ground := Ground.data }], guard := none }, { dst := some 37, op := Op.fieldAddr 24 (Operand.tmp 6) 2, type := 0, pos := "law.go:61", after := #[{ on := 0, ground := Ground.phase }, { on := 1, ground := Ground.phase }, { on := 2, ground := Ground.phase }, { on := 3, ground := Ground.phase }, { on := 4, ground := Ground.phase }, { on := 5, ground := Ground.phase }, { on := 6, ground := Ground.phase }, { on := 7, ground := Ground.phase }, { on := 8, ground := Ground.phase }, { on := 9, ground := Ground.phase }, { on := 10, ground := Ground.phase }, { on := 11, ground := Ground.phase }], guard := none }, { dst := none, op := Op.store 22 (Operand.tmp 37) (Operand.tmp 36), type := 0, pos := "law.go:61", after := #[{ on := 12, ground := Ground.data }, { on := 11, ground := Ground.data }, { on := 11, ground := Ground.chain }, { on := 0, ground := Ground.phase }, { on := 1, ground := Ground.phase }, { on := 2, ground := Ground.phase }, { on := 3, ground := Ground.phase }, { on := 4, ground := Ground.phase }, { on := 5, ground := Ground.phase }, { on := 6, ground := Ground.phase }, { on := 7, ground := Ground.phase }, { on := 8, ground := Ground.phase }, { on := 9, ground := Ground.phase }, { on := 10, ground := Ground.phase }, { on := 11, ground := Ground.phase }], guard := none }] true).wp Try.prog Q (lmAct G3 m i q0 q1 q2 q3 q4 q8 q9 q10 q11 q12 q13 q14 q15 q16 q17 q18 q19 q20 q21 q22 q23 q24 q38 q39 q40 q41 q42 q43 q44 q45 q46 q47 q48 q49 q50 q51 q52 q53 q54 q55 q56 q57 q58 q59 q60 q61 q62 q63 q64 q65 q66 q67 q68 q69 q70 q71 q72 q73 q74 q75 q76 q77 q78 q79 q80 q81 q82 q83 (i25) (i26) (i27) (i28) (i29) (i30) (i31) (i32) (i33) (i34) (i35) (i36) (i37)) W0 := by
  refine wp_region_inv (by kernel_rfl) (by kernel_rfl) (lmI lo G3 m i f t v L q0 q1 q2 q3 q4 q8 q9 q10 q11 q12 q13 q14 q15 q16 q17 q18 q19 q20 q21 q22 q23 q24 q38 q39 q40 q41 q42 q43 q44 q45 q46 q47 q48 q49 q50 q51 q52 q53 q54 q55 q56 q57 q58 q59 q60 q61 q62 q63 q64 q65 q66 q67 q68 q69 q70 q71 q72 q73 q74 q75 q76 q77 q78 q79 q80 q81 q82 q83 W0) ?_ ?_ ?_
  · refine ⟨_, _, _, _, _, _, _, _, _, _, _, _, _, rfl, .inl ⟨rfl, rfl, (Below.refl _ _).drew, fun e => by simp at e⟩, ?_, ?_, ?_, ?_, ?_, ?_, ?_, ?_, ?_, ?_, ?_⟩ <;> (intro e; simp at e)
  · intro listed a w i o hI hs ho hl hd
    have hi9 : i < 14 := (Array.getElem?_eq_some_iff.1 ho).1
    obtain ⟨u25, u26, u27, u28, u29, u30, u31, u32, u33, u34, u35, u36, u37, rfl, hB, h0, h1, h2, h3, h4, h5, h6, h7, h8, h9, h12⟩ := hI
    rcases (show i = 0 ∨ i = 1 ∨ i = 2 ∨ i = 3 ∨ i = 4 ∨ i = 5 ∨ i = 6 ∨ i = 7 ∨ i = 8 ∨ i = 9 ∨ i = 10 ∨ i = 11 ∨ i = 12 ∨ i = 13 by omega) with rfl | rfl | rfl | rfl | rfl | rfl | rfl | rfl | rfl | rfl | rfl | rfl | rfl | rfl
    · have ho' : some _ = some o := ho
      cases ho'
      obtain ⟨hb1, hst⟩ := hB.live hi9 hl
      have hB2 := hB.step (i := 0) (by decide) (by decide) (by decide)
      unfold lmAct; go_simp
      exact ⟨.pointer (some ⟨G3, 2, none⟩), u26, u27, u28, u29, u30, u31, u32, u33, u34, u35, u36, u37, rfl, hB2, fun _ => rfl, fun e1 => h1 (lset_ne (by decide) e1), fun e2 => h2 (lset_ne (by decide) e2), fun e3 => h3 (lset_ne (by decide) e3), fun e4 => h4 (lset_ne (by decide) e4), fun e5 => h5 (lset_ne (by decide) e5), fun e6 => h6 (lset_ne (by decide) e6), fun e7 => h7 (lset_ne (by decide) e7), fun e8 => h8 (lset_ne (by decide) e8), fun e9 => h9 (lset_ne (by decide) e9), fun e12 => h12 (lset_ne (by decide) e12)⟩
    · have ho' : some _ = some o := ho
      cases ho'
      have d0 := hd { on := 0, ground := .data } (by simp) rfl
      obtain ⟨hb1, hst⟩ := hB.live hi9 hl
      have c2 : w.cell? ⟨G3, 2, none⟩ = some v := (hb1.cell (p := ⟨G3, 2, none⟩) hG3 (fun e => hGn _ e rfl)).trans hv
      have e0 := h0 d0
      subst e0
      have hB2 := hB.step (i := 1) (by decide) (by decide) (by decide)
      unfold lmAct; go_simp
      exact ⟨.pointer (some ⟨G3, 2, none⟩), v, u27, u28, u29, u30, u31, u32, u33, u34, u35, u36, u37, rfl, hB2, fun e0 => h0 (lset_ne (by decide) e0), fun _ => rfl, fun e2 => h2 (lset_ne (by decide) e2), fun e3 => h3 (lset_ne (by decide) e3), fun e4 => h4 (lset_ne (by decide) e4), fun e5 => h5 (lset_ne (by decide) e5), fun e6 => h6 (lset_ne (by decide) e6), fun e7 => h7 (lset_ne (by decide) e7), fun e8 => h8 (lset_ne (by decide) e8), fun e9 => h9 (lset_ne (by decide) e9), fun e12 => h12 (lset_ne (by decide) e12)⟩
    · have ho' : some _ = some o := ho
      cases ho'
      obtain ⟨hb1, hst⟩ := hB.live hi9 hl
      have hB2 := hB.step (i := 2) (by decide) (by decide) (by decide)
      unfold lmAct; go_simp
      exact ⟨u25, u26, .int .i64 (i : Int), u28, u29, u30, u31, u32, u33, u34, u35, u36, u37, rfl, hB2, fun e0 => h0 (lset_ne (by decide) e0), fun e1 => h1 (lset_ne (by decide) e1), fun _ => rfl, fun e3 => h3 (lset_ne (by decide) e3), fun e4 => h4 (lset_ne (by decide) e4), fun e5 => h5 (lset_ne (by decide) e5), fun e6 => h6 (lset_ne (by decide) e6), fun e7 => h7 (lset_ne (by decide) e7), fun e8 => h8 (lset_ne (by decide) e8), fun e9 => h9 (lset_ne (by decide) e9), fun e12 => h12 (lset_ne (by decide) e12)⟩
    · have ho' : some _ = some o := ho
      cases ho'
      obtain ⟨hb1, hst⟩ := hB.live hi9 hl
      have hB2 := hB.step (i := 3) (by decide) (by decide) (by decide)
      unfold lmAct; go_simp
      exact ⟨u25, u26, u27, .int .i64 (m : Int), u29, u30, u31, u32, u33, u34, u35, u36, u37, rfl, hB2, fun e0 => h0 (lset_ne (by decide) e0), fun e1 => h1 (lset_ne (by decide) e1), fun e2 => h2 (lset_ne (by decide) e2), fun _ => rfl, fun e4 => h4 (lset_ne (by decide) e4), fun e5 => h5 (lset_ne (by decide) e5), fun e6 => h6 (lset_ne (by decide) e6), fun e7 => h7 (lset_ne (by decide) e7), fun e8 => h8 (lset_ne (by decide) e8), fun e9 => h9 (lset_ne (by decide) e9), fun e12 => h12 (lset_ne (by decide) e12)⟩
    · have ho' : some _ = some o := ho
      cases ho'
      have d2 := hd { on := 2, ground := .data } (by simp) rfl
      have d3 := hd { on := 3, ground := .data } (by simp) rfl
      obtain ⟨hb1, hst⟩ := hB.live hi9 hl
      have r0 : (m = 0) = False := by simp; omega
      have r1 : (i : Int).tmod (m : Int) = f := by rw [hf.out, Int.tmod_eq_emod_of_nonneg (by omega)]; omega
      have e2 := h2 d2
      subst e2
      have e3 := h3 d3
      subst e3
      have hB2 := hB.step (i := 4) (by decide) (by decide) (by decide)
      unfold lmAct; go_simp
      exact ⟨u25, u26, .int .i64 (i : Int), .int .i64 (m : Int), .int .i64 f, u30, u31, u32, u33, u34, u35, u36, u37, rfl, hB2, fun e0 => h0 (lset_ne (by decide) e0), fun e1 => h1 (lset_ne (by decide) e1), fun e2 => h2 (lset_ne (by decide) e2), fun e3 => h3 (lset_ne (by decide) e3), fun _ => rfl, fun e5 => h5 (lset_ne (by decide) e5), fun e6 => h6 (lset_ne (by decide) e6), fun e7 => h7 (lset_ne (by decide) e7), fun e8 => h8 (lset_ne (by decide) e8), fun e9 => h9 (lset_ne (by decide) e9), fun e12 => h12 (lset_ne (by decide) e12)⟩
    · have ho' : some _ = some o := ho
      cases ho'
      obtain ⟨hb1, hst⟩ := hB.live hi9 hl
      have hB2 := hB.step (i := 5) (by decide) (by decide) (by decide)
      unfold lmAct; go_simp
      exact ⟨u25, u26, u27, u28, u29, .int .i64 (i : Int), u31, u32, u33, u34, u35, u36, u37, rfl, hB2, fun e0 => h0 (lset_ne (by decide) e0), fun e1 => h1 (lset_ne (by decide) e1), fun e2 => h2 (lset_ne (by decide) e2), fun e3 => h3 (lset_ne (by decide) e3), fun e4 => h4 (lset_ne (by decide) e4), fun _ => rfl, fun e6 => h6 (lset_ne (by decide) e6), fun e7 => h7 (lset_ne (by decide) e7), fun e8 => h8 (lset_ne (by decide) e8), fun e9 => h9 (lset_ne (by decide) e9), fun e12 => h12 (lset_ne (by decide) e12)⟩
    · have ho' : some _ = some o := ho
      cases ho'
      have d5 := hd { on := 5, ground := .data } (by simp) rfl
      obtain ⟨hb1, hst⟩ := hB.live hi9 hl
      have r2 : IntKind.i64.wrap ((i : Int) + 1) = (i : Int) + 1 := by rw [IntKind.wrap_i64]; omega
      have e5 := h5 d5
      subst e5
      have hB2 := hB.step (i := 6) (by decide) (by decide) (by decide)
      unfold lmAct; go_simp
      exact ⟨u25, u26, u27, u28, u29, .int .i64 (i : Int), .int .i64 ((i : Int) + 1), u32, u33, u34, u35, u36, u37, rfl, hB2, fun e0 => h0 (lset_ne (by decide) e0), fun e1 => h1 (lset_ne (by decide) e1), fun e2 => h2 (lset_ne (by decide) e2), fun e3 => h3 (lset_ne (by decide) e3), fun e4 => h4 (lset_ne (by decide) e4), fun e5 => h5 (lset_ne (by decide) e5), fun _ => rfl, fun e7 => h7 (lset_ne (by decide) e7), fun e8 => h8 (lset_ne (by decide) e8), fun e9 => h9 (lset_ne (by decide) e9), fun e12 => h12 (lset_ne (by decide) e12)⟩
    · have ho' : some _ = some o := ho
      cases ho'
      obtain ⟨hb1, hst⟩ := hB.live hi9 hl
      have hB2 := hB.step (i := 7) (by decide) (by decide) (by decide)
      unfold lmAct; go_simp
      exact ⟨u25, u26, u27, u28, u29, u30, u31, .int .i64 (m : Int), u33, u34, u35, u36, u37, rfl, hB2, fun e0 => h0 (lset_ne (by decide) e0), fun e1 => h1 (lset_ne (by decide) e1), fun e2 => h2 (lset_ne (by decide) e2), fun e3 => h3 (lset_ne (by decide) e3), fun e4 => h4 (lset_ne (by decide) e4), fun e5 => h5 (lset_ne (by decide) e5), fun e6 => h6 (lset_ne (by decide) e6), fun _ => rfl, fun e8 => h8 (lset_ne (by decide) e8), fun e9 => h9 (lset_ne (by decide) e9), fun e12 => h12 (lset_ne (by decide) e12)⟩
    · have ho' : some _ = some o := ho
      cases ho'
      have d6 := hd { on := 6, ground := .data } (by simp) rfl
      have d7 := hd { on := 7, ground := .data } (by simp) rfl
      obtain ⟨hb1, hst⟩ := hB.live hi9 hl
      have r0 : (m = 0) = False := by simp; omega
      have r1 : ((i : Int) + 1).tmod (m : Int) = t := by rw [ht.out, Int.tmod_eq_emod_of_nonneg (by omega)]; push_cast; rfl
      have e6 := h6 d6
      subst e6
      have e7 := h7 d7
      subst e7
      have hB2 := hB.step (i := 8) (by decide) (by decide) (by decide)
      unfold lmAct; go_simp
      exact ⟨u25, u26, u27, u28, u29, u30, .int .i64 ((i : Int) + 1), .int .i64 (m : Int), .int .i64 t, u34, u35, u36, u37, rfl, hB2, fun e0 => h0 (lset_ne (by decide) e0), fun e1 => h1 (lset_ne (by decide) e1), fun e2 => h2 (lset_ne (by decide) e2), fun e3 => h3 (lset_ne (by decide) e3), fun e4 => h4 (lset_ne (by decide) e4), fun e5 => h5 (lset_ne (by decide) e5), fun e6 => h6 (lset_ne (by decide) e6), fun e7 => h7 (lset_ne (by decide) e7), fun _ => rfl, fun e9 => h9 (lset_ne (by decide) e9), fun e12 => h12 (lset_ne (by decide) e12)⟩
    · have ho' : some _ = some o := ho
      cases ho'
      have d4 := hd { on := 4, ground := .data } (by simp) rfl
      have d8 := hd { on := 8, ground := .data } (by simp) rfl
      obtain ⟨hb1, hst⟩ := hB.live hi9 hl
      have e4 := h4 d4
      subst e4
      have e8 := h8 d8
      subst e8
      have hB2 := hB.step (i := 9) (by decide) (by decide) (by decide)
      unfold lmAct; go_simp
      exact ⟨u25, u26, u27, u28, .int .i64 f, u30, u31, u32, .int .i64 t, .agg #[.int .i64 f, .int .i64 t, .int .i64 0, .int .i64 0, .int .i64 0, .int .i64 0, .int .i64 0, .int .i64 0, .int .i64 0, .string ⟨#[]⟩, .int .i64 0, .slice none 0 0, .int .i64 0, .string ⟨#[]⟩, .int .i64 0, .slice none 0 0, .int .i64 0, .slice none 0 0, .slice none 0 0, .slice none 0 0, .slice none 0 0], u35, u36, u37, rfl, hB2, fun e0 => h0 (lset_ne (by decide) e0), fun e1 => h1 (lset_ne (by decide) e1), fun e2 => h2 (lset_ne (by decide) e2), fun e3 => h3 (lset_ne (by decide) e3), fun e4 => h4 (lset_ne (by decide) e4), fun e5 => h5 (lset_ne (by decide) e5), fun e6 => h6 (lset_ne (by decide) e6), fun e7 => h7 (lset_ne (by decide) e7), fun e8 => h8 (lset_ne (by decide) e8), fun _ => rfl, fun e12 => h12 (lset_ne (by decide) e12)⟩
    · have ho' : some _ = some o := ho
      cases ho'
      have d9 := hd { on := 9, ground := .data } (by simp) rfl
      rcases hB with ⟨b1, b2, b3, b4⟩ | ⟨b1, b2, b3, b4⟩ | ⟨b1, b2⟩
      rotate_left
      · exact (no_both hl b1.2.1).elim
      · exact (no_both hl (b1 10 (by decide))).elim
      have e9 := h9 d9
      subst e9
      have heB : EdAt (w.alloc (Obj.cells #[.int .i64 f, .int .i64 t, .int .i64 0, .int .i64 0, .int .i64 0, .int .i64 0, .int .i64 0, .int .i64 0, .int .i64 0, .string ⟨#[]⟩, .int .i64 0, .slice none 0 0, .int .i64 0, .string ⟨#[]⟩, .int .i64 0, .slice none 0 0, .int .i64 0, .slice none 0 0, .slice none 0 0, .slice none 0 0, .slice none 0 0] 55)) w.heap.size 0 (zE f t) := by have h := EdAt.box w (zE f t); first | (rw [zE_cs] at h; exact h) | exact h
      have hB2 : RowM lo G3 f t v L W0 (.slice (some ⟨w.heap.size, 0, none⟩) 1 1) u36 (listed.setIfInBounds 10 true) (w.alloc (Obj.cells #[.int .i64 f, .int .i64 t, .int .i64 0, .int .i64 0, .int .i64 0, .int .i64 0, .int .i64 0, .int .i64 0, .int .i64 0, .string ⟨#[]⟩, .int .i64 0, .slice none 0 0, .int .i64 0, .string ⟨#[]⟩, .int .i64 0, .slice none 0 0, .int .i64 0, .slice none 0 0, .slice none 0 0, .slice none 0 0, .slice none 0 0] 55)) := .inl ⟨by rw [getD_set_ne false (by decide)]; exact b1, by rw [getD_set_ne false (by decide)]; exact b2, b3.alloc b3.size _, fun _ => ⟨w.heap.size, rfl, by simp, heB⟩⟩
      clear heB
      unfold lmAct; go_simp
      exact ⟨u25, u26, u27, u28, u29, u30, u31, u32, u33, .agg #[.int .i64 f, .int .i64 t, .int .i64 0, .int .i64 0, .int .i64 0, .int .i64 0, .int .i64 0, .int .i64 0, .int .i64 0, .string ⟨#[]⟩, .int .i64 0, .slice none 0 0, .int .i64 0, .string ⟨#[]⟩, .int .i64 0, .slice none 0 0, .int .i64 0, .slice none 0 0, .slice none 0 0, .slice none 0 0, .slice none 0 0], .slice (some ⟨w.heap.size, 0, none⟩) 1 1, u36, u37, rfl, hB2, fun e0 => h0 (lset_ne (by decide) e0), fun e1 => h1 (lset_ne (by decide) e1), fun e2 => h2 (lset_ne (by decide) e2), fun e3 => h3 (lset_ne (by decide) e3), fun e4 => h4 (lset_ne (by decide) e4), fun e5 => h5 (lset_ne (by decide) e5), fun e6 => h6 (lset_ne (by decide) e6), fun e7 => h7 (lset_ne (by decide) e7), fun e8 => h8 (lset_ne (by decide) e8), fun e9 => h9 (lset_ne (by decide) e9), fun e12 => h12 (lset_ne (by decide) e12)⟩
    · have ho' : some _ = some o := ho
      cases ho'
      have d1 := hd { on := 1, ground := .data } (by simp) rfl
      have d10 := hd { on := 10, ground := .data } (by simp) rfl
      rcases hB with ⟨b1, b2, b3, b4⟩ | ⟨b1, b2, b3, b4⟩ | ⟨b1, b2⟩
      rotate_left
      · exact (no_both hl b1.1).elim
      · exact (no_both hl (b1 11 (by decide))).elim
      obtain ⟨b, hu, hbl, hbc⟩ := b4 d10
      subst hu
      have e1 := h1 d1
      have how2 := how.but (But.of_below (S := fun _ => False) b3) (fun _ _ => id)
      refine step_pushE (v := v) (lo := lo) (L := L) (d := zE f t) rfl (.tmp 26) (.tmp 35) rfl e1 how2 (by omega) (Nat.le_trans hlo b3.size) b rfl hbc ?_
      intro g cap n9 w9 hn9 h9w hg9 hgx
      subst hn9
      have hgb : g ≠ G3 := hgx.elim (fun q => hGn _ q) (fun q => by have := b3.size; omega)
      have hb9 := (But.of_below (S := fun b => v.ownBlock = some b) b3).trans (But.of_grown (S := fun b => v.ownBlock = some b) hg9 (fun _ e => e)) (fun _ _ e => e)
      have hB2 : RowM lo G3 f t v L W0 (.slice (some ⟨b, 0, none⟩) 1 1) (.slice (some ⟨g, 0, none⟩) (L.length + 1) cap) (listed.setIfInBounds 11 true) w9 := .inr (.inl ⟨⟨lset_eq hs (by decide), lset_up d10, _, _, _, rfl, hgb⟩, by rw [getD_set_ne false (by decide)]; exact b2, h9w, hb9⟩)
      unfold lmAct; simp only [Act.put, List.setIfInBounds_toArray, List.set_cons_zero, List.set_cons_succ]
      exact ⟨u25, u26, u27, u28, u29, u30, u31, u32, u33, u34, .slice (some ⟨b, 0, none⟩) 1 1, .slice (some ⟨g, 0, none⟩) (L.length + 1) cap, u37, rfl, hB2, fun e0 => h0 (lset_ne (by decide) e0), fun e1 => h1 (lset_ne (by decide) e1), fun e2 => h2 (lset_ne (by decide) e2), fun e3 => h3 (lset_ne (by decide) e3), fun e4 => h4 (lset_ne (by decide) e4), fun e5 => h5 (lset_ne (by decide) e5), fun e6 => h6 (lset_ne (by decide) e6), fun e7 => h7 (lset_ne (by decide) e7), fun e8 => h8 (lset_ne (by decide) e8), fun e9 => h9 (lset_ne (by decide) e9), fun e12 => h12 (lset_ne (by decide) e12)⟩
    · have ho' : some _ = some o := ho
      cases ho'
      have d0 := hd { on := 0, ground := .phase } (by simp) rfl
      have d1 := hd { on := 1, ground := .phase } (by simp) rfl
      have d2 := hd { on := 2, ground := .phase } (by simp) rfl
      have d3 := hd { on := 3, ground := .phase } (by simp) rfl
      have d4 := hd { on := 4, ground := .phase } (by simp) rfl
      have d5 := hd { on := 5, ground := .phase } (by simp) rfl
      have d6 := hd { on := 6, ground := .phase } (by simp) rfl
      have d7 := hd { on := 7, ground := .phase } (by simp) rfl
      have d8 := hd { on := 8, ground := .phase } (by simp) rfl
      have d9 := hd { on := 9, ground := .phase } (by simp) rfl
      have d10 := hd { on := 10, ground := .phase } (by simp) rfl
      have d11 := hd { on := 11, ground := .phase } (by simp) rfl
      obtain ⟨hb1, hst⟩ := hB.live hi9 hl
      have e0 := h0 d0
      subst e0
      have e1 := (h1 d1).symm
      subst e1
      have e2 := h2 d2
      subst e2
      have e3 := h3 d3
      subst e3
      have e4 := h4 d4
      subst e4
      have e5 := h5 d5
      subst e5
      have e6 := h6 d6
      subst e6
      have e7 := h7 d7
      subst e7
      have e8 := h8 d8
      subst e8
      have e9 := h9 d9
      subst e9
      have hB2 := hB.step (i := 12) (by decide) (by decide) (by decide)
      unfold lmAct; go_simp
      exact ⟨.pointer (some ⟨G3, 2, none⟩), v, .int .i64 (i : Int), .int .i64 (m : Int), .int .i64 f, .int .i64 (i : Int), .int .i64 ((i : Int) + 1), .int .i64 (m : Int), .int .i64 t, .agg #[.int .i64 f, .int .i64 t, .int .i64 0, .int .i64 0, .int .i64 0, .int .i64 0, .int .i64 0, .int .i64 0, .int .i64 0, .string ⟨#[]⟩, .int .i64 0, .slice none 0 0, .int .i64 0, .string ⟨#[]⟩, .int .i64 0, .slice none 0 0, .int .i64 0, .slice none 0 0, .slice none 0 0, .slice none 0 0, .slice none 0 0], u35, u36, .pointer (some ⟨G3, 2, none⟩), rfl, hB2, fun e0 => h0 (lset_ne (by decide) e0), fun e1 => h1 (lset_ne (by decide) e1), fun e2 => h2 (lset_ne (by decide) e2), fun e3 => h3 (lset_ne (by decide) e3), fun e4 => h4 (lset_ne (by decide) e4), fun e5 => h5 (lset_ne (by decide) e5), fun e6 => h6 (lset_ne (by decide) e6), fun e7 => h7 (lset_ne (by decide) e7), fun e8 => h8 (lset_ne (by decide) e8), fun e9 => h9 (lset_ne (by decide) e9), fun _ => rfl⟩
    · have ho' : some _ = some o := ho
      cases ho'
      have d12 := hd { on := 12, ground := .data } (by simp) rfl
      have d11 := hd { on := 11, ground := .data } (by simp) rfl
      have d11 := hd { on := 11, ground := .chain } (by simp) rfl
      have d0 := hd { on := 0, ground := .phase } (by simp) rfl
      have d1 := hd { on := 1, ground := .phase } (by simp) rfl
      have d2 := hd { on := 2, ground := .phase } (by simp) rfl
      have d3 := hd { on := 3, ground := .phase } (by simp) rfl
      have d4 := hd { on := 4, ground := .phase } (by simp) rfl
      have d5 := hd { on := 5, ground := .phase } (by simp) rfl
      have d6 := hd { on := 6, ground := .phase } (by simp) rfl
      have d7 := hd { on := 7, ground := .phase } (by simp) rfl
      have d8 := hd { on := 8, ground := .phase } (by simp) rfl
      have d9 := hd { on := 9, ground := .phase } (by simp) rfl
      have d10 := hd { on := 10, ground := .phase } (by simp) rfl
      have d11 := hd { on := 11, ground := .phase } (by simp) rfl
      obtain ⟨hb1, hst⟩ := hB.live hi9 hl
      have c2 : w.cell? ⟨G3, 2, none⟩ = some v := (hb1.cell (p := ⟨G3, 2, none⟩) hG3 (fun e => hGn _ e rfl)).trans hv
      have c3 : w.frozen? ⟨G3, 2, none⟩ = false := (hb1.frozen (p := ⟨G3, 2, none⟩) hG3 (fun e => hGn _ e rfl)).trans hvf
      rcases hB with ⟨b1, b2, b3, b4⟩ | ⟨b1, b2, b3, b4⟩ | ⟨b1, b2⟩
      · rw [b1] at d11; cases d11
      rotate_left
      · exact (no_both hl (b1 13 (by decide))).elim
      obtain ⟨-, -, g, ng, cg, hu, hgb⟩ := b1
      subst hu
      have e0 := h0 d0
      subst e0
      have e1 := (h1 d1).symm
      subst e1
      have e2 := h2 d2
      subst e2
      have e3 := h3 d3
      subst e3
      have e4 := h4 d4
      subst e4
      have e5 := h5 d5
      subst e5
      have e6 := h6 d6
      subst e6
      have e7 := h7 d7
      subst e7
      have e8 := h8 d8
      subst e8
      have e9 := h9 d9
      subst e9
      have e12 := h12 d12
      subst e12
      have hB2 : RowM lo G3 f t v L W0 u35 (.slice (some ⟨g, 0, none⟩) ng cg) (listed.setIfInBounds 13 true) (w.setCell ⟨G3, 2, none⟩ (.slice (some ⟨g, 0, none⟩) ng cg)) := .inr (.inr ⟨fun j hj => (by rcases (show j = 0 ∨ j = 1 ∨ j = 2 ∨ j = 3 ∨ j = 4 ∨ j = 5 ∨ j = 6 ∨ j = 7 ∨ j = 8 ∨ j = 9 ∨ j = 10 ∨ j = 11 ∨ j = 12 ∨ j = 13 by omega) with rfl | rfl | rfl | rfl | rfl | rfl | rfl | rfl | rfl | rfl | rfl | rfl | rfl | rfl <;> first | exact lset_eq hs (by decide) | exact lset_up (by assumption)), EOwn.but b3 (But.set (S := fun b => b = G3) (But.refl _ w) ⟨G3, 2, none⟩ _ (fun _ => rfl)) (fun b e q => by cases e; exact hgb q), cellSet c2 _, ⟨_, _, _, rfl, hgb⟩, w, b4, rfl⟩)
      clear b3 b4
      unfold lmAct; go_simp
      exact ⟨.pointer (some ⟨G3, 2, none⟩), v, .int .i64 (i : Int), .int .i64 (m : Int), .int .i64 f, .int .i64 (i : Int), .int .i64 ((i : Int) + 1), .int .i64 (m : Int), .int .i64 t, .agg #[.int .i64 f, .int .i64 t, .int .i64 0, .int .i64 0, .int .i64 0, .int .i64 0, .int .i64 0, .int .i64 0, .int .i64 0, .string ⟨#[]⟩, .int .i64 0, .slice none 0 0, .int .i64 0, .string ⟨#[]⟩, .int .i64 0, .slice none 0 0, .int .i64 0, .slice none 0 0, .slice none 0 0, .slice none 0 0, .slice none 0 0], u35, .slice (some ⟨g, 0, none⟩) ng cg, .pointer (some ⟨G3, 2, none⟩), rfl, hB2, fun e0 => h0 (lset_ne (by decide) e0), fun e1 => h1 (lset_ne (by decide) e1), fun e2 => h2 (lset_ne (by decide) e2), fun e3 => h3 (lset_ne (by decide) e3), fun e4 => h4 (lset_ne (by decide) e4), fun e5 => h5 (lset_ne (by decide) e5), fun e6 => h6 (lset_ne (by decide) e6), fun e7 => h7 (lset_ne (by decide) e7), fun e8 => h8 (lset_ne (by decide) e8), fun e9 => h9 (lset_ne (by decide) e9), fun e12 => h12 (lset_ne (by decide) e12)⟩
  · rintro listed a w ⟨u25, u26, u27, u28, u29, u30, u31, u32, u33, u34, u35, u36, u37, rfl, hB, h0, h1, h2, h3, h4, h5, h6, h7, h8, h9, h12⟩ hall
    exact hQ _ _ _ _ _ _ _ _ _ _ _ _ _ w (hB.elim (fun h => absurd h.2.1 (by rw [hall 13 (by decide)]; decide)) (fun h => h.elim (fun h => absurd h.2.1 (by rw [hall 13 (by decide)]; decide)) (fun h => h.2))) (h0 (hall 0 (by decide))) (h1 (hall 1 (by decide))) (h2 (hall 2 (by decide))) (h3 (hall 3 (by decide))) (h4 (hall 4 (by decide))) (h5 (hall 5 (by decide))) (h6 (hall 6 (by decide))) (h7 (hall 7 (by decide))) (h8 (hall 8 (by decide))) (h9 (hall 9 (by decide))) (h12 (hall 12 (by decide)))
def lnAct (M0 G3 m p : Nat) (q0 q1 q2 q3 q4 q5 q7 q8 q10 q12 q13 q14 q15 q16 q17 q18 q19 q20 q21 q22 q23 q24 q25 q26 q27 q28 q29 q30 q31 q32 q33 q34 q35 q36 q37 q38 q39 q40 q41 q42 q43 q44 q45 q46 q47 q48 q49 q50 q51 q52 q53 q54 q55 q56 q57 q58 q59 q60 q61 q62 q63 q64 q65 q66 q67 q68 q79 q80 q81 q82 q83 u69 u70 u71 u72 u73 u74 u75 u76 u77 u78 : Value) : Act :=
  { tmps := #[q0, q1, q2, q3, q4, q5, .pointer (some ⟨G3, 0, none⟩), q7, q8, .slice (some ⟨M0, 0, none⟩) m m, q10, .int .i64 (p : Int), q12, q13, q14, q15, q16, q17, q18, q19, q20, q21, q22, q23, q24, q25, q26, q27, q28, q29, q30, q31, q32, q33, q34, q35, q36, q37, q38, q39, q40, q41, q42, q43, q44, q45, q46, q47, q48, q49, q50, q51, q52, q53, q54, q55, q56, q57, q58, q59, q60, q61, q62, q63, q64, q65, q66, q67, q68, u69, u70, u71, u72, u73, u74, u75, u76, u77, u78, q79, q80, q81, q82, q83], defers := [] }
def lnI (M0 G3 m p en ec : Nat) (eo : Option Addr) (rb : Bool) (q0 q1 q2 q3 q4 q5 q7 q8 q10 q12 q13 q14 q15 q16 q17 q18 q19 q20 q21 q22 q23 q24 q25 q26 q27 q28 q29 q30 q31 q32 q33 q34 q35 q36 q37 q38 q39 q40 q41 q42 q43 q44 q45 q46 q47 q48 q49 q50 q51 q52 q53 q54 q55 q56 q57 q58 q59 q60 q61 q62 q63 q64 q65 q66 q67 q68 q79 q80 q81 q82 q83 : Value) (W0 : World) (listed : Array Bool) (a : Act) (w : World) : Prop :=
  ∃ u69 u70 u71 u72 u73 u74 u75 u76 u77 u78, a = lnAct M0 G3 m p q0 q1 q2 q3 q4 q5 q7 q8 q10 q12 q13 q14 q15 q16 q17 q18 q19 q20 q21 q22 q23 q24 q25 q26 q27 q28 q29 q30 q31 q32 q33 q34 q35 q36 q37 q38 q39 q40 q41 q42 q43 q44 q45 q46 q47 q48 q49 q50 q51 q52 q53 q54 q55 q56 q57 q58 q59 q60 q61 q62 q63 q64 q65 q66 q67 q68 q79 q80 q81 q82 q83 u69 u70 u71 u72 u73 u74 u75 u76 u77 u78 ∧ Below W0.heap.size W0 w ∧
    (listed.getD 0 false = true → u69 = .slice (some ⟨M0, 0, none⟩) m m) ∧
    (listed.getD 1 false = true → u70 = .int .i64 (p : Int)) ∧
    (listed.getD 2 false = true → u71 = .pointer (some ⟨M0, p, none⟩)) ∧
    (listed.getD 3 false = true → u72 = .bool rb) ∧
    (listed.getD 4 false = true → u73 = .int .i64 (p : Int)) ∧
    (listed.getD 5 false = true → u74 = .pointer (some ⟨G3, 2, none⟩)) ∧
    (listed.getD 6 false = true → u75 = .slice eo en ec) ∧
    (listed.getD 7 false = true → u76 = .int .i64 (en : Int)) ∧
    (listed.getD 8 false = true → u77 = .bool (decide (p ≤ en))) ∧
    (listed.getD 9 false = true → u78 = .bool (rb != decide (p ≤ en)))
set_option maxRecDepth 20000 in
set_option maxHeartbeats 4000000 in
theorem ln_region (M0 G3 m p en ec : Nat) (eo : Option Addr) (rb : Bool) (q0 q1 q2 q3 q4 q5 q7 q8 q10 q12 q13 q14 q15 q16 q17 q18 q19 q20 q21 q22 q23 q24 q25 q26 q27 q28 q29 q30 q31 q32 q33 q34 q35 q36 q37 q38 q39 q40 q41 q42 q43 q44 q45 q46 q47 q48 q49 q50 q51 q52 q53 q54 q55 q56 q57 q58 q59 q60 q61 q62 q63 q64 q65 q66 q67 q68 q79 q80 q81 q82 q83 : Value) (W0 : World) (i69 i70 i71 i72 i73 i74 i75 i76 i77 i78 : Value) (hp : p < m) (hm : m ≤ 1000) (hen : en ≤ 2000) (hM : M0 < W0.heap.size) (hG : G3 < W0.heap.size) (hb : W0.cell? ⟨M0, p, none⟩ = some (.bool rb)) (he : W0.cell? ⟨G3, 2, none⟩ = some (.slice eo en ec)) {Q : Exit → Act → World → Prop}
    (hQ : ∀ u69 u70 u71 u72 u73 u74 u75 u76 u77 u78 w, Below W0.heap.size W0 w → (u69 = .slice (some ⟨M0, 0, none⟩) m m) → (u70 = .int .i64 (p : Int)) → (u71 = .pointer (some ⟨M0, p, none⟩)) → (u72 = .bool rb) → (u73 = .int .i64 (p : Int)) → (u74 = .pointer (some ⟨G3, 2, none⟩)) → (u75 = .slice eo en ec) → (u76 = .int .i64 (en : Int)) → (u77 = .bool (decide (p ≤ en))) → (u78 = .bool (rb != decide (p ≤ en))) → Q .normal (lnAct M0 G3 m p q0 q1 q2 q3 q4 q5 q7 q8 q10 q12 q13 q14 q15 q16 q17 q18 q19 q20 q21 q22 q23 q24 q25 q26 q27 q28 q29 q30 q31 q32 q33 q34 q35 q36 q37 q38 q39 q40 q41 q42 q43 q44 q45 q46 q47 q48 q49 q50 q51 q52 q53 q54 q55 q56 q57 q58 q59 q60 q61 q62 q63 q64 q65 q66 q67 q68 q79 q80 q81 q82 q83 u69 u70 u71 u72 u73 u74 u75 u76 u77 u78) w) :
    (Code.region 18 #[{ dst := some 69, op := Op.move (Operand.tmp 9), type := 33, pos := "law.go:73", after := #[], guard := none }, { dst := some 70, op := Op.move (Operand.tmp 11), type := 3, pos := "law.go:73", after := #[], guard := none }, { dst := some 71, op := Op.indexAddr 33 (Operand.tmp 69) (Operand.tmp 70), type := 0, pos := "law.go:73", after := #[{ on := 0, ground := Ground.data }, { on := 1, ground := Ground.data }], guard := none }, { dst := some 72, op := Op.load 4 (Operand.tmp 71), type := 4, pos := "law.go:73", after := #[{ on := 2, ground := Ground.data }], guard := none }, { dst := some 73, op := Op.move (Operand.tmp 11), type := 3, pos := "law.go:73", after := #[], guard := none }, { dst := some 74, op := Op.fieldAddr 24 (Operand.tmp 6) 2, type := 0, pos := "law.go:73", after := #[], guard := none }, { dst := some 75, op := Op.load 22 (Operand.tmp 74), type := 22, pos := "law.go:73", after := #[{ on := 5, ground := Ground.data }], guard := none }, { dst := some 76, op := Op.call { callee := Callee.builtin Builtin.len, args := #[Operand.tmp 75], argTypes := #[22] }, type := 3, pos := "law.go:73", after := #[{ on := 6, ground := Ground.data }], guard := none }, { dst := some 77, op := Op.binOp BinOp.leq 3 (Operand.tmp 73) (Operand.tmp 76) 3, type := 4, pos := "law.go:73", after := #[{ on := 4, ground := Ground.data }, { on := 7, ground := Ground.data }], guard := none }, { dst := some 78, op := Op.binOp BinOp.neq 4 (Operand.tmp 72) (Operand.tmp 77) 4, type := 4, pos := "law.go:73", after := #[{ on := 3, ground := Ground.data }, { on := 8, ground := Ground.data }], guard := none }] true).wp Try.prog Q (lnAct M0 G3 m p q0 q1 q2 q3 q4 q5 q7 q8 q10 q12 q13 q14 q15 q16 q17 q18 q19 q20 q21 q22 q23 q24 q25 q26 q27 q28 q29 q30 q31 q32 q33 q34 q35 q36 q37 q38 q39 q40 q41 q42 q43 q44 q45 q46 q47 q48 q49 q50 q51 q52 q53 q54 q55 q56 q57 q58 q59 q60 q61 q62 q63 q64 q65 q66 q67 q68 q79 q80 q81 q82 q83 (i69) (i70) (i71) (i72) (i73) (i74) (i75) (i76) (i77) (i78)) W0 := by
  refine wp_region_inv (by kernel_rfl) (by kernel_rfl) (lnI M0 G3 m p en ec eo rb q0 q1 q2 q3 q4 q5 q7 q8 q10 q12 q13 q14 q15 q16 q17 q18 q19 q20 q21 q22 q23 q24 q25 q26 q27 q28 q29 q30 q31 q32 q33 q34 q35 q36 q37 q38 q39 q40 q41 q42 q43 q44 q45 q46 q47 q48 q49 q50 q51 q52 q53 q54 q55 q56 q57 q58 q59 q60 q61 q62 q63 q64 q65 q66 q67 q68 q79 q80 q81 q82 q83 W0) ?_ ?_ ?_
  · refine ⟨_, _, _, _, _, _, _, _, _, _, rfl, (Below.refl _ _).drew, ?_, ?_, ?_, ?_, ?_, ?_, ?_, ?_, ?_, ?_⟩ <;> (intro e; simp at e)
  · intro listed a w i o hI hs ho hl hd
    have hi9 : i < 10 := (Array.getElem?_eq_some_iff.1 ho).1
    obtain ⟨u69, u70, u71, u72, u73, u74, u75, u76, u77, u78, rfl, hB, h0, h1, h2, h3, h4, h5, h6, h7, h8, h9⟩ := hI
    have hlB := hB.size
    rcases (show i = 0 ∨ i = 1 ∨ i = 2 ∨ i = 3 ∨ i = 4 ∨ i = 5 ∨ i = 6 ∨ i = 7 ∨ i = 8 ∨ i = 9 by omega) with rfl | rfl | rfl | rfl | rfl | rfl | rfl | rfl | rfl | rfl
    · have ho' : some _ = some o := ho
      cases ho'
      have hbw : Below w.heap.size w w := Below.refl _ _
      unfold lnAct; go_simp
      exact ⟨.slice (some ⟨M0, 0, none⟩) m m, u70, u71, u72, u73, u74, u75, u76, u77, u78, rfl, hB, fun _ => rfl, fun e1 => h1 (lset_ne (by decide) e1), fun e2 => h2 (lset_ne (by decide) e2), fun e3 => h3 (lset_ne (by decide) e3), fun e4 => h4 (lset_ne (by decide) e4), fun e5 => h5 (lset_ne (by decide) e5), fun e6 => h6 (lset_ne (by decide) e6), fun e7 => h7 (lset_ne (by decide) e7), fun e8 => h8 (lset_ne (by decide) e8), fun e9 => h9 (lset_ne (by decide) e9)⟩
    · have ho' : some _ = some o := ho
      cases ho'
      have hbw : Below w.heap.size w w := Below.refl _ _
      unfold lnAct; go_simp
      exact ⟨u69, .int .i64 (p : Int), u71, u72, u73, u74, u75, u76, u77, u78, rfl, hB, fun e0 => h0 (lset_ne (by decide) e0), fun _ => rfl, fun e2 => h2 (lset_ne (by decide) e2), fun e3 => h3 (lset_ne (by decide) e3), fun e4 => h4 (lset_ne (by decide) e4), fun e5 => h5 (lset_ne (by decide) e5), fun e6 => h6 (lset_ne (by decide) e6), fun e7 => h7 (lset_ne (by decide) e7), fun e8 => h8 (lset_ne (by decide) e8), fun e9 => h9 (lset_ne (by decide) e9)⟩
    · have ho' : some _ = some o := ho
      cases ho'
      have d0 := hd { on := 0, ground := .data } (by simp) rfl
      have d1 := hd { on := 1, ground := .data } (by simp) rfl
      have hbw : Below w.heap.size w w := Below.refl _ _
      have p0 : (0 : Int) ≤ (p : Int) := by omega
      have p1 : (p : Int) < (m : Int) := by omega
      have e0 := h0 d0
      subst e0
      have e1 := h1 d1
      subst e1
      unfold lnAct; go_simp
      exact ⟨.slice (some ⟨M0, 0, none⟩) m m, .int .i64 (p : Int), .pointer (some ⟨M0, p, none⟩), u72, u73, u74, u75, u76, u77, u78, rfl, hB, fun e0 => h0 (lset_ne (by decide) e0), fun e1 => h1 (lset_ne (by decide) e1), fun _ => rfl, fun e3 => h3 (lset_ne (by decide) e3), fun e4 => h4 (lset_ne (by decide) e4), fun e5 => h5 (lset_ne (by decide) e5), fun e6 => h6 (lset_ne (by decide) e6), fun e7 => h7 (lset_ne (by decide) e7), fun e8 => h8 (lset_ne (by decide) e8), fun e9 => h9 (lset_ne (by decide) e9)⟩
    · have ho' : some _ = some o := ho
      cases ho'
      have d2 := hd { on := 2, ground := .data } (by simp) rfl
      have hbw : Below w.heap.size w w := Below.refl _ _
      have c0 := (hB.cell (p := ⟨M0, p, none⟩) hM).trans hb
      have e2 := h2 d2
      subst e2
      unfold lnAct; go_simp
      exact ⟨u69, u70, .pointer (some ⟨M0, p, none⟩), .bool rb, u73, u74, u75, u76, u77, u78, rfl, hB, fun e0 => h0 (lset_ne (by decide) e0), fun e1 => h1 (lset_ne (by decide) e1), fun e2 => h2 (lset_ne (by decide) e2), fun _ => rfl, fun e4 => h4 (lset_ne (by decide) e4), fun e5 => h5 (lset_ne (by decide) e5), fun e6 => h6 (lset_ne (by decide) e6), fun e7 => h7 (lset_ne (by decide) e7), fun e8 => h8 (lset_ne (by decide) e8), fun e9 => h9 (lset_ne (by decide) e9)⟩
    · have ho' : some _ = some o := ho
      cases ho'
      have hbw : Below w.heap.size w w := Below.refl _ _
      unfold lnAct; go_simp
      exact ⟨u69, u70, u71, u72, .int .i64 (p : Int), u74, u75, u76, u77, u78, rfl, hB, fun e0 => h0 (lset_ne (by decide) e0), fun e1 => h1 (lset_ne (by decide) e1), fun e2 => h2 (lset_ne (by decide) e2), fun e3 => h3 (lset_ne (by decide) e3), fun _ => rfl, fun e5 => h5 (lset_ne (by decide) e5), fun e6 => h6 (lset_ne (by decide) e6), fun e7 => h7 (lset_ne (by decide) e7), fun e8 => h8 (lset_ne (by decide) e8), fun e9 => h9 (lset_ne (by decide) e9)⟩
    · have ho' : some _ = some o := ho
      cases ho'
      have hbw : Below w.heap.size w w := Below.refl _ _
      unfold lnAct; go_simp
      exact ⟨u69, u70, u71, u72, u73, .pointer (some ⟨G3, 2, none⟩), u75, u76, u77, u78, rfl, hB, fun e0 => h0 (lset_ne (by decide) e0), fun e1 => h1 (lset_ne (by decide) e1), fun e2 => h2 (lset_ne (by decide) e2), fun e3 => h3 (lset_ne (by decide) e3), fun e4 => h4 (lset_ne (by decide) e4), fun _ => rfl, fun e6 => h6 (lset_ne (by decide) e6), fun e7 => h7 (lset_ne (by decide) e7), fun e8 => h8 (lset_ne (by decide) e8), fun e9 => h9 (lset_ne (by decide) e9)⟩
    · have ho' : some _ = some o := ho
      cases ho'
      have d5 := hd { on := 5, ground := .data } (by simp) rfl
      have hbw : Below w.heap.size w w := Below.refl _ _
      have c0 := (hB.cell (p := ⟨G3, 2, none⟩) hG).trans he
      have e5 := h5 d5
      subst e5
      unfold lnAct; go_simp
      exact ⟨u69, u70, u71, u72, u73, .pointer (some ⟨G3, 2, none⟩), .slice eo en ec, u76, u77, u78, rfl, hB, fun e0 => h0 (lset_ne (by decide) e0), fun e1 => h1 (lset_ne (by decide) e1), fun e2 => h2 (lset_ne (by decide) e2), fun e3 => h3 (lset_ne (by decide) e3), fun e4 => h4 (lset_ne (by decide) e4), fun e5 => h5 (lset_ne (by decide) e5), fun _ => rfl, fun e7 => h7 (lset_ne (by decide) e7), fun e8 => h8 (lset_ne (by decide) e8), fun e9 => h9 (lset_ne (by decide) e9)⟩
    · have ho' : some _ = some o := ho
      cases ho'
      have d6 := hd { on := 6, ground := .data } (by simp) rfl
      have hbw : Below w.heap.size w w := Below.refl _ _
      have e6 := h6 d6
      subst e6
      unfold lnAct; go_simp
      exact ⟨u69, u70, u71, u72, u73, u74, .slice eo en ec, .int .i64 (en : Int), u77, u78, rfl, hB, fun e0 => h0 (lset_ne (by decide) e0), fun e1 => h1 (lset_ne (by decide) e1), fun e2 => h2 (lset_ne (by decide) e2), fun e3 => h3 (lset_ne (by decide) e3), fun e4 => h4 (lset_ne (by decide) e4), fun e5 => h5 (lset_ne (by decide) e5), fun e6 => h6 (lset_ne (by decide) e6), fun _ => rfl, fun e8 => h8 (lset_ne (by decide) e8), fun e9 => h9 (lset_ne (by decide) e9)⟩
    · have ho' : some _ = some o := ho
      cases ho'
      have d4 := hd { on := 4, ground := .data } (by simp) rfl
      have d7 := hd { on := 7, ground := .data } (by simp) rfl
      have hbw : Below w.heap.size w w := Below.refl _ _
      have e4 := h4 d4
      subst e4
      have e7 := h7 d7
      subst e7
      unfold lnAct; go_simp
      exact ⟨u69, u70, u71, u72, .int .i64 (p : Int), u74, u75, .int .i64 (en : Int), .bool (decide (p ≤ en)), u78, rfl, hB, fun e0 => h0 (lset_ne (by decide) e0), fun e1 => h1 (lset_ne (by decide) e1), fun e2 => h2 (lset_ne (by decide) e2), fun e3 => h3 (lset_ne (by decide) e3), fun e4 => h4 (lset_ne (by decide) e4), fun e5 => h5 (lset_ne (by decide) e5), fun e6 => h6 (lset_ne (by decide) e6), fun e7 => h7 (lset_ne (by decide) e7), fun _ => rfl, fun e9 => h9 (lset_ne (by decide) e9)⟩
    · have ho' : some _ = some o := ho
      cases ho'
      have d3 := hd { on := 3, ground := .data } (by simp) rfl
      have d8 := hd { on := 8, ground := .data } (by simp) rfl
      have hbw : Below w.heap.size w w := Below.refl _ _
      have e3 := h3 d3
      subst e3
      have e8 := h8 d8
      subst e8
      unfold lnAct; go_simp
      exact ⟨u69, u70, u71, .bool rb, u73, u74, u75, u76, .bool (decide (p ≤ en)), .bool (rb != decide (p ≤ en)), rfl, hB, fun e0 => h0 (lset_ne (by decide) e0), fun e1 => h1 (lset_ne (by decide) e1), fun e2 => h2 (lset_ne (by decide) e2), fun e3 => h3 (lset_ne (by decide) e3), fun e4 => h4 (lset_ne (by decide) e4), fun e5 => h5 (lset_ne (by decide) e5), fun e6 => h6 (lset_ne (by decide) e6), fun e7 => h7 (lset_ne (by decide) e7), fun e8 => h8 (lset_ne (by decide) e8), fun _ => rfl⟩
  · rintro listed a w ⟨u69, u70, u71, u72, u73, u74, u75, u76, u77, u78, rfl, hB, h0, h1, h2, h3, h4, h5, h6, h7, h8, h9⟩ hall
    exact hQ _ _ _ _ _ _ _ _ _ _ w hB (h0 (hall 0 (by decide))) (h1 (hall 1 (by decide))) (h2 (hall 2 (by decide))) (h3 (hall 3 (by decide))) (h4 (hall 4 (by decide))) (h5 (hall 5 (by decide))) (h6 (hall 6 (by decide))) (h7 (hall 7 (by decide))) (h8 (hall 8 (by decide))) (h9 (hall 9 (by decide)))
end Go.Proofs.Ytjjkabgbcflipaa
