import Derived.Test.YtjjkabgbcflipaaTz3
set_option linter.unusedSimpArgs false
set_option linter.unusedVariables false
namespace Go.Proofs.Ytjjkabgbcflipaa
open Go Go.Proofs Go.RowKit Go.Shelf GM

/-- The worlds in which the steps of the region run. -/
def RowC (lo G3 : Nat) (f t : Int) (v : Value) (L : List Ed) (W0 : World) (ub ua : Value) (listed : Array Bool) (w : World) : Prop :=
  (listed.getD 12 false = false ∧ listed.getD 14 false = false ∧ Below W0.heap.size W0 w ∧ (listed.getD 9 false = true → listed.getD 5 false = true) ∧ (listed.getD 11 false = true → ∃ b, ub = .slice (some ⟨b, 0, none⟩) 1 1 ∧ b < w.heap.size ∧ EdAt w b 0 (zE f t))) ∨
  ((listed.getD 12 false = true ∧ listed.getD 11 false = true ∧ listed.getD 9 false = true ∧ listed.getD 5 false = true ∧ ∃ g n c, ua = .slice (some ⟨g, 0, none⟩) n c ∧ g ≠ G3) ∧ listed.getD 14 false = false ∧ EOwn lo w ua (L ++ [zE f t]) ∧ But (fun b => v.ownBlock = some b) W0 w) ∨
  ((∀ j, j < 15 → listed.getD j false = true) ∧ EOwn lo w ua (L ++ [zE f t]) ∧ w.cell? ⟨G3, 2, none⟩ = some ua ∧ (∃ g n c, ua = .slice (some ⟨g, 0, none⟩) n c ∧ g ≠ G3) ∧ ∃ w', But (fun b => v.ownBlock = some b) W0 w' ∧ w = w'.setCell ⟨G3, 2, none⟩ ua)
theorem RowC.live {lo G3 : Nat} {f t : Int} {v : Value} {L : List Ed} {W0 w : World} {ub ua : Value} {listed : Array Bool} {i : Nat} (h : RowC lo G3 f t v L W0 ub ua listed w) (hi : i < 15) (hl : listed.getD i true = false) :
    But (fun b => v.ownBlock = some b) W0 w ∧ listed.getD 14 false = false := by
  rcases h with ⟨-, h2, h3, -⟩ | ⟨-, h2, -, h3⟩ | ⟨h1, -⟩
  · exact ⟨But.of_below h3, h2⟩
  · exact ⟨h3, h2⟩
  · exact (no_both hl (h1 i hi)).elim
theorem RowC.step {lo G3 : Nat} {f t : Int} {v : Value} {L : List Ed} {W0 w : World} {ub ua : Value} {listed : Array Bool} {i : Nat} (h : RowC lo G3 f t v L W0 ub ua listed w) (h10 : i ≠ 11) (h11 : i ≠ 12) (h13 : i ≠ 14) (h9 : i ≠ 9) :
    RowC lo G3 f t v L W0 ub ua (listed.setIfInBounds i true) w := by
  rcases h with ⟨h1, h2, h3, h5, h4⟩ | ⟨h1, h2, h3, h4⟩ | ⟨h1, h2, h3⟩
  · exact .inl ⟨by rw [getD_set_ne false h11]; exact h1, by rw [getD_set_ne false h13]; exact h2, h3, fun e => lset_up (h5 (lset_ne h9 e)), fun e => h4 (lset_ne h10 e)⟩
  · exact .inr (.inl ⟨⟨lset_up h1.1, lset_up h1.2.1, lset_up h1.2.2.1, lset_up h1.2.2.2.1, h1.2.2.2.2⟩, by rw [getD_set_ne false h13]; exact h2, h3, h4⟩)
  · exact .inr (.inr ⟨fun j hj => lset_up (h1 j hj), h2, h3⟩)
/-- A call's step. -/
theorem RowC.call {lo G3 : Nat} {f t : Int} {v : Value} {L : List Ed} {W0 w : World} {ub ua : Value} {listed : Array Bool} {i : Nat} (h : RowC lo G3 f t v L W0 ub ua listed w) (hi : i = 5 ∨ i = 9) (hl : listed.getD i true = false) (h5 : i = 9 → listed.getD 5 false = true) :
    Below W0.heap.size W0 w ∧ ∀ w', Below w.heap.size w w' → RowC lo G3 f t v L W0 ub ua (listed.setIfInBounds i true) w' := by
  rcases h with ⟨h1, h2, h3, h6, h4⟩ | ⟨h1, -⟩ | ⟨h1, -⟩
  · refine ⟨h3, fun w' hb => .inl ⟨by rw [getD_set_ne false (by omega)]; exact h1, by rw [getD_set_ne false (by omega)]; exact h2, Below.chain h3 hb, fun e => ?_, fun e => ?_⟩⟩
    · rcases hi with rfl | rfl
      · exact lset_up (h6 (lset_ne (by decide) e))
      · exact lset_up (h5 rfl)
    · obtain ⟨b, e1, e2, e3⟩ := h4 (lset_ne (by omega) e)
      exact ⟨b, e1, Nat.lt_of_lt_of_le e2 hb.size, e3.below hb e2⟩
  · rcases hi with rfl | rfl
    · exact (no_both hl h1.2.2.2.1).elim
    · exact (no_both hl h1.2.2.1).elim
  · exact (no_both hl (h1 i (by omega))).elim
def tvAct (G3 gb eb : Nat) (q0 q1 q2 q5 q7 q8 q9 q10 q11 q12 q13 q14 q15 q16 q17 q18 q19 q20 q21 q22 q23 q24 q25 q26 q27 q28 q43 q44 q45 q46 q47 q48 q49 q50 q51 q52 q53 q54 q55 q56 q57 q58 q59 q60 q61 q62 q63 q64 q65 q66 q67 q68 q69 q70 q71 q72 q73 q74 q75 q76 q77 q78 q79 q80 q81 q82 q83 q84 q85 q86 q87 q88 q89 q90 q91 q92 q93 q94 q95 q96 q97 q98 q99 q100 q101 q102 q103 q104 q105 q106 q107 q108 q109 q110 q111 q112 q113 q114 q115 q116 q117 q118 q119 q120 q121 q122 q123 u29 u30 u31 u32 u33 u34 u35 u36 u37 u38 u39 u40 u41 u42 : Value) : Act :=
  { tmps := #[q0, q1, q2, .func (.func 44) #[] #[.pointer (some ⟨gb, 0, none⟩)], .pointer (some ⟨G3, 0, none⟩), q5, .pointer (some ⟨eb, 0, none⟩), q7, q8, q9, q10, q11, q12, q13, q14, q15, q16, q17, q18, q19, q20, q21, q22, q23, q24, q25, q26, q27, q28, u29, u30, u31, u32, u33, u34, u35, u36, u37, u38, u39, u40, u41, u42, q43, q44, q45, q46, q47, q48, q49, q50, q51, q52, q53, q54, q55, q56, q57, q58, q59, q60, q61, q62, q63, q64, q65, q66, q67, q68, q69, q70, q71, q72, q73, q74, q75, q76, q77, q78, q79, q80, q81, q82, q83, q84, q85, q86, q87, q88, q89, q90, q91, q92, q93, q94, q95, q96, q97, q98, q99, q100, q101, q102, q103, q104, q105, q106, q107, q108, q109, q110, q111, q112, q113, q114, q115, q116, q117, q118, q119, q120, q121, q122, q123], defers := [] }
def tvI (lo G3 gb eb r s : Nat) (f t : Int) (v : Value) (L : List Ed) (q0 q1 q2 q5 q7 q8 q9 q10 q11 q12 q13 q14 q15 q16 q17 q18 q19 q20 q21 q22 q23 q24 q25 q26 q27 q28 q43 q44 q45 q46 q47 q48 q49 q50 q51 q52 q53 q54 q55 q56 q57 q58 q59 q60 q61 q62 q63 q64 q65 q66 q67 q68 q69 q70 q71 q72 q73 q74 q75 q76 q77 q78 q79 q80 q81 q82 q83 q84 q85 q86 q87 q88 q89 q90 q91 q92 q93 q94 q95 q96 q97 q98 q99 q100 q101 q102 q103 q104 q105 q106 q107 q108 q109 q110 q111 q112 q113 q114 q115 q116 q117 q118 q119 q120 q121 q122 q123 : Value) (W0 : World) (listed : Array Bool) (a : Act) (w : World) : Prop :=
  ∃ u29 u30 u31 u32 u33 u34 u35 u36 u37 u38 u39 u40 u41 u42, a = tvAct G3 gb eb q0 q1 q2 q5 q7 q8 q9 q10 q11 q12 q13 q14 q15 q16 q17 q18 q19 q20 q21 q22 q23 q24 q25 q26 q27 q28 q43 q44 q45 q46 q47 q48 q49 q50 q51 q52 q53 q54 q55 q56 q57 q58 q59 q60 q61 q62 q63 q64 q65 q66 q67 q68 q69 q70 q71 q72 q73 q74 q75 q76 q77 q78 q79 q80 q81 q82 q83 q84 q85 q86 q87 q88 q89 q90 q91 q92 q93 q94 q95 q96 q97 q98 q99 q100 q101 q102 q103 q104 q105 q106 q107 q108 q109 q110 q111 q112 q113 q114 q115 q116 q117 q118 q119 q120 q121 q122 q123 u29 u30 u31 u32 u33 u34 u35 u36 u37 u38 u39 u40 u41 u42 ∧ RowC lo G3 f t v L W0 u40 u41 listed w ∧
    (listed.getD 0 false = true → u29 = .pointer (some ⟨G3, 2, none⟩)) ∧
    (listed.getD 1 false = true → u30 = v) ∧
    (listed.getD 2 false = true → u31 = .func (.func 44) #[] #[.pointer (some ⟨gb, 0, none⟩)]) ∧
    (listed.getD 3 false = true → u32 = .pointer (some ⟨eb, 1, none⟩)) ∧
    (listed.getD 4 false = true → u33 = .int .i64 (s : Int)) ∧
    (listed.getD 5 false = true → u34 = .int .i64 f) ∧
    (listed.getD 6 false = true → u35 = .func (.func 44) #[] #[.pointer (some ⟨gb, 0, none⟩)]) ∧
    (listed.getD 7 false = true → u36 = .pointer (some ⟨eb, 0, none⟩)) ∧
    (listed.getD 8 false = true → u37 = .int .i64 (r : Int)) ∧
    (listed.getD 9 false = true → u38 = .int .i64 t) ∧
    (listed.getD 10 false = true → u39 = .agg #[.int .i64 f, .int .i64 t, .int .i64 0, .int .i64 0, .int .i64 0, .int .i64 0, .int .i64 0, .int .i64 0, .int .i64 0, .string ⟨#[]⟩, .int .i64 0, .slice none 0 0, .int .i64 0, .string ⟨#[]⟩, .int .i64 0, .slice none 0 0, .int .i64 0, .slice none 0 0, .slice none 0 0, .slice none 0 0, .slice none 0 0]) ∧
    (listed.getD 13 false = true → u42 = .pointer (some ⟨G3, 2, none⟩))
set_option maxRecDepth 20000 in
set_option maxHeartbeats 4000000 in
theorem tv_region (lo G3 gb eb r s : Nat) (f t : Int) (v : Value) (L : List Ed) (q0 q1 q2 q5 q7 q8 q9 q10 q11 q12 q13 q14 q15 q16 q17 q18 q19 q20 q21 q22 q23 q24 q25 q26 q27 q28 q43 q44 q45 q46 q47 q48 q49 q50 q51 q52 q53 q54 q55 q56 q57 q58 q59 q60 q61 q62 q63 q64 q65 q66 q67 q68 q69 q70 q71 q72 q73 q74 q75 q76 q77 q78 q79 q80 q81 q82 q83 q84 q85 q86 q87 q88 q89 q90 q91 q92 q93 q94 q95 q96 q97 q98 q99 q100 q101 q102 q103 q104 q105 q106 q107 q108 q109 q110 q111 q112 q113 q114 q115 q116 q117 q118 q119 q120 q121 q122 q123 : Value) (W0 : World) (i29 i30 i31 i32 i33 i34 i35 i36 i37 i38 i39 i40 i41 i42 : Value) (hL : L.length ≤ 2000) (hG3 : G3 < W0.heap.size) (hGn : ∀ b, v.ownBlock = some b → b ≠ G3) (hen : ∀ b, v.ownBlock = some b → b ≠ eb) (heb : eb < W0.heap.size) (he0 : W0.cell? ⟨eb, 0, none⟩ = some (.int .i64 (r : Int))) (he1 : W0.cell? ⟨eb, 1, none⟩ = some (.int .i64 (s : Int))) (hv : W0.cell? ⟨G3, 2, none⟩ = some v) (hvf : W0.frozen? ⟨G3, 2, none⟩ = false) (how : EOwn lo W0 v L) (hlo : lo ≤ W0.heap.size) (c1 : ∀ W, Below W0.heap.size W0 W → Calls Try.prog 44 #[.int .i64 (s : Int), .pointer (some ⟨gb, 0, none⟩)] W fun e w' => e = .returned (.int .i64 f) ∧ Below W.heap.size W w') (c2 : ∀ W, Below W0.heap.size W0 W → Calls Try.prog 44 #[.int .i64 (r : Int), .pointer (some ⟨gb, 0, none⟩)] W fun e w' => e = .returned (.int .i64 t) ∧ Below W.heap.size W w') {Q : Exit → Act → World → Prop}
    (hQ : ∀ u29 u30 u31 u32 u33 u34 u35 u36 u37 u38 u39 u40 u41 u42 w, (EOwn lo w u41 (L ++ [zE f t]) ∧ w.cell? ⟨G3, 2, none⟩ = some u41 ∧ (∃ g n c, u41 = .slice (some ⟨g, 0, none⟩) n c ∧ g ≠ G3) ∧ ∃ w', But (fun b => v.ownBlock = some b) W0 w' ∧ w = w'.setCell ⟨G3, 2, none⟩ u41) → (u29 = .pointer (some ⟨G3, 2, none⟩)) → (u30 = v) → (u31 = .func (.func 44) #[] #[.pointer (some ⟨gb, 0, none⟩)]) → (u32 = .pointer (some ⟨eb, 1, none⟩)) → (u33 = .int .i64 (s : Int)) → (u34 = .int .i64 f) → (u35 = .func (.func 44) #[] #[.pointer (some ⟨gb, 0, none⟩)]) → (u36 = .pointer (some ⟨eb, 0, none⟩)) → (u37 = .int .i64 (r : Int)) → (u38 = .int .i64 t) → (u39 = .agg #[.int .i64 f, .int .i64 t, .int .i64 0, .int .i64 0, .int .i64 0, .int .i64 0, .int .i64 0, .int .i64 0, .int .i64 0, .string ⟨#[]⟩, .int .i64 0, .slice none 0 0, .int .i64 0, .string ⟨#[]⟩, .int .i64 0, .slice none 0 0, .int .i64 0, .slice none 0 0, .slice none 0 0, .slice none 0 0, .slice none 0 0]) → (u42 = .pointer (some ⟨G3, 2, none⟩)) → Q .normal (tvAct G3 gb eb q0 q1 q2 q5 q7 q8 q9 q10 q11 q12 q13 q14 q15 q16 q17 q18 q19 q20 q21 q22 q23 q24 q25 q26 q27 q28 q43 q44 q45 q46 q47 q48 q49 q50 q51 q52 q53 q54 q55 q56 q57 q58 q59 q60 q61 q62 q63 q64 q65 q66 q67 q68 q69 q70 q71 q72 q73 q74 q75 q76 q77 q78 q79 q80 q81 q82 q83 q84 q85 q86 q87 q88 q89 q90 q91 q92 q93 q94 q95 q96 q97 q98 q99 q100 q101 q102 q103 q104 q105 q106 q107 q108 q109 q110 q111 q112 q113 q114 q115 q116 q117 q118 q119 q120 q121 q122 q123 u29 u30 u31 u32 u33 u34 u35 u36 u37 u38 u39 u40 u41 u42) w) :
    (Code.region 8 #[{ dst := some 29, op := Op.fieldAddr 24 (Operand.tmp 4) 2, type := 0, pos := "law.go:256", after := #[], guard := none }, { dst := some 30, op := Op.load 22 (Operand.tmp 29), type := 22, pos := "law.go:256", after := #[{ on := 0, ground := Ground.data }], guard := none }, { dst := some 31, op := Op.move (Operand.tmp 3), type := 84, pos := "law.go:256", after := #[], guard := none }, { dst := some 32, op := Op.fieldAddr 55 (Operand.tmp 6) 1, type := 0, pos := "law.go:256", after := #[], guard := none }, { dst := some 33, op := Op.load 3 (Operand.tmp 32), type := 3, pos := "law.go:256", after := #[{ on := 3, ground := Ground.data }], guard := none }, { dst := some 34, op := Op.call { callee := Callee.value (Operand.tmp 31), args := #[Operand.tmp 33], argTypes := #[3] }, type := 3, pos := "law.go:256", after := #[{ on := 2, ground := Ground.data }, { on := 4, ground := Ground.data }], guard := none }, { dst := some 35, op := Op.move (Operand.tmp 3), type := 84, pos := "law.go:256", after := #[], guard := none }, { dst := some 36, op := Op.fieldAddr 55 (Operand.tmp 6) 0, type := 0, pos := "law.go:256", after := #[], guard := none }, { dst := some 37, op := Op.load 3 (Operand.tmp 36), type := 3, pos := "law.go:256", after := #[{ on := 7, ground := Ground.data }], guard := none }, { dst := some 38, op := Op.call { callee := Callee.value (Operand.tmp 35), args := #[Operand.tmp 37], argTypes := #[3] }, type := 3, pos := "law.go:256", after := #[{ on := 6, ground := Ground.data }, { on := 8, ground := Ground.data }, { on := 5, ground := Ground.chain }], guard := none }, { dst := some 39, op := Op.build 55 #[(0, Operand.tmp 34), (1, Operand.tmp 38)], type := 55, pos := "law.go:256", after := #[{ on := 5, ground := Ground.data }, { on := 9, ground := Ground.data }], guard := none }, { dst := some 40, op := Op.buildSlice 22 1 #[(0, Operand.tmp 39)], type := 22, pos := "law.go:256", after := #[{ on := 10, ground := Ground.data }], guard := none }, { dst := some 41, op := Op.call { callee := Callee.builtin Builtin.append, args := #[Operand.tmp 30, Operand.tmp 40], argTypes := #[22, 22] }, type := 22, pos := "law.go:256", after := #[{ on := 1, ground := Ground.data }, { on := 11, ground := Ground.data }, { on := 9, ground := Ground.chain }], guard := none }, { dst := some 42, op := Op.fieldAddr 24 (Operand.tmp 4) 2, type := 0, pos := "law.go:256", after := #[{ on := 0, ground := Ground.phase }, { on := 1, ground := Ground.phase }, { on := 2, ground := Ground.phase }, { on := 3, ground := Ground.phase }, { on := 4, ground := Ground.phase }, { on := 5, ground := Ground.phase }, { on := 6, ground := Ground.phase }, { on := 7, ground := Ground.phase }, { on := 8, ground := Ground.phase }, { on := 9, ground := Ground.phase }, { on := 10, ground := Ground.phase }, { on := 11, ground := Ground.phase }, { on := 12, ground := Ground.phase }], guard := none }, { dst := none, op := Op.store 22 (Operand.tmp 42) (Operand.tmp 41), type := 0, pos := "law.go:256", after := #[{ on := 13, ground := Ground.data }, { on := 12, ground := Ground.data }, { on := 12, ground := Ground.chain }, { on := 0, ground := Ground.phase }, { on := 1, ground := Ground.phase }, { on := 2, ground := Ground.phase }, { on := 3, ground := Ground.phase }, { on := 4, ground := Ground.phase }, { on := 5, ground := Ground.phase }, { on := 6, ground := Ground.phase }, { on := 7, ground := Ground.phase }, { on := 8, ground := Ground.phase }, { on := 9, ground := Ground.phase }, { on := 10, ground := Ground.phase }, { on := 11, ground := Ground.phase }, { on := 12, ground := Ground.phase }], guard := none }] true).wp Try.prog Q (tvAct G3 gb eb q0 q1 q2 q5 q7 q8 q9 q10 q11 q12 q13 q14 q15 q16 q17 q18 q19 q20 q21 q22 q23 q24 q25 q26 q27 q28 q43 q44 q45 q46 q47 q48 q49 q50 q51 q52 q53 q54 q55 q56 q57 q58 q59 q60 q61 q62 q63 q64 q65 q66 q67 q68 q69 q70 q71 q72 q73 q74 q75 q76 q77 q78 q79 q80 q81 q82 q83 q84 q85 q86 q87 q88 q89 q90 q91 q92 q93 q94 q95 q96 q97 q98 q99 q100 q101 q102 q103 q104 q105 q106 q107 q108 q109 q110 q111 q112 q113 q114 q115 q116 q117 q118 q119 q120 q121 q122 q123 (i29) (i30) (i31) (i32) (i33) (i34) (i35) (i36) (i37) (i38) (i39) (i40) (i41) (i42)) W0 := by
  refine wp_region_inv (by kernel_rfl) (by kernel_rfl) (tvI lo G3 gb eb r s f t v L q0 q1 q2 q5 q7 q8 q9 q10 q11 q12 q13 q14 q15 q16 q17 q18 q19 q20 q21 q22 q23 q24 q25 q26 q27 q28 q43 q44 q45 q46 q47 q48 q49 q50 q51 q52 q53 q54 q55 q56 q57 q58 q59 q60 q61 q62 q63 q64 q65 q66 q67 q68 q69 q70 q71 q72 q73 q74 q75 q76 q77 q78 q79 q80 q81 q82 q83 q84 q85 q86 q87 q88 q89 q90 q91 q92 q93 q94 q95 q96 q97 q98 q99 q100 q101 q102 q103 q104 q105 q106 q107 q108 q109 q110 q111 q112 q113 q114 q115 q116 q117 q118 q119 q120 q121 q122 q123 W0) ?_ ?_ ?_
  · refine ⟨_, _, _, _, _, _, _, _, _, _, _, _, _, _, rfl, .inl ⟨rfl, rfl, (Below.refl _ _).drew, fun e => by simp at e, fun e => by simp at e⟩, ?_, ?_, ?_, ?_, ?_, ?_, ?_, ?_, ?_, ?_, ?_, ?_⟩ <;> (intro e; simp at e)
  · intro listed a w i o hI hs ho hl hd
    have hi9 : i < 15 := (Array.getElem?_eq_some_iff.1 ho).1
    obtain ⟨u29, u30, u31, u32, u33, u34, u35, u36, u37, u38, u39, u40, u41, u42, rfl, hB, h0, h1, h2, h3, h4, h5, h6, h7, h8, h9, h10, h13⟩ := hI
    rcases (show i = 0 ∨ i = 1 ∨ i = 2 ∨ i = 3 ∨ i = 4 ∨ i = 5 ∨ i = 6 ∨ i = 7 ∨ i = 8 ∨ i = 9 ∨ i = 10 ∨ i = 11 ∨ i = 12 ∨ i = 13 ∨ i = 14 by omega) with rfl | rfl | rfl | rfl | rfl | rfl | rfl | rfl | rfl | rfl | rfl | rfl | rfl | rfl | rfl
    · have ho' : some _ = some o := ho
      cases ho'
      obtain ⟨hb1, hst⟩ := hB.live hi9 hl
      have hB2 := hB.step (i := 0) (by decide) (by decide) (by decide) (by decide)
      unfold tvAct; go_simp
      exact ⟨.pointer (some ⟨G3, 2, none⟩), u30, u31, u32, u33, u34, u35, u36, u37, u38, u39, u40, u41, u42, rfl, hB2, fun _ => rfl, fun e1 => h1 (lset_ne (by decide) e1), fun e2 => h2 (lset_ne (by decide) e2), fun e3 => h3 (lset_ne (by decide) e3), fun e4 => h4 (lset_ne (by decide) e4), fun e5 => h5 (lset_ne (by decide) e5), fun e6 => h6 (lset_ne (by decide) e6), fun e7 => h7 (lset_ne (by decide) e7), fun e8 => h8 (lset_ne (by decide) e8), fun e9 => h9 (lset_ne (by decide) e9), fun e10 => h10 (lset_ne (by decide) e10), fun e13 => h13 (lset_ne (by decide) e13)⟩
    · have ho' : some _ = some o := ho
      cases ho'
      have d0 := hd { on := 0, ground := .data } (by simp) rfl
      obtain ⟨hb1, hst⟩ := hB.live hi9 hl
      have c2 : w.cell? ⟨G3, 2, none⟩ = some v := (hb1.cell (p := ⟨G3, 2, none⟩) hG3 (fun e => hGn _ e rfl)).trans hv
      have e0 := h0 d0
      subst e0
      have hB2 := hB.step (i := 1) (by decide) (by decide) (by decide) (by decide)
      unfold tvAct; go_simp
      exact ⟨.pointer (some ⟨G3, 2, none⟩), v, u31, u32, u33, u34, u35, u36, u37, u38, u39, u40, u41, u42, rfl, hB2, fun e0 => h0 (lset_ne (by decide) e0), fun _ => rfl, fun e2 => h2 (lset_ne (by decide) e2), fun e3 => h3 (lset_ne (by decide) e3), fun e4 => h4 (lset_ne (by decide) e4), fun e5 => h5 (lset_ne (by decide) e5), fun e6 => h6 (lset_ne (by decide) e6), fun e7 => h7 (lset_ne (by decide) e7), fun e8 => h8 (lset_ne (by decide) e8), fun e9 => h9 (lset_ne (by decide) e9), fun e10 => h10 (lset_ne (by decide) e10), fun e13 => h13 (lset_ne (by decide) e13)⟩
    · have ho' : some _ = some o := ho
      cases ho'
      obtain ⟨hb1, hst⟩ := hB.live hi9 hl
      have hB2 := hB.step (i := 2) (by decide) (by decide) (by decide) (by decide)
      unfold tvAct; go_simp
      exact ⟨u29, u30, .func (.func 44) #[] #[.pointer (some ⟨gb, 0, none⟩)], u32, u33, u34, u35, u36, u37, u38, u39, u40, u41, u42, rfl, hB2, fun e0 => h0 (lset_ne (by decide) e0), fun e1 => h1 (lset_ne (by decide) e1), fun _ => rfl, fun e3 => h3 (lset_ne (by decide) e3), fun e4 => h4 (lset_ne (by decide) e4), fun e5 => h5 (lset_ne (by decide) e5), fun e6 => h6 (lset_ne (by decide) e6), fun e7 => h7 (lset_ne (by decide) e7), fun e8 => h8 (lset_ne (by decide) e8), fun e9 => h9 (lset_ne (by decide) e9), fun e10 => h10 (lset_ne (by decide) e10), fun e13 => h13 (lset_ne (by decide) e13)⟩
    · have ho' : some _ = some o := ho
      cases ho'
      obtain ⟨hb1, hst⟩ := hB.live hi9 hl
      have hB2 := hB.step (i := 3) (by decide) (by decide) (by decide) (by decide)
      unfold tvAct; go_simp
      exact ⟨u29, u30, u31, .pointer (some ⟨eb, 1, none⟩), u33, u34, u35, u36, u37, u38, u39, u40, u41, u42, rfl, hB2, fun e0 => h0 (lset_ne (by decide) e0), fun e1 => h1 (lset_ne (by decide) e1), fun e2 => h2 (lset_ne (by decide) e2), fun _ => rfl, fun e4 => h4 (lset_ne (by decide) e4), fun e5 => h5 (lset_ne (by decide) e5), fun e6 => h6 (lset_ne (by decide) e6), fun e7 => h7 (lset_ne (by decide) e7), fun e8 => h8 (lset_ne (by decide) e8), fun e9 => h9 (lset_ne (by decide) e9), fun e10 => h10 (lset_ne (by decide) e10), fun e13 => h13 (lset_ne (by decide) e13)⟩
    · have ho' : some _ = some o := ho
      cases ho'
      have d3 := hd { on := 3, ground := .data } (by simp) rfl
      obtain ⟨hb1, hst⟩ := hB.live hi9 hl
      have c0 : w.cell? ⟨eb, 1, none⟩ = some (.int .i64 (s : Int)) := (hb1.cell (p := ⟨eb, 1, none⟩) heb (fun e => hen _ e rfl)).trans he1
      have e3 := h3 d3
      subst e3
      have hB2 := hB.step (i := 4) (by decide) (by decide) (by decide) (by decide)
      unfold tvAct; go_simp
      exact ⟨u29, u30, u31, .pointer (some ⟨eb, 1, none⟩), .int .i64 (s : Int), u34, u35, u36, u37, u38, u39, u40, u41, u42, rfl, hB2, fun e0 => h0 (lset_ne (by decide) e0), fun e1 => h1 (lset_ne (by decide) e1), fun e2 => h2 (lset_ne (by decide) e2), fun e3 => h3 (lset_ne (by decide) e3), fun _ => rfl, fun e5 => h5 (lset_ne (by decide) e5), fun e6 => h6 (lset_ne (by decide) e6), fun e7 => h7 (lset_ne (by decide) e7), fun e8 => h8 (lset_ne (by decide) e8), fun e9 => h9 (lset_ne (by decide) e9), fun e10 => h10 (lset_ne (by decide) e10), fun e13 => h13 (lset_ne (by decide) e13)⟩
    · have ho' : some _ = some o := ho
      cases ho'
      have d2 := hd { on := 2, ground := .data } (by simp) rfl
      have d4 := hd { on := 4, ground := .data } (by simp) rfl
      obtain ⟨hb1, hcall⟩ := hB.call (.inl rfl) hl (fun e => by cases e)
      have e2 := h2 d2
      subst e2
      have e4 := h4 d4
      subst e4
      unfold tvAct; go_simp
      refine (c1 w hb1).mono ?_
      rintro e w' ⟨rfl, hbw⟩
      have hB2 := hcall w' hbw
      exact ⟨u29, u30, .func (.func 44) #[] #[.pointer (some ⟨gb, 0, none⟩)], u32, .int .i64 (s : Int), .int .i64 f, u35, u36, u37, u38, u39, u40, u41, u42, rfl, hB2, fun e0 => h0 (lset_ne (by decide) e0), fun e1 => h1 (lset_ne (by decide) e1), fun e2 => h2 (lset_ne (by decide) e2), fun e3 => h3 (lset_ne (by decide) e3), fun e4 => h4 (lset_ne (by decide) e4), fun _ => rfl, fun e6 => h6 (lset_ne (by decide) e6), fun e7 => h7 (lset_ne (by decide) e7), fun e8 => h8 (lset_ne (by decide) e8), fun e9 => h9 (lset_ne (by decide) e9), fun e10 => h10 (lset_ne (by decide) e10), fun e13 => h13 (lset_ne (by decide) e13)⟩
    · have ho' : some _ = some o := ho
      cases ho'
      obtain ⟨hb1, hst⟩ := hB.live hi9 hl
      have hB2 := hB.step (i := 6) (by decide) (by decide) (by decide) (by decide)
      unfold tvAct; go_simp
      exact ⟨u29, u30, u31, u32, u33, u34, .func (.func 44) #[] #[.pointer (some ⟨gb, 0, none⟩)], u36, u37, u38, u39, u40, u41, u42, rfl, hB2, fun e0 => h0 (lset_ne (by decide) e0), fun e1 => h1 (lset_ne (by decide) e1), fun e2 => h2 (lset_ne (by decide) e2), fun e3 => h3 (lset_ne (by decide) e3), fun e4 => h4 (lset_ne (by decide) e4), fun e5 => h5 (lset_ne (by decide) e5), fun _ => rfl, fun e7 => h7 (lset_ne (by decide) e7), fun e8 => h8 (lset_ne (by decide) e8), fun e9 => h9 (lset_ne (by decide) e9), fun e10 => h10 (lset_ne (by decide) e10), fun e13 => h13 (lset_ne (by decide) e13)⟩
    · have ho' : some _ = some o := ho
      cases ho'
      obtain ⟨hb1, hst⟩ := hB.live hi9 hl
      have hB2 := hB.step (i := 7) (by decide) (by decide) (by decide) (by decide)
      unfold tvAct; go_simp
      exact ⟨u29, u30, u31, u32, u33, u34, u35, .pointer (some ⟨eb, 0, none⟩), u37, u38, u39, u40, u41, u42, rfl, hB2, fun e0 => h0 (lset_ne (by decide) e0), fun e1 => h1 (lset_ne (by decide) e1), fun e2 => h2 (lset_ne (by decide) e2), fun e3 => h3 (lset_ne (by decide) e3), fun e4 => h4 (lset_ne (by decide) e4), fun e5 => h5 (lset_ne (by decide) e5), fun e6 => h6 (lset_ne (by decide) e6), fun _ => rfl, fun e8 => h8 (lset_ne (by decide) e8), fun e9 => h9 (lset_ne (by decide) e9), fun e10 => h10 (lset_ne (by decide) e10), fun e13 => h13 (lset_ne (by decide) e13)⟩
    · have ho' : some _ = some o := ho
      cases ho'
      have d7 := hd { on := 7, ground := .data } (by simp) rfl
      obtain ⟨hb1, hst⟩ := hB.live hi9 hl
      have c0 : w.cell? ⟨eb, 0, none⟩ = some (.int .i64 (r : Int)) := (hb1.cell (p := ⟨eb, 0, none⟩) heb (fun e => hen _ e rfl)).trans he0
      have e7 := h7 d7
      subst e7
      have hB2 := hB.step (i := 8) (by decide) (by decide) (by decide) (by decide)
      unfold tvAct; go_simp
      exact ⟨u29, u30, u31, u32, u33, u34, u35, .pointer (some ⟨eb, 0, none⟩), .int .i64 (r : Int), u38, u39, u40, u41, u42, rfl, hB2, fun e0 => h0 (lset_ne (by decide) e0), fun e1 => h1 (lset_ne (by decide) e1), fun e2 => h2 (lset_ne (by decide) e2), fun e3 => h3 (lset_ne (by decide) e3), fun e4 => h4 (lset_ne (by decide) e4), fun e5 => h5 (lset_ne (by decide) e5), fun e6 => h6 (lset_ne (by decide) e6), fun e7 => h7 (lset_ne (by decide) e7), fun _ => rfl, fun e9 => h9 (lset_ne (by decide) e9), fun e10 => h10 (lset_ne (by decide) e10), fun e13 => h13 (lset_ne (by decide) e13)⟩
    · have ho' : some _ = some o := ho
      cases ho'
      have d6 := hd { on := 6, ground := .data } (by simp) rfl
      have d8 := hd { on := 8, ground := .data } (by simp) rfl
      have d5 := hd { on := 5, ground := .chain } (by simp) rfl
      obtain ⟨hb1, hcall⟩ := hB.call (.inr rfl) hl (fun e => by exact d5)
      have e5 := h5 d5
      subst e5
      have e6 := h6 d6
      subst e6
      have e8 := h8 d8
      subst e8
      unfold tvAct; go_simp
      refine (c2 w hb1).mono ?_
      rintro e w' ⟨rfl, hbw⟩
      have hB2 := hcall w' hbw
      exact ⟨u29, u30, u31, u32, u33, .int .i64 f, .func (.func 44) #[] #[.pointer (some ⟨gb, 0, none⟩)], u36, .int .i64 (r : Int), .int .i64 t, u39, u40, u41, u42, rfl, hB2, fun e0 => h0 (lset_ne (by decide) e0), fun e1 => h1 (lset_ne (by decide) e1), fun e2 => h2 (lset_ne (by decide) e2), fun e3 => h3 (lset_ne (by decide) e3), fun e4 => h4 (lset_ne (by decide) e4), fun e5 => h5 (lset_ne (by decide) e5), fun e6 => h6 (lset_ne (by decide) e6), fun e7 => h7 (lset_ne (by decide) e7), fun e8 => h8 (lset_ne (by decide) e8), fun _ => rfl, fun e10 => h10 (lset_ne (by decide) e10), fun e13 => h13 (lset_ne (by decide) e13)⟩
    · have ho' : some _ = some o := ho
      cases ho'
      have d5 := hd { on := 5, ground := .data } (by simp) rfl
      have d9 := hd { on := 9, ground := .data } (by simp) rfl
      obtain ⟨hb1, hst⟩ := hB.live hi9 hl
      have e5 := h5 d5
      subst e5
      have e9 := h9 d9
      subst e9
      have hB2 := hB.step (i := 10) (by decide) (by decide) (by decide) (by decide)
      unfold tvAct; go_simp
      exact ⟨u29, u30, u31, u32, u33, .int .i64 f, u35, u36, u37, .int .i64 t, .agg #[.int .i64 f, .int .i64 t, .int .i64 0, .int .i64 0, .int .i64 0, .int .i64 0, .int .i64 0, .int .i64 0, .int .i64 0, .string ⟨#[]⟩, .int .i64 0, .slice none 0 0, .int .i64 0, .string ⟨#[]⟩, .int .i64 0, .slice none 0 0, .int .i64 0, .slice none 0 0, .slice none 0 0, .slice none 0 0, .slice none 0 0], u40, u41, u42, rfl, hB2, fun e0 => h0 (lset_ne (by decide) e0), fun e1 => h1 (lset_ne (by decide) e1), fun e2 => h2 (lset_ne (by decide) e2), fun e3 => h3 (lset_ne (by decide) e3), fun e4 => h4 (lset_ne (by decide) e4), fun e5 => h5 (lset_ne (by decide) e5), fun e6 => h6 (lset_ne (by decide) e6), fun e7 => h7 (lset_ne (by decide) e7), fun e8 => h8 (lset_ne (by decide) e8), fun e9 => h9 (lset_ne (by decide) e9), fun _ => rfl, fun e13 => h13 (lset_ne (by decide) e13)⟩
    · have ho' : some _ = some o := ho
      cases ho'
      have d10 := hd { on := 10, ground := .data } (by simp) rfl
      rcases hB with ⟨b1, b2, b3, b5, b4⟩ | ⟨b1, b2, b3, b4⟩ | ⟨b1, b2⟩
      rotate_left
      · exact (no_both hl b1.2.1).elim
      · exact (no_both hl (b1 11 (by decide))).elim
      have e10 := h10 d10
      subst e10
      have heB : EdAt (w.alloc (Obj.cells #[.int .i64 f, .int .i64 t, .int .i64 0, .int .i64 0, .int .i64 0, .int .i64 0, .int .i64 0, .int .i64 0, .int .i64 0, .string ⟨#[]⟩, .int .i64 0, .slice none 0 0, .int .i64 0, .string ⟨#[]⟩, .int .i64 0, .slice none 0 0, .int .i64 0, .slice none 0 0, .slice none 0 0, .slice none 0 0, .slice none 0 0] 55)) w.heap.size 0 (zE f t) := by have h := EdAt.box w (zE f t); first | (rw [zE_cs] at h; exact h) | exact h
      have hB2 : RowC lo G3 f t v L W0 (.slice (some ⟨w.heap.size, 0, none⟩) 1 1) u41 (listed.setIfInBounds 11 true) (w.alloc (Obj.cells #[.int .i64 f, .int .i64 t, .int .i64 0, .int .i64 0, .int .i64 0, .int .i64 0, .int .i64 0, .int .i64 0, .int .i64 0, .string ⟨#[]⟩, .int .i64 0, .slice none 0 0, .int .i64 0, .string ⟨#[]⟩, .int .i64 0, .slice none 0 0, .int .i64 0, .slice none 0 0, .slice none 0 0, .slice none 0 0, .slice none 0 0] 55)) := .inl ⟨by rw [getD_set_ne false (by decide)]; exact b1, by rw [getD_set_ne false (by decide)]; exact b2, b3.alloc b3.size _, fun e => lset_up (b5 (lset_ne (by decide) e)), fun _ => ⟨w.heap.size, rfl, by simp, heB⟩⟩
      clear heB
      unfold tvAct; go_simp
      exact ⟨u29, u30, u31, u32, u33, u34, u35, u36, u37, u38, .agg #[.int .i64 f, .int .i64 t, .int .i64 0, .int .i64 0, .int .i64 0, .int .i64 0, .int .i64 0, .int .i64 0, .int .i64 0, .string ⟨#[]⟩, .int .i64 0, .slice none 0 0, .int .i64 0, .string ⟨#[]⟩, .int .i64 0, .slice none 0 0, .int .i64 0, .slice none 0 0, .slice none 0 0, .slice none 0 0, .slice none 0 0], .slice (some ⟨w.heap.size, 0, none⟩) 1 1, u41, u42, rfl, hB2, fun e0 => h0 (lset_ne (by decide) e0), fun e1 => h1 (lset_ne (by decide) e1), fun e2 => h2 (lset_ne (by decide) e2), fun e3 => h3 (lset_ne (by decide) e3), fun e4 => h4 (lset_ne (by decide) e4), fun e5 => h5 (lset_ne (by decide) e5), fun e6 => h6 (lset_ne (by decide) e6), fun e7 => h7 (lset_ne (by decide) e7), fun e8 => h8 (lset_ne (by decide) e8), fun e9 => h9 (lset_ne (by decide) e9), fun e10 => h10 (lset_ne (by decide) e10), fun e13 => h13 (lset_ne (by decide) e13)⟩
    · have ho' : some _ = some o := ho
      cases ho'
      have d1 := hd { on := 1, ground := .data } (by simp) rfl
      have d11 := hd { on := 11, ground := .data } (by simp) rfl
      have d9 := hd { on := 9, ground := .chain } (by simp) rfl
      rcases hB with ⟨b1, b2, b3, b5, b4⟩ | ⟨b1, b2, b3, b4⟩ | ⟨b1, b2⟩
      rotate_left
      · exact (no_both hl b1.1).elim
      · exact (no_both hl (b1 12 (by decide))).elim
      obtain ⟨b, hu, hbl, hbc⟩ := b4 d11
      subst hu
      have e1 := h1 d1
      have how2 := how.but (But.of_below (S := fun _ => False) b3) (fun _ _ => id)
      refine step_pushE (v := v) (lo := lo) (L := L) (d := zE f t) rfl (.tmp 30) (.tmp 40) rfl e1 how2 (by omega) (Nat.le_trans hlo b3.size) b rfl hbc ?_
      intro g cap n9 w9 hn9 h9w hg9 hgx
      subst hn9
      have hgb : g ≠ G3 := hgx.elim (fun q => hGn _ q) (fun q => by have := b3.size; omega)
      have hb9 := (But.of_below (S := fun b => v.ownBlock = some b) b3).trans (But.of_grown (S := fun b => v.ownBlock = some b) hg9 (fun _ e => e)) (fun _ _ e => e)
      have hB2 : RowC lo G3 f t v L W0 (.slice (some ⟨b, 0, none⟩) 1 1) (.slice (some ⟨g, 0, none⟩) (L.length + 1) cap) (listed.setIfInBounds 12 true) w9 := .inr (.inl ⟨⟨lset_eq hs (by decide), lset_up d11, lset_up d9, lset_up (b5 d9), _, _, _, rfl, hgb⟩, by rw [getD_set_ne false (by decide)]; exact b2, h9w, hb9⟩)
      unfold tvAct; simp only [Act.put, List.setIfInBounds_toArray, List.set_cons_zero, List.set_cons_succ]
      exact ⟨u29, u30, u31, u32, u33, u34, u35, u36, u37, u38, u39, .slice (some ⟨b, 0, none⟩) 1 1, .slice (some ⟨g, 0, none⟩) (L.length + 1) cap, u42, rfl, hB2, fun e0 => h0 (lset_ne (by decide) e0), fun e1 => h1 (lset_ne (by decide) e1), fun e2 => h2 (lset_ne (by decide) e2), fun e3 => h3 (lset_ne (by decide) e3), fun e4 => h4 (lset_ne (by decide) e4), fun e5 => h5 (lset_ne (by decide) e5), fun e6 => h6 (lset_ne (by decide) e6), fun e7 => h7 (lset_ne (by decide) e7), fun e8 => h8 (lset_ne (by decide) e8), fun e9 => h9 (lset_ne (by decide) e9), fun e10 => h10 (lset_ne (by decide) e10), fun e13 => h13 (lset_ne (by decide) e13)⟩
    · have ho' : some _ = some o := ho
      cases ho'
      have d0 := hd { on := 0, ground := .phase } (by simp) rfl
      have d1 := hd { on := 1, ground := .phase } (by simp) rfl
      have d2 := hd { on := 2, ground := .phase } (by simp) rfl
      have d3 := hd { on := 3, ground := .phase } (by simp) rfl
      have d4 := hd { on := 4, ground := .phase } (by simp) rfl
      have d5 := hd { on := 5, ground := .phase } (by simp) rfl
      have d6 := hd { on := 6, ground := .phase } (by simp) rfl
      have d7 := hd { on := 7, ground := .phase } (by simp) rfl
      have d8 := hd { on := 8, ground := .phase } (by simp) rfl
      have d9 := hd { on := 9, ground := .phase } (by simp) rfl
      have d10 := hd { on := 10, ground := .phase } (by simp) rfl
      have d11 := hd { on := 11, ground := .phase } (by simp) rfl
      have d12 := hd { on := 12, ground := .phase } (by simp) rfl
      obtain ⟨hb1, hst⟩ := hB.live hi9 hl
      have e0 := h0 d0
      subst e0
      have e1 := (h1 d1).symm
      subst e1
      have e2 := h2 d2
      subst e2
      have e3 := h3 d3
      subst e3
      have e4 := h4 d4
      subst e4
      have e5 := h5 d5
      subst e5
      have e6 := h6 d6
      subst e6
      have e7 := h7 d7
      subst e7
      have e8 := h8 d8
      subst e8
      have e9 := h9 d9
      subst e9
      have e10 := h10 d10
      subst e10
      have hB2 := hB.step (i := 13) (by decide) (by decide) (by decide) (by decide)
      unfold tvAct; go_simp
      exact ⟨.pointer (some ⟨G3, 2, none⟩), v, .func (.func 44) #[] #[.pointer (some ⟨gb, 0, none⟩)], .pointer (some ⟨eb, 1, none⟩), .int .i64 (s : Int), .int .i64 f, .func (.func 44) #[] #[.pointer (some ⟨gb, 0, none⟩)], .pointer (some ⟨eb, 0, none⟩), .int .i64 (r : Int), .int .i64 t, .agg #[.int .i64 f, .int .i64 t, .int .i64 0, .int .i64 0, .int .i64 0, .int .i64 0, .int .i64 0, .int .i64 0, .int .i64 0, .string ⟨#[]⟩, .int .i64 0, .slice none 0 0, .int .i64 0, .string ⟨#[]⟩, .int .i64 0, .slice none 0 0, .int .i64 0, .slice none 0 0, .slice none 0 0, .slice none 0 0, .slice none 0 0], u40, u41, .pointer (some ⟨G3, 2, none⟩), rfl, hB2, fun e0 => h0 (lset_ne (by decide) e0), fun e1 => h1 (lset_ne (by decide) e1), fun e2 => h2 (lset_ne (by decide) e2), fun e3 => h3 (lset_ne (by decide) e3), fun e4 => h4 (lset_ne (by decide) e4), fun e5 => h5 (lset_ne (by decide) e5), fun e6 => h6 (lset_ne (by decide) e6), fun e7 => h7 (lset_ne (by decide) e7), fun e8 => h8 (lset_ne (by decide) e8), fun e9 => h9 (lset_ne (by decide) e9), fun e10 => h10 (lset_ne (by decide) e10), fun _ => rfl⟩
    · have ho' : some _ = some o := ho
      cases ho'
      have d13 := hd { on := 13, ground := .data } (by simp) rfl
      have d12 := hd { on := 12, ground := .data } (by simp) rfl
      have d12 := hd { on := 12, ground := .chain } (by simp) rfl
      have d0 := hd { on := 0, ground := .phase } (by simp) rfl
      have d1 := hd { on := 1, ground := .phase } (by simp) rfl
      have d2 := hd { on := 2, ground := .phase } (by simp) rfl
      have d3 := hd { on := 3, ground := .phase } (by simp) rfl
      have d4 := hd { on := 4, ground := .phase } (by simp) rfl
      have d5 := hd { on := 5, ground := .phase } (by simp) rfl
      have d6 := hd { on := 6, ground := .phase } (by simp) rfl
      have d7 := hd { on := 7, ground := .phase } (by simp) rfl
      have d8 := hd { on := 8, ground := .phase } (by simp) rfl
      have d9 := hd { on := 9, ground := .phase } (by simp) rfl
      have d10 := hd { on := 10, ground := .phase } (by simp) rfl
      have d11 := hd { on := 11, ground := .phase } (by simp) rfl
      have d12 := hd { on := 12, ground := .phase } (by simp) rfl
      obtain ⟨hb1, hst⟩ := hB.live hi9 hl
      have c2 : w.cell? ⟨G3, 2, none⟩ = some v := (hb1.cell (p := ⟨G3, 2, none⟩) hG3 (fun e => hGn _ e rfl)).trans hv
      have c3 : w.frozen? ⟨G3, 2, none⟩ = false := (hb1.frozen (p := ⟨G3, 2, none⟩) hG3 (fun e => hGn _ e rfl)).trans hvf
      rcases hB with ⟨b1, b2, b3, b5, b4⟩ | ⟨b1, b2, b3, b4⟩ | ⟨b1, b2⟩
      · rw [b1] at d12; cases d12
      rotate_left
      · exact (no_both hl (b1 14 (by decide))).elim
      obtain ⟨-, -, -, -, g, ng, cg, hu, hgb⟩ := b1
      subst hu
      have e0 := h0 d0
      subst e0
      have e1 := (h1 d1).symm
      subst e1
      have e2 := h2 d2
      subst e2
      have e3 := h3 d3
      subst e3
      have e4 := h4 d4
      subst e4
      have e5 := h5 d5
      subst e5
      have e6 := h6 d6
      subst e6
      have e7 := h7 d7
      subst e7
      have e8 := h8 d8
      subst e8
      have e9 := h9 d9
      subst e9
      have e10 := h10 d10
      subst e10
      have e13 := h13 d13
      subst e13
      have hB2 : RowC lo G3 f t v L W0 u40 (.slice (some ⟨g, 0, none⟩) ng cg) (listed.setIfInBounds 14 true) (w.setCell ⟨G3, 2, none⟩ (.slice (some ⟨g, 0, none⟩) ng cg)) := .inr (.inr ⟨fun j hj => (by rcases (show j = 0 ∨ j = 1 ∨ j = 2 ∨ j = 3 ∨ j = 4 ∨ j = 5 ∨ j = 6 ∨ j = 7 ∨ j = 8 ∨ j = 9 ∨ j = 10 ∨ j = 11 ∨ j = 12 ∨ j = 13 ∨ j = 14 by omega) with rfl | rfl | rfl | rfl | rfl | rfl | rfl | rfl | rfl | rfl | rfl | rfl | rfl | rfl | rfl <;> first | exact lset_eq hs (by decide) | exact lset_up (by assumption)), EOwn.but b3 (But.set (S := fun b => b = G3) (But.refl _ w) ⟨G3, 2, none⟩ _ (fun _ => rfl)) (fun b e q => by cases e; exact hgb q), cellSet c2 _, ⟨_, _, _, rfl, hgb⟩, w, b4, rfl⟩)
      clear b3 b4
      unfold tvAct; go_simp
      exact ⟨.pointer (some ⟨G3, 2, none⟩), v, .func (.func 44) #[] #[.pointer (some ⟨gb, 0, none⟩)], .pointer (some ⟨eb, 1, none⟩), .int .i64 (s : Int), .int .i64 f, .func (.func 44) #[] #[.pointer (some ⟨gb, 0, none⟩)], .pointer (some ⟨eb, 0, none⟩), .int .i64 (r : Int), .int .i64 t, .agg #[.int .i64 f, .int .i64 t, .int .i64 0, .int .i64 0, .int .i64 0, .int .i64 0, .int .i64 0, .int .i64 0, .int .i64 0, .string ⟨#[]⟩, .int .i64 0, .slice none 0 0, .int .i64 0, .string ⟨#[]⟩, .int .i64 0, .slice none 0 0, .int .i64 0, .slice none 0 0, .slice none 0 0, .slice none 0 0, .slice none 0 0], u40, .slice (some ⟨g, 0, none⟩) ng cg, .pointer (some ⟨G3, 2, none⟩), rfl, hB2, fun e0 => h0 (lset_ne (by decide) e0), fun e1 => h1 (lset_ne (by decide) e1), fun e2 => h2 (lset_ne (by decide) e2), fun e3 => h3 (lset_ne (by decide) e3), fun e4 => h4 (lset_ne (by decide) e4), fun e5 => h5 (lset_ne (by decide) e5), fun e6 => h6 (lset_ne (by decide) e6), fun e7 => h7 (lset_ne (by decide) e7), fun e8 => h8 (lset_ne (by decide) e8), fun e9 => h9 (lset_ne (by decide) e9), fun e10 => h10 (lset_ne (by decide) e10), fun e13 => h13 (lset_ne (by decide) e13)⟩
  · rintro listed a w ⟨u29, u30, u31, u32, u33, u34, u35, u36, u37, u38, u39, u40, u41, u42, rfl, hB, h0, h1, h2, h3, h4, h5, h6, h7, h8, h9, h10, h13⟩ hall
    exact hQ _ _ _ _ _ _ _ _ _ _ _ _ _ _ w (hB.elim (fun h => absurd h.2.1 (by rw [hall 14 (by decide)]; decide)) (fun h => h.elim (fun h => absurd h.2.1 (by rw [hall 14 (by decide)]; decide)) (fun h => h.2))) (h0 (hall 0 (by decide))) (h1 (hall 1 (by decide))) (h2 (hall 2 (by decide))) (h3 (hall 3 (by decide))) (h4 (hall 4 (by decide))) (h5 (hall 5 (by decide))) (h6 (hall 6 (by decide))) (h7 (hall 7 (by decide))) (h8 (hall 8 (by decide))) (h9 (hall 9 (by decide))) (h10 (hall 10 (by decide))) (h13 (hall 13 (by decide)))
end Go.Proofs.Ytjjkabgbcflipaa
