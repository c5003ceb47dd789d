import Derived.Test.YtjjkabgbcflipaaCu27
set_option linter.unusedSimpArgs false
set_option linter.unusedVariables false
namespace Go.Proofs.Ytjjkabgbcflipaa
open Go Go.Proofs Go.RowKit GM

def oaAct (gb ya yb : Nat) (q0 q4 q5 q6 q7 q8 q11 q12 q13 q14 q15 q16 q17 q18 q19 q20 q21 q22 q23 q24 q25 q26 q27 q28 q39 q40 q41 q42 q43 q44 q45 q46 q47 q48 q49 q50 q51 q52 q53 q54 q55 q56 q57 q58 q59 q60 q61 q62 q63 q64 q65 q66 q67 q68 q69 q70 q71 q72 q73 q74 q75 q76 q77 q78 q79 q80 q81 q82 q83 q84 q85 q86 q87 q88 q89 q90 q91 q92 q93 q94 q95 q96 q97 q98 q99 q100 q101 q102 q103 q104 q105 q106 q107 q108 q109 q110 q111 q112 q113 q114 q115 q116 q117 q118 q119 q120 q121 q122 q123 q124 q125 q126 q127 q128 q129 q130 q131 q132 q133 q134 q135 u9 u10 u29 u30 u31 u32 u33 u34 u35 u36 u37 u38 : Value) : Act :=
  { tmps := #[q0, .int .u8 (ya : Int), .int .u8 (yb : Int), .pointer (some ⟨gb, 0, none⟩), q4, q5, q6, q7, q8, u9, u10, q11, q12, q13, q14, q15, q16, q17, q18, q19, q20, q21, q22, q23, q24, q25, q26, q27, q28, u29, u30, u31, u32, u33, u34, u35, u36, u37, u38, q39, q40, q41, q42, q43, q44, q45, q46, q47, q48, q49, q50, q51, q52, q53, q54, q55, q56, q57, q58, q59, q60, q61, q62, q63, q64, q65, q66, q67, q68, q69, q70, q71, q72, q73, q74, q75, q76, q77, q78, q79, q80, q81, q82, q83, q84, q85, q86, q87, q88, q89, q90, q91, q92, q93, q94, q95, q96, q97, q98, q99, q100, q101, q102, q103, q104, q105, q106, q107, q108, q109, q110, q111, q112, q113, q114, q115, q116, q117, q118, q119, q120, q121, q122, q123, q124, q125, q126, q127, q128, q129, q130, q131, q132, q133, q134, q135], defers := [] }
def oaI (gb P ya yb p q : Nat) (q0 q4 q5 q6 q7 q8 q11 q12 q13 q14 q15 q16 q17 q18 q19 q20 q21 q22 q23 q24 q25 q26 q27 q28 q39 q40 q41 q42 q43 q44 q45 q46 q47 q48 q49 q50 q51 q52 q53 q54 q55 q56 q57 q58 q59 q60 q61 q62 q63 q64 q65 q66 q67 q68 q69 q70 q71 q72 q73 q74 q75 q76 q77 q78 q79 q80 q81 q82 q83 q84 q85 q86 q87 q88 q89 q90 q91 q92 q93 q94 q95 q96 q97 q98 q99 q100 q101 q102 q103 q104 q105 q106 q107 q108 q109 q110 q111 q112 q113 q114 q115 q116 q117 q118 q119 q120 q121 q122 q123 q124 q125 q126 q127 q128 q129 q130 q131 q132 q133 q134 q135 : Value) (W0 : World) (listed : Array Bool) (a : Act) (w : World) : Prop :=
  ∃ u9 u10 u29 u30 u31 u32 u33 u34 u35 u36 u37 u38, a = oaAct gb ya yb q0 q4 q5 q6 q7 q8 q11 q12 q13 q14 q15 q16 q17 q18 q19 q20 q21 q22 q23 q24 q25 q26 q27 q28 q39 q40 q41 q42 q43 q44 q45 q46 q47 q48 q49 q50 q51 q52 q53 q54 q55 q56 q57 q58 q59 q60 q61 q62 q63 q64 q65 q66 q67 q68 q69 q70 q71 q72 q73 q74 q75 q76 q77 q78 q79 q80 q81 q82 q83 q84 q85 q86 q87 q88 q89 q90 q91 q92 q93 q94 q95 q96 q97 q98 q99 q100 q101 q102 q103 q104 q105 q106 q107 q108 q109 q110 q111 q112 q113 q114 q115 q116 q117 q118 q119 q120 q121 q122 q123 q124 q125 q126 q127 q128 q129 q130 q131 q132 q133 q134 q135 u9 u10 u29 u30 u31 u32 u33 u34 u35 u36 u37 u38 ∧ Below W0.heap.size W0 w ∧
    (listed.getD 0 false = true → u29 = .int .u8 (ya : Int)) ∧
    (listed.getD 1 false = true → u30 = .int .i64 (ya : Int)) ∧
    (listed.getD 2 false = true → u31 = .pointer (some ⟨gb, 0, none⟩)) ∧
    (listed.getD 3 false = true → u32 = .int .i64 (P : Int)) ∧
    (listed.getD 4 false = true → u33 = .int .i64 (p : Int)) ∧
    (listed.getD 5 false = true → u34 = .int .u8 (yb : Int)) ∧
    (listed.getD 6 false = true → u35 = .int .i64 (yb : Int)) ∧
    (listed.getD 7 false = true → u36 = .pointer (some ⟨gb, 0, none⟩)) ∧
    (listed.getD 8 false = true → u37 = .int .i64 (P : Int)) ∧
    (listed.getD 9 false = true → u38 = .int .i64 (q : Int)) ∧
    (listed.getD 10 false = true → u9 = .int .i64 (p : Int)) ∧
    (listed.getD 11 false = true → u10 = .int .i64 (q : Int))
set_option maxRecDepth 20000 in
set_option maxHeartbeats 4000000 in
theorem oa_region (gb P ya yb p q : Nat) (q0 q4 q5 q6 q7 q8 q11 q12 q13 q14 q15 q16 q17 q18 q19 q20 q21 q22 q23 q24 q25 q26 q27 q28 q39 q40 q41 q42 q43 q44 q45 q46 q47 q48 q49 q50 q51 q52 q53 q54 q55 q56 q57 q58 q59 q60 q61 q62 q63 q64 q65 q66 q67 q68 q69 q70 q71 q72 q73 q74 q75 q76 q77 q78 q79 q80 q81 q82 q83 q84 q85 q86 q87 q88 q89 q90 q91 q92 q93 q94 q95 q96 q97 q98 q99 q100 q101 q102 q103 q104 q105 q106 q107 q108 q109 q110 q111 q112 q113 q114 q115 q116 q117 q118 q119 q120 q121 q122 q123 q124 q125 q126 q127 q128 q129 q130 q131 q132 q133 q134 q135 : Value) (W0 : World) (i9 i10 i29 i30 i31 i32 i33 i34 i35 i36 i37 i38 : Value) (hP0 : 0 < P) (hP : P ≤ 1000) (hya : ya < 256) (hyb : yb < 256) (hp : Hid (p = ya % P)) (hq : Hid (q = yb % P)) (hgb : gb < W0.heap.size) (hn : W0.cell? ⟨gb, 0, none⟩ = some (.int .i64 (P : Int))) {Q : Exit → Act → World → Prop}
    (hQ : ∀ u9 u10 u29 u30 u31 u32 u33 u34 u35 u36 u37 u38 w, Below W0.heap.size W0 w → (u29 = .int .u8 (ya : Int)) → (u30 = .int .i64 (ya : Int)) → (u31 = .pointer (some ⟨gb, 0, none⟩)) → (u32 = .int .i64 (P : Int)) → (u33 = .int .i64 (p : Int)) → (u34 = .int .u8 (yb : Int)) → (u35 = .int .i64 (yb : Int)) → (u36 = .pointer (some ⟨gb, 0, none⟩)) → (u37 = .int .i64 (P : Int)) → (u38 = .int .i64 (q : Int)) → (u9 = .int .i64 (p : Int)) → (u10 = .int .i64 (q : Int)) → Q .normal (oaAct gb ya yb q0 q4 q5 q6 q7 q8 q11 q12 q13 q14 q15 q16 q17 q18 q19 q20 q21 q22 q23 q24 q25 q26 q27 q28 q39 q40 q41 q42 q43 q44 q45 q46 q47 q48 q49 q50 q51 q52 q53 q54 q55 q56 q57 q58 q59 q60 q61 q62 q63 q64 q65 q66 q67 q68 q69 q70 q71 q72 q73 q74 q75 q76 q77 q78 q79 q80 q81 q82 q83 q84 q85 q86 q87 q88 q89 q90 q91 q92 q93 q94 q95 q96 q97 q98 q99 q100 q101 q102 q103 q104 q105 q106 q107 q108 q109 q110 q111 q112 q113 q114 q115 q116 q117 q118 q119 q120 q121 q122 q123 q124 q125 q126 q127 q128 q129 q130 q131 q132 q133 q134 q135 u9 u10 u29 u30 u31 u32 u33 u34 u35 u36 u37 u38) w) :
    (Code.region 4 #[{ dst := some 29, op := Op.move (Operand.tmp 1), type := 5, pos := "law.go:185", after := #[], guard := none }, { dst := some 30, op := Op.convert 5 3 (Operand.tmp 29), type := 3, pos := "law.go:185", after := #[{ on := 0, ground := Ground.data }], guard := none }, { dst := some 31, op := Op.fieldAddr 24 (Operand.tmp 3) 0, type := 0, pos := "law.go:185", after := #[], guard := none }, { dst := some 32, op := Op.load 3 (Operand.tmp 31), type := 3, pos := "law.go:185", after := #[{ on := 2, ground := Ground.data }], guard := none }, { dst := some 33, op := Op.binOp BinOp.rem 3 (Operand.tmp 30) (Operand.tmp 32) 3, type := 3, pos := "law.go:185", after := #[{ on := 1, ground := Ground.data }, { on := 3, ground := Ground.data }], guard := none }, { dst := some 34, op := Op.move (Operand.tmp 2), type := 5, pos := "law.go:185", after := #[{ on := 10, ground := Ground.gcOnly Departure.lateStores }], guard := none }, { dst := some 35, op := Op.convert 5 3 (Operand.tmp 34), type := 3, pos := "law.go:185", after := #[{ on := 5, ground := Ground.data }, { on := 10, ground := Ground.gcOnly Departure.lateStores }], guard := none }, { dst := some 36, op := Op.fieldAddr 24 (Operand.tmp 3) 0, type := 0, pos := "law.go:185", after := #[{ on := 10, ground := Ground.gcOnly Departure.lateStores }], guard := none }, { dst := some 37, op := Op.load 3 (Operand.tmp 36), type := 3, pos := "law.go:185", after := #[{ on := 7, ground := Ground.data }, { on := 10, ground := Ground.gcOnly Departure.lateStores }], guard := none }, { dst := some 38, op := Op.binOp BinOp.rem 3 (Operand.tmp 35) (Operand.tmp 37) 3, type := 3, pos := "law.go:185", after := #[{ on := 6, ground := Ground.data }, { on := 8, ground := Ground.data }, { on := 10, ground := Ground.gcOnly Departure.lateStores }], guard := none }, { dst := some 9, op := Op.assign (Operand.tmp 33), type := 3, pos := "law.go:185", after := #[{ on := 4, ground := Ground.data }, { on := 0, ground := Ground.phase }, { on := 1, ground := Ground.phase }, { on := 2, ground := Ground.phase }, { on := 3, ground := Ground.phase }, { on := 4, ground := Ground.phase }, { on := 5, ground := Ground.textOnly Departure.lateStores }, { on := 6, ground := Ground.textOnly Departure.lateStores }, { on := 7, ground := Ground.textOnly Departure.lateStores }, { on := 8, ground := Ground.textOnly Departure.lateStores }, { on := 9, ground := Ground.textOnly Departure.lateStores }], guard := none }, { dst := some 10, op := Op.assign (Operand.tmp 38), type := 3, pos := "law.go:185", after := #[{ on := 9, ground := Ground.data }, { on := 10, ground := Ground.chain }, { on := 0, ground := Ground.phase }, { on := 1, ground := Ground.phase }, { on := 2, ground := Ground.phase }, { on := 3, ground := Ground.phase }, { on := 4, ground := Ground.phase }, { on := 5, ground := Ground.phase }, { on := 6, ground := Ground.phase }, { on := 7, ground := Ground.phase }, { on := 8, ground := Ground.phase }, { on := 9, ground := Ground.phase }, { on := 10, ground := Ground.phase }], guard := none }] true).wp Try.prog Q (oaAct gb ya yb q0 q4 q5 q6 q7 q8 q11 q12 q13 q14 q15 q16 q17 q18 q19 q20 q21 q22 q23 q24 q25 q26 q27 q28 q39 q40 q41 q42 q43 q44 q45 q46 q47 q48 q49 q50 q51 q52 q53 q54 q55 q56 q57 q58 q59 q60 q61 q62 q63 q64 q65 q66 q67 q68 q69 q70 q71 q72 q73 q74 q75 q76 q77 q78 q79 q80 q81 q82 q83 q84 q85 q86 q87 q88 q89 q90 q91 q92 q93 q94 q95 q96 q97 q98 q99 q100 q101 q102 q103 q104 q105 q106 q107 q108 q109 q110 q111 q112 q113 q114 q115 q116 q117 q118 q119 q120 q121 q122 q123 q124 q125 q126 q127 q128 q129 q130 q131 q132 q133 q134 q135 (i9) (i10) (i29) (i30) (i31) (i32) (i33) (i34) (i35) (i36) (i37) (i38)) W0 := by
  refine wp_region_inv (by kernel_rfl) (by kernel_rfl) (oaI gb P ya yb p q q0 q4 q5 q6 q7 q8 q11 q12 q13 q14 q15 q16 q17 q18 q19 q20 q21 q22 q23 q24 q25 q26 q27 q28 q39 q40 q41 q42 q43 q44 q45 q46 q47 q48 q49 q50 q51 q52 q53 q54 q55 q56 q57 q58 q59 q60 q61 q62 q63 q64 q65 q66 q67 q68 q69 q70 q71 q72 q73 q74 q75 q76 q77 q78 q79 q80 q81 q82 q83 q84 q85 q86 q87 q88 q89 q90 q91 q92 q93 q94 q95 q96 q97 q98 q99 q100 q101 q102 q103 q104 q105 q106 q107 q108 q109 q110 q111 q112 q113 q114 q115 q116 q117 q118 q119 q120 q121 q122 q123 q124 q125 q126 q127 q128 q129 q130 q131 q132 q133 q134 q135 W0) ?_ ?_ ?_
  · refine ⟨_, _, _, _, _, _, _, _, _, _, _, _, rfl, (Below.refl _ _).drew, ?_, ?_, ?_, ?_, ?_, ?_, ?_, ?_, ?_, ?_, ?_, ?_⟩ <;> (intro e; simp at e)
  · intro listed a w i o hI hs ho hl hd
    have hi9 : i < 12 := (Array.getElem?_eq_some_iff.1 ho).1
    obtain ⟨u9, u10, u29, u30, u31, u32, u33, u34, u35, u36, u37, u38, rfl, hB, h0, h1, h2, h3, h4, h5, h6, h7, h8, h9, h10, h11⟩ := hI
    have hlB := hB.size
    rcases (show i = 0 ∨ i = 1 ∨ i = 2 ∨ i = 3 ∨ i = 4 ∨ i = 5 ∨ i = 6 ∨ i = 7 ∨ i = 8 ∨ i = 9 ∨ i = 10 ∨ i = 11 by omega) with rfl | rfl | rfl | rfl | rfl | rfl | rfl | rfl | rfl | rfl | rfl | rfl
    · have ho' : some _ = some o := ho
      cases ho'
      have hbw : Below w.heap.size w w := Below.refl _ _
      unfold oaAct; go_simp
      exact ⟨u9, u10, .int .u8 (ya : Int), u30, u31, u32, u33, u34, u35, u36, u37, u38, rfl, hB, fun _ => rfl, fun e1 => h1 (lset_ne (by decide) e1), fun e2 => h2 (lset_ne (by decide) e2), fun e3 => h3 (lset_ne (by decide) e3), fun e4 => h4 (lset_ne (by decide) e4), fun e5 => h5 (lset_ne (by decide) e5), fun e6 => h6 (lset_ne (by decide) e6), fun e7 => h7 (lset_ne (by decide) e7), fun e8 => h8 (lset_ne (by decide) e8), fun e9 => h9 (lset_ne (by decide) e9), fun e10 => h10 (lset_ne (by decide) e10), fun e11 => h11 (lset_ne (by decide) e11)⟩
    · have ho' : some _ = some o := ho
      cases ho'
      have d0 := hd { on := 0, ground := .data } (by simp) rfl
      have hbw : Below w.heap.size w w := Below.refl _ _
      have v5 : IntKind.i64.wrap (ya : Int) = (ya : Int) := by rw [IntKind.wrap_i64]; omega
      have e0 := h0 d0
      subst e0
      unfold oaAct; go_simp
      exact ⟨u9, u10, .int .u8 (ya : Int), .int .i64 (ya : Int), u31, u32, u33, u34, u35, u36, u37, u38, rfl, hB, fun e0 => h0 (lset_ne (by decide) e0), fun _ => rfl, fun e2 => h2 (lset_ne (by decide) e2), fun e3 => h3 (lset_ne (by decide) e3), fun e4 => h4 (lset_ne (by decide) e4), fun e5 => h5 (lset_ne (by decide) e5), fun e6 => h6 (lset_ne (by decide) e6), fun e7 => h7 (lset_ne (by decide) e7), fun e8 => h8 (lset_ne (by decide) e8), fun e9 => h9 (lset_ne (by decide) e9), fun e10 => h10 (lset_ne (by decide) e10), fun e11 => h11 (lset_ne (by decide) e11)⟩
    · have ho' : some _ = some o := ho
      cases ho'
      have hbw : Below w.heap.size w w := Below.refl _ _
      unfold oaAct; go_simp
      exact ⟨u9, u10, u29, u30, .pointer (some ⟨gb, 0, none⟩), u32, u33, u34, u35, u36, u37, u38, rfl, hB, fun e0 => h0 (lset_ne (by decide) e0), fun e1 => h1 (lset_ne (by decide) e1), fun _ => rfl, fun e3 => h3 (lset_ne (by decide) e3), fun e4 => h4 (lset_ne (by decide) e4), fun e5 => h5 (lset_ne (by decide) e5), fun e6 => h6 (lset_ne (by decide) e6), fun e7 => h7 (lset_ne (by decide) e7), fun e8 => h8 (lset_ne (by decide) e8), fun e9 => h9 (lset_ne (by decide) e9), fun e10 => h10 (lset_ne (by decide) e10), fun e11 => h11 (lset_ne (by decide) e11)⟩
    · have ho' : some _ = some o := ho
      cases ho'
      have d2 := hd { on := 2, ground := .data } (by simp) rfl
      have hbw : Below w.heap.size w w := Below.refl _ _
      have c0 := (hB.cell (p := ⟨gb, 0, none⟩) hgb).trans hn
      have e2 := h2 d2
      subst e2
      unfold oaAct; go_simp
      exact ⟨u9, u10, u29, u30, .pointer (some ⟨gb, 0, none⟩), .int .i64 (P : Int), u33, u34, u35, u36, u37, u38, rfl, hB, fun e0 => h0 (lset_ne (by decide) e0), fun e1 => h1 (lset_ne (by decide) e1), fun e2 => h2 (lset_ne (by decide) e2), fun _ => rfl, fun e4 => h4 (lset_ne (by decide) e4), fun e5 => h5 (lset_ne (by decide) e5), fun e6 => h6 (lset_ne (by decide) e6), fun e7 => h7 (lset_ne (by decide) e7), fun e8 => h8 (lset_ne (by decide) e8), fun e9 => h9 (lset_ne (by decide) e9), fun e10 => h10 (lset_ne (by decide) e10), fun e11 => h11 (lset_ne (by decide) e11)⟩
    · have ho' : some _ = some o := ho
      cases ho'
      have d1 := hd { on := 1, ground := .data } (by simp) rfl
      have d3 := hd { on := 3, ground := .data } (by simp) rfl
      have hbw : Below w.heap.size w w := Below.refl _ _
      have r0 : (P = 0) = False := by simp; omega
      have r1 : (ya : Int).tmod (P : Int) = (p : Int) := by rw [hp.out, Int.tmod_eq_emod_of_nonneg (by omega)]; push_cast; rfl
      have e1 := h1 d1
      subst e1
      have e3 := h3 d3
      subst e3
      unfold oaAct; go_simp
      exact ⟨u9, u10, u29, .int .i64 (ya : Int), u31, .int .i64 (P : Int), .int .i64 (p : Int), u34, u35, u36, u37, u38, rfl, hB, fun e0 => h0 (lset_ne (by decide) e0), fun e1 => h1 (lset_ne (by decide) e1), fun e2 => h2 (lset_ne (by decide) e2), fun e3 => h3 (lset_ne (by decide) e3), fun _ => rfl, fun e5 => h5 (lset_ne (by decide) e5), fun e6 => h6 (lset_ne (by decide) e6), fun e7 => h7 (lset_ne (by decide) e7), fun e8 => h8 (lset_ne (by decide) e8), fun e9 => h9 (lset_ne (by decide) e9), fun e10 => h10 (lset_ne (by decide) e10), fun e11 => h11 (lset_ne (by decide) e11)⟩
    · have ho' : some _ = some o := ho
      cases ho'
      have hbw : Below w.heap.size w w := Below.refl _ _
      unfold oaAct; go_simp
      exact ⟨u9, u10, u29, u30, u31, u32, u33, .int .u8 (yb : Int), u35, u36, u37, u38, rfl, hB, fun e0 => h0 (lset_ne (by decide) e0), fun e1 => h1 (lset_ne (by decide) e1), fun e2 => h2 (lset_ne (by decide) e2), fun e3 => h3 (lset_ne (by decide) e3), fun e4 => h4 (lset_ne (by decide) e4), fun _ => rfl, fun e6 => h6 (lset_ne (by decide) e6), fun e7 => h7 (lset_ne (by decide) e7), fun e8 => h8 (lset_ne (by decide) e8), fun e9 => h9 (lset_ne (by decide) e9), fun e10 => h10 (lset_ne (by decide) e10), fun e11 => h11 (lset_ne (by decide) e11)⟩
    · have ho' : some _ = some o := ho
      cases ho'
      have d5 := hd { on := 5, ground := .data } (by simp) rfl
      have hbw : Below w.heap.size w w := Below.refl _ _
      have v5 : IntKind.i64.wrap (yb : Int) = (yb : Int) := by rw [IntKind.wrap_i64]; omega
      have e5 := h5 d5
      subst e5
      unfold oaAct; go_simp
      exact ⟨u9, u10, u29, u30, u31, u32, u33, .int .u8 (yb : Int), .int .i64 (yb : Int), u36, u37, u38, rfl, hB, fun e0 => h0 (lset_ne (by decide) e0), fun e1 => h1 (lset_ne (by decide) e1), fun e2 => h2 (lset_ne (by decide) e2), fun e3 => h3 (lset_ne (by decide) e3), fun e4 => h4 (lset_ne (by decide) e4), fun e5 => h5 (lset_ne (by decide) e5), fun _ => rfl, fun e7 => h7 (lset_ne (by decide) e7), fun e8 => h8 (lset_ne (by decide) e8), fun e9 => h9 (lset_ne (by decide) e9), fun e10 => h10 (lset_ne (by decide) e10), fun e11 => h11 (lset_ne (by decide) e11)⟩
    · have ho' : some _ = some o := ho
      cases ho'
      have hbw : Below w.heap.size w w := Below.refl _ _
      unfold oaAct; go_simp
      exact ⟨u9, u10, u29, u30, u31, u32, u33, u34, u35, .pointer (some ⟨gb, 0, none⟩), u37, u38, rfl, hB, fun e0 => h0 (lset_ne (by decide) e0), fun e1 => h1 (lset_ne (by decide) e1), fun e2 => h2 (lset_ne (by decide) e2), fun e3 => h3 (lset_ne (by decide) e3), fun e4 => h4 (lset_ne (by decide) e4), fun e5 => h5 (lset_ne (by decide) e5), fun e6 => h6 (lset_ne (by decide) e6), fun _ => rfl, fun e8 => h8 (lset_ne (by decide) e8), fun e9 => h9 (lset_ne (by decide) e9), fun e10 => h10 (lset_ne (by decide) e10), fun e11 => h11 (lset_ne (by decide) e11)⟩
    · have ho' : some _ = some o := ho
      cases ho'
      have d7 := hd { on := 7, ground := .data } (by simp) rfl
      have hbw : Below w.heap.size w w := Below.refl _ _
      have c0 := (hB.cell (p := ⟨gb, 0, none⟩) hgb).trans hn
      have e7 := h7 d7
      subst e7
      unfold oaAct; go_simp
      exact ⟨u9, u10, u29, u30, u31, u32, u33, u34, u35, .pointer (some ⟨gb, 0, none⟩), .int .i64 (P : Int), u38, rfl, hB, fun e0 => h0 (lset_ne (by decide) e0), fun e1 => h1 (lset_ne (by decide) e1), fun e2 => h2 (lset_ne (by decide) e2), fun e3 => h3 (lset_ne (by decide) e3), fun e4 => h4 (lset_ne (by decide) e4), fun e5 => h5 (lset_ne (by decide) e5), fun e6 => h6 (lset_ne (by decide) e6), fun e7 => h7 (lset_ne (by decide) e7), fun _ => rfl, fun e9 => h9 (lset_ne (by decide) e9), fun e10 => h10 (lset_ne (by decide) e10), fun e11 => h11 (lset_ne (by decide) e11)⟩
    · have ho' : some _ = some o := ho
      cases ho'
      have d6 := hd { on := 6, ground := .data } (by simp) rfl
      have d8 := hd { on := 8, ground := .data } (by simp) rfl
      have hbw : Below w.heap.size w w := Below.refl _ _
      have r0 : (P = 0) = False := by simp; omega
      have r1 : (yb : Int).tmod (P : Int) = (q : Int) := by rw [hq.out, Int.tmod_eq_emod_of_nonneg (by omega)]; push_cast; rfl
      have e6 := h6 d6
      subst e6
      have e8 := h8 d8
      subst e8
      unfold oaAct; go_simp
      exact ⟨u9, u10, u29, u30, u31, u32, u33, u34, .int .i64 (yb : Int), u36, .int .i64 (P : Int), .int .i64 (q : Int), rfl, hB, fun e0 => h0 (lset_ne (by decide) e0), fun e1 => h1 (lset_ne (by decide) e1), fun e2 => h2 (lset_ne (by decide) e2), fun e3 => h3 (lset_ne (by decide) e3), fun e4 => h4 (lset_ne (by decide) e4), fun e5 => h5 (lset_ne (by decide) e5), fun e6 => h6 (lset_ne (by decide) e6), fun e7 => h7 (lset_ne (by decide) e7), fun e8 => h8 (lset_ne (by decide) e8), fun _ => rfl, fun e10 => h10 (lset_ne (by decide) e10), fun e11 => h11 (lset_ne (by decide) e11)⟩
    · have ho' : some _ = some o := ho
      cases ho'
      have d4 := hd { on := 4, ground := .data } (by simp) rfl
      have d0 := hd { on := 0, ground := .phase } (by simp) rfl
      have d1 := hd { on := 1, ground := .phase } (by simp) rfl
      have d2 := hd { on := 2, ground := .phase } (by simp) rfl
      have d3 := hd { on := 3, ground := .phase } (by simp) rfl
      have d4 := hd { on := 4, ground := .phase } (by simp) rfl
      have hbw : Below w.heap.size w w := Below.refl _ _
      have e0 := h0 d0
      subst e0
      have e1 := h1 d1
      subst e1
      have e2 := h2 d2
      subst e2
      have e3 := h3 d3
      subst e3
      have e4 := h4 d4
      subst e4
      unfold oaAct; go_simp
      exact ⟨.int .i64 (p : Int), u10, .int .u8 (ya : Int), .int .i64 (ya : Int), .pointer (some ⟨gb, 0, none⟩), .int .i64 (P : Int), .int .i64 (p : Int), u34, u35, u36, u37, u38, rfl, hB, fun e0 => h0 (lset_ne (by decide) e0), fun e1 => h1 (lset_ne (by decide) e1), fun e2 => h2 (lset_ne (by decide) e2), fun e3 => h3 (lset_ne (by decide) e3), fun e4 => h4 (lset_ne (by decide) e4), fun e5 => h5 (lset_ne (by decide) e5), fun e6 => h6 (lset_ne (by decide) e6), fun e7 => h7 (lset_ne (by decide) e7), fun e8 => h8 (lset_ne (by decide) e8), fun e9 => h9 (lset_ne (by decide) e9), fun _ => rfl, fun e11 => h11 (lset_ne (by decide) e11)⟩
    · have ho' : some _ = some o := ho
      cases ho'
      have d9 := hd { on := 9, ground := .data } (by simp) rfl
      have d10 := hd { on := 10, ground := .chain } (by simp) rfl
      have d0 := hd { on := 0, ground := .phase } (by simp) rfl
      have d1 := hd { on := 1, ground := .phase } (by simp) rfl
      have d2 := hd { on := 2, ground := .phase } (by simp) rfl
      have d3 := hd { on := 3, ground := .phase } (by simp) rfl
      have d4 := hd { on := 4, ground := .phase } (by simp) rfl
      have d5 := hd { on := 5, ground := .phase } (by simp) rfl
      have d6 := hd { on := 6, ground := .phase } (by simp) rfl
      have d7 := hd { on := 7, ground := .phase } (by simp) rfl
      have d8 := hd { on := 8, ground := .phase } (by simp) rfl
      have d9 := hd { on := 9, ground := .phase } (by simp) rfl
      have d10 := hd { on := 10, ground := .phase } (by simp) rfl
      have hbw : Below w.heap.size w w := Below.refl _ _
      have e0 := h0 d0
      subst e0
      have e1 := h1 d1
      subst e1
      have e2 := h2 d2
      subst e2
      have e3 := h3 d3
      subst e3
      have e4 := h4 d4
      subst e4
      have e5 := h5 d5
      subst e5
      have e6 := h6 d6
      subst e6
      have e7 := h7 d7
      subst e7
      have e8 := h8 d8
      subst e8
      have e9 := h9 d9
      subst e9
      have e10 := h10 d10
      subst e10
      unfold oaAct; go_simp
      exact ⟨.int .i64 (p : Int), .int .i64 (q : Int), .int .u8 (ya : Int), .int .i64 (ya : Int), .pointer (some ⟨gb, 0, none⟩), .int .i64 (P : Int), .int .i64 (p : Int), .int .u8 (yb : Int), .int .i64 (yb : Int), .pointer (some ⟨gb, 0, none⟩), .int .i64 (P : Int), .int .i64 (q : Int), rfl, hB, fun e0 => h0 (lset_ne (by decide) e0), fun e1 => h1 (lset_ne (by decide) e1), fun e2 => h2 (lset_ne (by decide) e2), fun e3 => h3 (lset_ne (by decide) e3), fun e4 => h4 (lset_ne (by decide) e4), fun e5 => h5 (lset_ne (by decide) e5), fun e6 => h6 (lset_ne (by decide) e6), fun e7 => h7 (lset_ne (by decide) e7), fun e8 => h8 (lset_ne (by decide) e8), fun e9 => h9 (lset_ne (by decide) e9), fun e10 => h10 (lset_ne (by decide) e10), fun _ => rfl⟩
  · rintro listed a w ⟨u9, u10, u29, u30, u31, u32, u33, u34, u35, u36, u37, u38, rfl, hB, h0, h1, h2, h3, h4, h5, h6, h7, h8, h9, h10, h11⟩ hall
    exact hQ _ _ _ _ _ _ _ _ _ _ _ _ w hB (h0 (hall 0 (by decide))) (h1 (hall 1 (by decide))) (h2 (hall 2 (by decide))) (h3 (hall 3 (by decide))) (h4 (hall 4 (by decide))) (h5 (hall 5 (by decide))) (h6 (hall 6 (by decide))) (h7 (hall 7 (by decide))) (h8 (hall 8 (by decide))) (h9 (hall 9 (by decide))) (h10 (hall 10 (by decide))) (h11 (hall 11 (by decide)))
def obAct (g cg P eb : Nat) (q0 q1 q2 q3 q4 q5 q6 q8 q9 q10 q11 q12 q13 q14 q15 q17 q18 q19 q20 q21 q22 q23 q24 q25 q26 q27 q28 q29 q30 q31 q32 q33 q34 q35 q36 q37 q38 q39 q40 q41 q42 q43 q44 q45 q46 q47 q48 q49 q50 q51 q52 q53 q54 q55 q56 q57 q58 q59 q60 q61 q62 q63 q64 q65 q66 q67 q68 q69 q70 q71 q72 q73 q74 q75 q76 q77 q78 q79 q80 q81 q82 q83 q84 q96 q97 q98 q99 q100 q101 q102 q103 q104 q105 q106 q107 q108 q109 q110 q111 q112 q113 q114 q115 q116 q117 q118 q119 q120 q121 q122 q123 q124 q125 q126 q127 q128 q129 q130 q131 q132 q133 q134 q135 u85 u86 u87 u88 u89 u90 u91 u92 u93 u94 u95 : Value) : Act :=
  { tmps := #[q0, q1, q2, q3, q4, q5, q6, .slice (some ⟨g, 0, none⟩) P cg, q8, q9, q10, q11, q12, q13, q14, q15, .pointer (some ⟨eb, 0, none⟩), q17, q18, q19, q20, q21, q22, q23, q24, q25, q26, q27, q28, q29, q30, q31, q32, q33, q34, q35, q36, q37, q38, q39, q40, q41, q42, q43, q44, q45, q46, q47, q48, q49, q50, q51, q52, q53, q54, q55, q56, q57, q58, q59, q60, q61, q62, q63, q64, q65, q66, q67, q68, q69, q70, q71, q72, q73, q74, q75, q76, q77, q78, q79, q80, q81, q82, q83, q84, u85, u86, u87, u88, u89, u90, u91, u92, u93, u94, u95, q96, q97, q98, q99, q100, q101, q102, q103, q104, q105, q106, q107, q108, q109, q110, q111, q112, q113, q114, q115, q116, q117, q118, q119, q120, q121, q122, q123, q124, q125, q126, q127, q128, q129, q130, q131, q132, q133, q134, q135], defers := [] }
def obI (g cg P eb r s : Nat) (nr ns : Int) (q0 q1 q2 q3 q4 q5 q6 q8 q9 q10 q11 q12 q13 q14 q15 q17 q18 q19 q20 q21 q22 q23 q24 q25 q26 q27 q28 q29 q30 q31 q32 q33 q34 q35 q36 q37 q38 q39 q40 q41 q42 q43 q44 q45 q46 q47 q48 q49 q50 q51 q52 q53 q54 q55 q56 q57 q58 q59 q60 q61 q62 q63 q64 q65 q66 q67 q68 q69 q70 q71 q72 q73 q74 q75 q76 q77 q78 q79 q80 q81 q82 q83 q84 q96 q97 q98 q99 q100 q101 q102 q103 q104 q105 q106 q107 q108 q109 q110 q111 q112 q113 q114 q115 q116 q117 q118 q119 q120 q121 q122 q123 q124 q125 q126 q127 q128 q129 q130 q131 q132 q133 q134 q135 : Value) (W0 : World) (listed : Array Bool) (a : Act) (w : World) : Prop :=
  ∃ u85 u86 u87 u88 u89 u90 u91 u92 u93 u94 u95, a = obAct g cg P eb q0 q1 q2 q3 q4 q5 q6 q8 q9 q10 q11 q12 q13 q14 q15 q17 q18 q19 q20 q21 q22 q23 q24 q25 q26 q27 q28 q29 q30 q31 q32 q33 q34 q35 q36 q37 q38 q39 q40 q41 q42 q43 q44 q45 q46 q47 q48 q49 q50 q51 q52 q53 q54 q55 q56 q57 q58 q59 q60 q61 q62 q63 q64 q65 q66 q67 q68 q69 q70 q71 q72 q73 q74 q75 q76 q77 q78 q79 q80 q81 q82 q83 q84 q96 q97 q98 q99 q100 q101 q102 q103 q104 q105 q106 q107 q108 q109 q110 q111 q112 q113 q114 q115 q116 q117 q118 q119 q120 q121 q122 q123 q124 q125 q126 q127 q128 q129 q130 q131 q132 q133 q134 q135 u85 u86 u87 u88 u89 u90 u91 u92 u93 u94 u95 ∧ Below W0.heap.size W0 w ∧
    (listed.getD 0 false = true → u85 = .slice (some ⟨g, 0, none⟩) P cg) ∧
    (listed.getD 1 false = true → u86 = .pointer (some ⟨eb, 1, none⟩)) ∧
    (listed.getD 2 false = true → u87 = .int .i64 (s : Int)) ∧
    (listed.getD 3 false = true → u88 = .pointer (some ⟨g, s, none⟩)) ∧
    (listed.getD 4 false = true → u89 = .int .i64 ns) ∧
    (listed.getD 5 false = true → u90 = .slice (some ⟨g, 0, none⟩) P cg) ∧
    (listed.getD 6 false = true → u91 = .pointer (some ⟨eb, 0, none⟩)) ∧
    (listed.getD 7 false = true → u92 = .int .i64 (r : Int)) ∧
    (listed.getD 8 false = true → u93 = .pointer (some ⟨g, r, none⟩)) ∧
    (listed.getD 9 false = true → u94 = .int .i64 nr) ∧
    (listed.getD 10 false = true → u95 = .bool false)
set_option maxRecDepth 20000 in
set_option maxHeartbeats 4000000 in
theorem ob_region (g cg P eb r s : Nat) (nr ns : Int) (q0 q1 q2 q3 q4 q5 q6 q8 q9 q10 q11 q12 q13 q14 q15 q17 q18 q19 q20 q21 q22 q23 q24 q25 q26 q27 q28 q29 q30 q31 q32 q33 q34 q35 q36 q37 q38 q39 q40 q41 q42 q43 q44 q45 q46 q47 q48 q49 q50 q51 q52 q53 q54 q55 q56 q57 q58 q59 q60 q61 q62 q63 q64 q65 q66 q67 q68 q69 q70 q71 q72 q73 q74 q75 q76 q77 q78 q79 q80 q81 q82 q83 q84 q96 q97 q98 q99 q100 q101 q102 q103 q104 q105 q106 q107 q108 q109 q110 q111 q112 q113 q114 q115 q116 q117 q118 q119 q120 q121 q122 q123 q124 q125 q126 q127 q128 q129 q130 q131 q132 q133 q134 q135 : Value) (W0 : World) (i85 i86 i87 i88 i89 i90 i91 i92 i93 i94 i95 : Value) (hr : r < P) (hs : s < P) (hP : P ≤ 1000) (hle : ns ≤ nr) (hg : g < W0.heap.size) (heb : eb < W0.heap.size) (he0 : W0.cell? ⟨eb, 0, none⟩ = some (.int .i64 (r : Int))) (he1 : W0.cell? ⟨eb, 1, none⟩ = some (.int .i64 (s : Int))) (hcr : W0.cell? ⟨g, r, none⟩ = some (.int .i64 nr)) (hcs : W0.cell? ⟨g, s, none⟩ = some (.int .i64 ns)) {Q : Exit → Act → World → Prop}
    (hQ : ∀ u85 u86 u87 u88 u89 u90 u91 u92 u93 u94 u95 w, Below W0.heap.size W0 w → (u85 = .slice (some ⟨g, 0, none⟩) P cg) → (u86 = .pointer (some ⟨eb, 1, none⟩)) → (u87 = .int .i64 (s : Int)) → (u88 = .pointer (some ⟨g, s, none⟩)) → (u89 = .int .i64 ns) → (u90 = .slice (some ⟨g, 0, none⟩) P cg) → (u91 = .pointer (some ⟨eb, 0, none⟩)) → (u92 = .int .i64 (r : Int)) → (u93 = .pointer (some ⟨g, r, none⟩)) → (u94 = .int .i64 nr) → (u95 = .bool false) → Q .normal (obAct g cg P eb q0 q1 q2 q3 q4 q5 q6 q8 q9 q10 q11 q12 q13 q14 q15 q17 q18 q19 q20 q21 q22 q23 q24 q25 q26 q27 q28 q29 q30 q31 q32 q33 q34 q35 q36 q37 q38 q39 q40 q41 q42 q43 q44 q45 q46 q47 q48 q49 q50 q51 q52 q53 q54 q55 q56 q57 q58 q59 q60 q61 q62 q63 q64 q65 q66 q67 q68 q69 q70 q71 q72 q73 q74 q75 q76 q77 q78 q79 q80 q81 q82 q83 q84 q96 q97 q98 q99 q100 q101 q102 q103 q104 q105 q106 q107 q108 q109 q110 q111 q112 q113 q114 q115 q116 q117 q118 q119 q120 q121 q122 q123 q124 q125 q126 q127 q128 q129 q130 q131 q132 q133 q134 q135 u85 u86 u87 u88 u89 u90 u91 u92 u93 u94 u95) w) :
    (Code.region 12 #[{ dst := some 85, op := Op.move (Operand.tmp 7), type := 51, pos := "law.go:192", after := #[], guard := none }, { dst := some 86, op := Op.fieldAddr 55 (Operand.tmp 16) 1, type := 0, pos := "law.go:192", after := #[], guard := none }, { dst := some 87, op := Op.load 3 (Operand.tmp 86), type := 3, pos := "law.go:192", after := #[{ on := 1, ground := Ground.data }], guard := none }, { dst := some 88, op := Op.indexAddr 51 (Operand.tmp 85) (Operand.tmp 87), type := 0, pos := "law.go:192", after := #[{ on := 0, ground := Ground.data }, { on := 2, ground := Ground.data }], guard := none }, { dst := some 89, op := Op.load 3 (Operand.tmp 88), type := 3, pos := "law.go:192", after := #[{ on := 3, ground := Ground.data }], guard := none }, { dst := some 90, op := Op.move (Operand.tmp 7), type := 51, pos := "law.go:192", after := #[], guard := none }, { dst := some 91, op := Op.fieldAddr 55 (Operand.tmp 16) 0, type := 0, pos := "law.go:192", after := #[], guard := none }, { dst := some 92, op := Op.load 3 (Operand.tmp 91), type := 3, pos := "law.go:192", after := #[{ on := 6, ground := Ground.data }], guard := none }, { dst := some 93, op := Op.indexAddr 51 (Operand.tmp 90) (Operand.tmp 92), type := 0, pos := "law.go:192", after := #[{ on := 5, ground := Ground.data }, { on := 7, ground := Ground.data }], guard := none }, { dst := some 94, op := Op.load 3 (Operand.tmp 93), type := 3, pos := "law.go:192", after := #[{ on := 8, ground := Ground.data }], guard := none }, { dst := some 95, op := Op.binOp BinOp.gtr 3 (Operand.tmp 89) (Operand.tmp 94) 3, type := 4, pos := "law.go:192", after := #[{ on := 4, ground := Ground.data }, { on := 9, ground := Ground.data }], guard := none }] true).wp Try.prog Q (obAct g cg P eb q0 q1 q2 q3 q4 q5 q6 q8 q9 q10 q11 q12 q13 q14 q15 q17 q18 q19 q20 q21 q22 q23 q24 q25 q26 q27 q28 q29 q30 q31 q32 q33 q34 q35 q36 q37 q38 q39 q40 q41 q42 q43 q44 q45 q46 q47 q48 q49 q50 q51 q52 q53 q54 q55 q56 q57 q58 q59 q60 q61 q62 q63 q64 q65 q66 q67 q68 q69 q70 q71 q72 q73 q74 q75 q76 q77 q78 q79 q80 q81 q82 q83 q84 q96 q97 q98 q99 q100 q101 q102 q103 q104 q105 q106 q107 q108 q109 q110 q111 q112 q113 q114 q115 q116 q117 q118 q119 q120 q121 q122 q123 q124 q125 q126 q127 q128 q129 q130 q131 q132 q133 q134 q135 (i85) (i86) (i87) (i88) (i89) (i90) (i91) (i92) (i93) (i94) (i95)) W0 := by
  refine wp_region_inv (by kernel_rfl) (by kernel_rfl) (obI g cg P eb r s nr ns q0 q1 q2 q3 q4 q5 q6 q8 q9 q10 q11 q12 q13 q14 q15 q17 q18 q19 q20 q21 q22 q23 q24 q25 q26 q27 q28 q29 q30 q31 q32 q33 q34 q35 q36 q37 q38 q39 q40 q41 q42 q43 q44 q45 q46 q47 q48 q49 q50 q51 q52 q53 q54 q55 q56 q57 q58 q59 q60 q61 q62 q63 q64 q65 q66 q67 q68 q69 q70 q71 q72 q73 q74 q75 q76 q77 q78 q79 q80 q81 q82 q83 q84 q96 q97 q98 q99 q100 q101 q102 q103 q104 q105 q106 q107 q108 q109 q110 q111 q112 q113 q114 q115 q116 q117 q118 q119 q120 q121 q122 q123 q124 q125 q126 q127 q128 q129 q130 q131 q132 q133 q134 q135 W0) ?_ ?_ ?_
  · refine ⟨_, _, _, _, _, _, _, _, _, _, _, rfl, (Below.refl _ _).drew, ?_, ?_, ?_, ?_, ?_, ?_, ?_, ?_, ?_, ?_, ?_⟩ <;> (intro e; simp at e)
  · intro listed a w i o hI hs ho hl hd
    have hi9 : i < 11 := (Array.getElem?_eq_some_iff.1 ho).1
    obtain ⟨u85, u86, u87, u88, u89, u90, u91, u92, u93, u94, u95, rfl, hB, h0, h1, h2, h3, h4, h5, h6, h7, h8, h9, h10⟩ := hI
    have hlB := hB.size
    rcases (show i = 0 ∨ i = 1 ∨ i = 2 ∨ i = 3 ∨ i = 4 ∨ i = 5 ∨ i = 6 ∨ i = 7 ∨ i = 8 ∨ i = 9 ∨ i = 10 by omega) with rfl | rfl | rfl | rfl | rfl | rfl | rfl | rfl | rfl | rfl | rfl
    · have ho' : some _ = some o := ho
      cases ho'
      have hbw : Below w.heap.size w w := Below.refl _ _
      unfold obAct; go_simp
      exact ⟨.slice (some ⟨g, 0, none⟩) P cg, u86, u87, u88, u89, u90, u91, u92, u93, u94, u95, rfl, hB, fun _ => rfl, fun e1 => h1 (lset_ne (by decide) e1), fun e2 => h2 (lset_ne (by decide) e2), fun e3 => h3 (lset_ne (by decide) e3), fun e4 => h4 (lset_ne (by decide) e4), fun e5 => h5 (lset_ne (by decide) e5), fun e6 => h6 (lset_ne (by decide) e6), fun e7 => h7 (lset_ne (by decide) e7), fun e8 => h8 (lset_ne (by decide) e8), fun e9 => h9 (lset_ne (by decide) e9), fun e10 => h10 (lset_ne (by decide) e10)⟩
    · have ho' : some _ = some o := ho
      cases ho'
      have hbw : Below w.heap.size w w := Below.refl _ _
      unfold obAct; go_simp
      exact ⟨u85, .pointer (some ⟨eb, 1, none⟩), u87, u88, u89, u90, u91, u92, u93, u94, u95, rfl, hB, fun e0 => h0 (lset_ne (by decide) e0), fun _ => rfl, fun e2 => h2 (lset_ne (by decide) e2), fun e3 => h3 (lset_ne (by decide) e3), fun e4 => h4 (lset_ne (by decide) e4), fun e5 => h5 (lset_ne (by decide) e5), fun e6 => h6 (lset_ne (by decide) e6), fun e7 => h7 (lset_ne (by decide) e7), fun e8 => h8 (lset_ne (by decide) e8), fun e9 => h9 (lset_ne (by decide) e9), fun e10 => h10 (lset_ne (by decide) e10)⟩
    · have ho' : some _ = some o := ho
      cases ho'
      have d1 := hd { on := 1, ground := .data } (by simp) rfl
      have hbw : Below w.heap.size w w := Below.refl _ _
      have c0 := (hB.cell (p := ⟨eb, 1, none⟩) heb).trans he1
      have e1 := h1 d1
      subst e1
      unfold obAct; go_simp
      exact ⟨u85, .pointer (some ⟨eb, 1, none⟩), .int .i64 (s : Int), u88, u89, u90, u91, u92, u93, u94, u95, rfl, hB, fun e0 => h0 (lset_ne (by decide) e0), fun e1 => h1 (lset_ne (by decide) e1), fun _ => rfl, fun e3 => h3 (lset_ne (by decide) e3), fun e4 => h4 (lset_ne (by decide) e4), fun e5 => h5 (lset_ne (by decide) e5), fun e6 => h6 (lset_ne (by decide) e6), fun e7 => h7 (lset_ne (by decide) e7), fun e8 => h8 (lset_ne (by decide) e8), fun e9 => h9 (lset_ne (by decide) e9), fun e10 => h10 (lset_ne (by decide) e10)⟩
    · have ho' : some _ = some o := ho
      cases ho'
      have d0 := hd { on := 0, ground := .data } (by simp) rfl
      have d2 := hd { on := 2, ground := .data } (by simp) rfl
      have hbw : Below w.heap.size w w := Below.refl _ _
      have p0 : (0 : Int) ≤ (s : Int) := by omega
      have p1 : (s : Int) < (P : Int) := by omega
      have e0 := h0 d0
      subst e0
      have e2 := h2 d2
      subst e2
      unfold obAct; go_simp
      exact ⟨.slice (some ⟨g, 0, none⟩) P cg, u86, .int .i64 (s : Int), .pointer (some ⟨g, s, none⟩), u89, u90, u91, u92, u93, u94, u95, rfl, hB, fun e0 => h0 (lset_ne (by decide) e0), fun e1 => h1 (lset_ne (by decide) e1), fun e2 => h2 (lset_ne (by decide) e2), fun _ => rfl, fun e4 => h4 (lset_ne (by decide) e4), fun e5 => h5 (lset_ne (by decide) e5), fun e6 => h6 (lset_ne (by decide) e6), fun e7 => h7 (lset_ne (by decide) e7), fun e8 => h8 (lset_ne (by decide) e8), fun e9 => h9 (lset_ne (by decide) e9), fun e10 => h10 (lset_ne (by decide) e10)⟩
    · have ho' : some _ = some o := ho
      cases ho'
      have d3 := hd { on := 3, ground := .data } (by simp) rfl
      have hbw : Below w.heap.size w w := Below.refl _ _
      have c0 := (hB.cell (p := ⟨g, s, none⟩) hg).trans hcs
      have e3 := h3 d3
      subst e3
      unfold obAct; go_simp
      exact ⟨u85, u86, u87, .pointer (some ⟨g, s, none⟩), .int .i64 ns, u90, u91, u92, u93, u94, u95, rfl, hB, fun e0 => h0 (lset_ne (by decide) e0), fun e1 => h1 (lset_ne (by decide) e1), fun e2 => h2 (lset_ne (by decide) e2), fun e3 => h3 (lset_ne (by decide) e3), fun _ => rfl, fun e5 => h5 (lset_ne (by decide) e5), fun e6 => h6 (lset_ne (by decide) e6), fun e7 => h7 (lset_ne (by decide) e7), fun e8 => h8 (lset_ne (by decide) e8), fun e9 => h9 (lset_ne (by decide) e9), fun e10 => h10 (lset_ne (by decide) e10)⟩
    · have ho' : some _ = some o := ho
      cases ho'
      have hbw : Below w.heap.size w w := Below.refl _ _
      unfold obAct; go_simp
      exact ⟨u85, u86, u87, u88, u89, .slice (some ⟨g, 0, none⟩) P cg, u91, u92, u93, u94, u95, rfl, hB, fun e0 => h0 (lset_ne (by decide) e0), fun e1 => h1 (lset_ne (by decide) e1), fun e2 => h2 (lset_ne (by decide) e2), fun e3 => h3 (lset_ne (by decide) e3), fun e4 => h4 (lset_ne (by decide) e4), fun _ => rfl, fun e6 => h6 (lset_ne (by decide) e6), fun e7 => h7 (lset_ne (by decide) e7), fun e8 => h8 (lset_ne (by decide) e8), fun e9 => h9 (lset_ne (by decide) e9), fun e10 => h10 (lset_ne (by decide) e10)⟩
    · have ho' : some _ = some o := ho
      cases ho'
      have hbw : Below w.heap.size w w := Below.refl _ _
      unfold obAct; go_simp
      exact ⟨u85, u86, u87, u88, u89, u90, .pointer (some ⟨eb, 0, none⟩), u92, u93, u94, u95, rfl, hB, fun e0 => h0 (lset_ne (by decide) e0), fun e1 => h1 (lset_ne (by decide) e1), fun e2 => h2 (lset_ne (by decide) e2), fun e3 => h3 (lset_ne (by decide) e3), fun e4 => h4 (lset_ne (by decide) e4), fun e5 => h5 (lset_ne (by decide) e5), fun _ => rfl, fun e7 => h7 (lset_ne (by decide) e7), fun e8 => h8 (lset_ne (by decide) e8), fun e9 => h9 (lset_ne (by decide) e9), fun e10 => h10 (lset_ne (by decide) e10)⟩
    · have ho' : some _ = some o := ho
      cases ho'
      have d6 := hd { on := 6, ground := .data } (by simp) rfl
      have hbw : Below w.heap.size w w := Below.refl _ _
      have c0 := (hB.cell (p := ⟨eb, 0, none⟩) heb).trans he0
      have e6 := h6 d6
      subst e6
      unfold obAct; go_simp
      exact ⟨u85, u86, u87, u88, u89, u90, .pointer (some ⟨eb, 0, none⟩), .int .i64 (r : Int), u93, u94, u95, rfl, hB, fun e0 => h0 (lset_ne (by decide) e0), fun e1 => h1 (lset_ne (by decide) e1), fun e2 => h2 (lset_ne (by decide) e2), fun e3 => h3 (lset_ne (by decide) e3), fun e4 => h4 (lset_ne (by decide) e4), fun e5 => h5 (lset_ne (by decide) e5), fun e6 => h6 (lset_ne (by decide) e6), fun _ => rfl, fun e8 => h8 (lset_ne (by decide) e8), fun e9 => h9 (lset_ne (by decide) e9), fun e10 => h10 (lset_ne (by decide) e10)⟩
    · have ho' : some _ = some o := ho
      cases ho'
      have d5 := hd { on := 5, ground := .data } (by simp) rfl
      have d7 := hd { on := 7, ground := .data } (by simp) rfl
      have hbw : Below w.heap.size w w := Below.refl _ _
      have p0 : (0 : Int) ≤ (r : Int) := by omega
      have p1 : (r : Int) < (P : Int) := by omega
      have e5 := h5 d5
      subst e5
      have e7 := h7 d7
      subst e7
      unfold obAct; go_simp
      exact ⟨u85, u86, u87, u88, u89, .slice (some ⟨g, 0, none⟩) P cg, u91, .int .i64 (r : Int), .pointer (some ⟨g, r, none⟩), u94, u95, rfl, hB, fun e0 => h0 (lset_ne (by decide) e0), fun e1 => h1 (lset_ne (by decide) e1), fun e2 => h2 (lset_ne (by decide) e2), fun e3 => h3 (lset_ne (by decide) e3), fun e4 => h4 (lset_ne (by decide) e4), fun e5 => h5 (lset_ne (by decide) e5), fun e6 => h6 (lset_ne (by decide) e6), fun e7 => h7 (lset_ne (by decide) e7), fun _ => rfl, fun e9 => h9 (lset_ne (by decide) e9), fun e10 => h10 (lset_ne (by decide) e10)⟩
    · have ho' : some _ = some o := ho
      cases ho'
      have d8 := hd { on := 8, ground := .data } (by simp) rfl
      have hbw : Below w.heap.size w w := Below.refl _ _
      have c0 := (hB.cell (p := ⟨g, r, none⟩) hg).trans hcr
      have e8 := h8 d8
      subst e8
      unfold obAct; go_simp
      exact ⟨u85, u86, u87, u88, u89, u90, u91, u92, .pointer (some ⟨g, r, none⟩), .int .i64 nr, u95, rfl, hB, fun e0 => h0 (lset_ne (by decide) e0), fun e1 => h1 (lset_ne (by decide) e1), fun e2 => h2 (lset_ne (by decide) e2), fun e3 => h3 (lset_ne (by decide) e3), fun e4 => h4 (lset_ne (by decide) e4), fun e5 => h5 (lset_ne (by decide) e5), fun e6 => h6 (lset_ne (by decide) e6), fun e7 => h7 (lset_ne (by decide) e7), fun e8 => h8 (lset_ne (by decide) e8), fun _ => rfl, fun e10 => h10 (lset_ne (by decide) e10)⟩
    · have ho' : some _ = some o := ho
      cases ho'
      have d4 := hd { on := 4, ground := .data } (by simp) rfl
      have d9 := hd { on := 9, ground := .data } (by simp) rfl
      have hbw : Below w.heap.size w w := Below.refl _ _
      have p9 : ¬ nr < ns := by omega
      have e4 := h4 d4
      subst e4
      have e9 := h9 d9
      subst e9
      unfold obAct; go_simp
      exact ⟨u85, u86, u87, u88, .int .i64 ns, u90, u91, u92, u93, .int .i64 nr, .bool false, rfl, hB, fun e0 => h0 (lset_ne (by decide) e0), fun e1 => h1 (lset_ne (by decide) e1), fun e2 => h2 (lset_ne (by decide) e2), fun e3 => h3 (lset_ne (by decide) e3), fun e4 => h4 (lset_ne (by decide) e4), fun e5 => h5 (lset_ne (by decide) e5), fun e6 => h6 (lset_ne (by decide) e6), fun e7 => h7 (lset_ne (by decide) e7), fun e8 => h8 (lset_ne (by decide) e8), fun e9 => h9 (lset_ne (by decide) e9), fun _ => rfl⟩
  · rintro listed a w ⟨u85, u86, u87, u88, u89, u90, u91, u92, u93, u94, u95, rfl, hB, h0, h1, h2, h3, h4, h5, h6, h7, h8, h9, h10⟩ hall
    exact hQ _ _ _ _ _ _ _ _ _ _ _ w hB (h0 (hall 0 (by decide))) (h1 (hall 1 (by decide))) (h2 (hall 2 (by decide))) (h3 (hall 3 (by decide))) (h4 (hall 4 (by decide))) (h5 (hall 5 (by decide))) (h6 (hall 6 (by decide))) (h7 (hall 7 (by decide))) (h8 (hall 8 (by decide))) (h9 (hall 9 (by decide))) (h10 (hall 10 (by decide)))
def ocAct (g cg P p q xb cx yb cy : Nat) (q0 q1 q2 q3 q4 q5 q8 q12 q14 q15 q16 q17 q18 q19 q20 q21 q22 q23 q24 q25 q26 q27 q28 q29 q30 q31 q32 q33 q34 q35 q36 q37 q38 q39 q40 q41 q42 q43 q44 q45 q46 q47 q48 q49 q50 q51 q52 q53 q54 q55 q56 q57 q58 q59 q60 q61 q62 q63 q64 q65 q66 q67 q68 q69 q70 q71 q72 q73 q74 q75 q76 q77 q78 q79 q80 q81 q82 q83 q84 q85 q86 q87 q88 q89 q90 q91 q92 q93 q94 q95 q96 q97 q98 q99 q100 q101 q102 q103 q104 q105 q106 q107 q108 q109 q110 q111 q112 u6 u113 u114 u115 u116 u117 u118 u119 u120 u121 u122 u123 u124 u125 u126 u127 u128 u129 u130 u131 u132 u133 u134 u135 : Value) : Act :=
  { tmps := #[q0, q1, q2, q3, q4, q5, u6, .slice (some ⟨g, 0, none⟩) P cg, q8, .int .i64 (p : Int), .int .i64 (q : Int), .slice (some ⟨xb, 0, none⟩) P cx, q12, .slice (some ⟨yb, 0, none⟩) P cy, q14, q15, q16, q17, q18, q19, q20, q21, q22, q23, q24, q25, q26, q27, q28, q29, q30, q31, q32, q33, q34, q35, q36, q37, q38, q39, q40, q41, q42, q43, q44, q45, q46, q47, q48, q49, q50, q51, q52, q53, q54, q55, q56, q57, q58, q59, q60, q61, q62, q63, q64, q65, q66, q67, q68, q69, q70, q71, q72, q73, q74, q75, q76, q77, q78, q79, q80, q81, q82, q83, q84, q85, q86, q87, q88, q89, q90, q91, q92, q93, q94, q95, q96, q97, q98, q99, q100, q101, q102, q103, q104, q105, q106, q107, q108, q109, q110, q111, q112, u113, u114, u115, u116, u117, u118, u119, u120, u121, u122, u123, u124, u125, u126, u127, u128, u129, u130, u131, u132, u133, u134, u135], defers := [] }
def ocI (g cg P p q xb cx yb cy : Nat) (np nq : Int) (rx ry : Bool) (q0 q1 q2 q3 q4 q5 q8 q12 q14 q15 q16 q17 q18 q19 q20 q21 q22 q23 q24 q25 q26 q27 q28 q29 q30 q31 q32 q33 q34 q35 q36 q37 q38 q39 q40 q41 q42 q43 q44 q45 q46 q47 q48 q49 q50 q51 q52 q53 q54 q55 q56 q57 q58 q59 q60 q61 q62 q63 q64 q65 q66 q67 q68 q69 q70 q71 q72 q73 q74 q75 q76 q77 q78 q79 q80 q81 q82 q83 q84 q85 q86 q87 q88 q89 q90 q91 q92 q93 q94 q95 q96 q97 q98 q99 q100 q101 q102 q103 q104 q105 q106 q107 q108 q109 q110 q111 q112 : Value) (W0 : World) (listed : Array Bool) (a : Act) (w : World) : Prop :=
  ∃ u6 u113 u114 u115 u116 u117 u118 u119 u120 u121 u122 u123 u124 u125 u126 u127 u128 u129 u130 u131 u132 u133 u134 u135, a = ocAct g cg P p q xb cx yb cy q0 q1 q2 q3 q4 q5 q8 q12 q14 q15 q16 q17 q18 q19 q20 q21 q22 q23 q24 q25 q26 q27 q28 q29 q30 q31 q32 q33 q34 q35 q36 q37 q38 q39 q40 q41 q42 q43 q44 q45 q46 q47 q48 q49 q50 q51 q52 q53 q54 q55 q56 q57 q58 q59 q60 q61 q62 q63 q64 q65 q66 q67 q68 q69 q70 q71 q72 q73 q74 q75 q76 q77 q78 q79 q80 q81 q82 q83 q84 q85 q86 q87 q88 q89 q90 q91 q92 q93 q94 q95 q96 q97 q98 q99 q100 q101 q102 q103 q104 q105 q106 q107 q108 q109 q110 q111 q112 u6 u113 u114 u115 u116 u117 u118 u119 u120 u121 u122 u123 u124 u125 u126 u127 u128 u129 u130 u131 u132 u133 u134 u135 ∧ Below W0.heap.size W0 w ∧
    (listed.getD 0 false = true → u113 = .slice (some ⟨g, 0, none⟩) P cg) ∧
    (listed.getD 1 false = true → u114 = .int .i64 (p : Int)) ∧
    (listed.getD 2 false = true → u115 = .pointer (some ⟨g, p, none⟩)) ∧
    (listed.getD 3 false = true → u116 = .int .i64 np) ∧
    (listed.getD 4 false = true → u117 = .slice (some ⟨g, 0, none⟩) P cg) ∧
    (listed.getD 5 false = true → u118 = .int .i64 (q : Int)) ∧
    (listed.getD 6 false = true → u119 = .pointer (some ⟨g, q, none⟩)) ∧
    (listed.getD 7 false = true → u120 = .int .i64 nq) ∧
    (listed.getD 8 false = true → u121 = .bool (np == nq)) ∧
    (listed.getD 9 false = true → u122 = .slice (some ⟨xb, 0, none⟩) P cx) ∧
    (listed.getD 10 false = true → u123 = .int .i64 (q : Int)) ∧
    (listed.getD 11 false = true → u124 = .pointer (some ⟨xb, q, none⟩)) ∧
    (listed.getD 12 false = true → u125 = .bool rx) ∧
    (listed.getD 13 false = true → u126 = .bool rx) ∧
    (listed.getD 14 false = true → rx = true → u127 = .slice (some ⟨yb, 0, none⟩) P cy) ∧
    (listed.getD 15 false = true → rx = true → u128 = .int .i64 (p : Int)) ∧
    (listed.getD 16 false = true → rx = true → u129 = .pointer (some ⟨yb, p, none⟩)) ∧
    (listed.getD 17 false = true → rx = true → u130 = .bool ry) ∧
    (listed.getD 18 false = true → u131 = .bool (rx && ry)) ∧
    (listed.getD 19 false = true → u132 = .bool true) ∧
    (listed.getD 20 false = true → u133 = .bool true) ∧
    (listed.getD 21 false = true → u134 = .bool true) ∧
    (listed.getD 22 false = true → u135 = .bool true) ∧
    (listed.getD 23 false = true → u6 = .bool true)
set_option maxRecDepth 20000 in
set_option maxHeartbeats 4000000 in
theorem oc_region (g cg P p q xb cx yb cy : Nat) (np nq : Int) (rx ry : Bool) (q0 q1 q2 q3 q4 q5 q8 q12 q14 q15 q16 q17 q18 q19 q20 q21 q22 q23 q24 q25 q26 q27 q28 q29 q30 q31 q32 q33 q34 q35 q36 q37 q38 q39 q40 q41 q42 q43 q44 q45 q46 q47 q48 q49 q50 q51 q52 q53 q54 q55 q56 q57 q58 q59 q60 q61 q62 q63 q64 q65 q66 q67 q68 q69 q70 q71 q72 q73 q74 q75 q76 q77 q78 q79 q80 q81 q82 q83 q84 q85 q86 q87 q88 q89 q90 q91 q92 q93 q94 q95 q96 q97 q98 q99 q100 q101 q102 q103 q104 q105 q106 q107 q108 q109 q110 q111 q112 : Value) (W0 : World) (i6 i113 i114 i115 i116 i117 i118 i119 i120 i121 i122 i123 i124 i125 i126 i127 i128 i129 i130 i131 i132 i133 i134 i135 : Value) (hp : p < P) (hq : q < P) (hP : P ≤ 1000) (heq : Hid ((np == nq) = (rx && ry))) (hg : g < W0.heap.size) (hx : xb < W0.heap.size) (hy : yb < W0.heap.size) (hcp : W0.cell? ⟨g, p, none⟩ = some (.int .i64 np)) (hcq : W0.cell? ⟨g, q, none⟩ = some (.int .i64 nq)) (hcx : W0.cell? ⟨xb, q, none⟩ = some (.bool rx)) (hcy : W0.cell? ⟨yb, p, none⟩ = some (.bool ry)) (haw : ∀ W, Below W0.heap.size W0 W → Calls Try.prog 14 #[] W fun e w' => e = .returned (.bool true) ∧ Below W.heap.size W w') {Q : Exit → Act → World → Prop}
    (hQ : ∀ u6 u113 u114 u115 u116 u117 u118 u119 u120 u121 u122 u123 u124 u125 u126 u127 u128 u129 u130 u131 u132 u133 u134 u135 w, Below W0.heap.size W0 w → (u113 = .slice (some ⟨g, 0, none⟩) P cg) → (u114 = .int .i64 (p : Int)) → (u115 = .pointer (some ⟨g, p, none⟩)) → (u116 = .int .i64 np) → (u117 = .slice (some ⟨g, 0, none⟩) P cg) → (u118 = .int .i64 (q : Int)) → (u119 = .pointer (some ⟨g, q, none⟩)) → (u120 = .int .i64 nq) → (u121 = .bool (np == nq)) → (u122 = .slice (some ⟨xb, 0, none⟩) P cx) → (u123 = .int .i64 (q : Int)) → (u124 = .pointer (some ⟨xb, q, none⟩)) → (u125 = .bool rx) → (u126 = .bool rx) → (rx = true → u127 = .slice (some ⟨yb, 0, none⟩) P cy) → (rx = true → u128 = .int .i64 (p : Int)) → (rx = true → u129 = .pointer (some ⟨yb, p, none⟩)) → (rx = true → u130 = .bool ry) → (u131 = .bool (rx && ry)) → (u132 = .bool true) → (u133 = .bool true) → (u134 = .bool true) → (u135 = .bool true) → (u6 = .bool true) → Q .normal (ocAct g cg P p q xb cx yb cy q0 q1 q2 q3 q4 q5 q8 q12 q14 q15 q16 q17 q18 q19 q20 q21 q22 q23 q24 q25 q26 q27 q28 q29 q30 q31 q32 q33 q34 q35 q36 q37 q38 q39 q40 q41 q42 q43 q44 q45 q46 q47 q48 q49 q50 q51 q52 q53 q54 q55 q56 q57 q58 q59 q60 q61 q62 q63 q64 q65 q66 q67 q68 q69 q70 q71 q72 q73 q74 q75 q76 q77 q78 q79 q80 q81 q82 q83 q84 q85 q86 q87 q88 q89 q90 q91 q92 q93 q94 q95 q96 q97 q98 q99 q100 q101 q102 q103 q104 q105 q106 q107 q108 q109 q110 q111 q112 u6 u113 u114 u115 u116 u117 u118 u119 u120 u121 u122 u123 u124 u125 u126 u127 u128 u129 u130 u131 u132 u133 u134 u135) w) :
    (Code.region 23 #[{ dst := some 113, op := Op.move (Operand.tmp 7), type := 51, pos := "law.go:203", after := #[], guard := none }, { dst := some 114, op := Op.move (Operand.tmp 9), type := 3, pos := "law.go:203", after := #[], guard := none }, { dst := some 115, op := Op.indexAddr 51 (Operand.tmp 113) (Operand.tmp 114), type := 0, pos := "law.go:203", after := #[{ on := 0, ground := Ground.data }, { on := 1, ground := Ground.data }], guard := none }, { dst := some 116, op := Op.load 3 (Operand.tmp 115), type := 3, pos := "law.go:203", after := #[{ on := 2, ground := Ground.data }], guard := none }, { dst := some 117, op := Op.move (Operand.tmp 7), type := 51, pos := "law.go:203", after := #[], guard := none }, { dst := some 118, op := Op.move (Operand.tmp 10), type := 3, pos := "law.go:203", after := #[], guard := none }, { dst := some 119, op := Op.indexAddr 51 (Operand.tmp 117) (Operand.tmp 118), type := 0, pos := "law.go:203", after := #[{ on := 4, ground := Ground.data }, { on := 5, ground := Ground.data }], guard := none }, { dst := some 120, op := Op.load 3 (Operand.tmp 119), type := 3, pos := "law.go:203", after := #[{ on := 6, ground := Ground.data }], guard := none }, { dst := some 121, op := Op.binOp BinOp.eql 3 (Operand.tmp 116) (Operand.tmp 120) 3, type := 4, pos := "law.go:203", after := #[{ on := 3, ground := Ground.data }, { on := 7, ground := Ground.data }], guard := none }, { dst := some 122, op := Op.move (Operand.tmp 11), type := 33, pos := "law.go:203", after := #[], guard := none }, { dst := some 123, op := Op.move (Operand.tmp 10), type := 3, pos := "law.go:203", after := #[], guard := none }, { dst := some 124, op := Op.indexAddr 33 (Operand.tmp 122) (Operand.tmp 123), type := 0, pos := "law.go:203", after := #[{ on := 9, ground := Ground.data }, { on := 10, ground := Ground.data }], guard := none }, { dst := some 125, op := Op.load 4 (Operand.tmp 124), type := 4, pos := "law.go:203", after := #[{ on := 11, ground := Ground.data }], guard := none }, { dst := some 126, op := Op.move (Operand.tmp 125), type := 4, pos := "law.go:203", after := #[{ on := 12, ground := Ground.data }], guard := none }, { dst := some 127, op := Op.move (Operand.tmp 13), type := 33, pos := "law.go:203", after := #[{ on := 13, ground := Ground.guard }], guard := some (13, true) }, { dst := some 128, op := Op.move (Operand.tmp 9), type := 3, pos := "law.go:203", after := #[{ on := 13, ground := Ground.guard }], guard := some (13, true) }, { dst := some 129, op := Op.indexAddr 33 (Operand.tmp 127) (Operand.tmp 128), type := 0, pos := "law.go:203", after := #[{ on := 14, ground := Ground.data }, { on := 15, ground := Ground.data }, { on := 13, ground := Ground.guard }], guard := some (13, true) }, { dst := some 130, op := Op.load 4 (Operand.tmp 129), type := 4, pos := "law.go:203", after := #[{ on := 16, ground := Ground.data }, { on := 13, ground := Ground.guard }], guard := some (13, true) }, { dst := some 131, op := Op.pick (Operand.tmp 126) (Operand.tmp 130) (Operand.const (Value.bool false)), type := 4, pos := "law.go:203", after := #[{ on := 13, ground := Ground.data }, { on := 17, ground := Ground.data }], guard := none }, { dst := some 132, op := Op.binOp BinOp.eql 4 (Operand.tmp 121) (Operand.tmp 131) 4, type := 4, pos := "law.go:203", after := #[{ on := 8, ground := Ground.data }, { on := 18, ground := Ground.data }], guard := none }, { dst := some 133, op := Op.move (Operand.tmp 132), type := 4, pos := "law.go:203", after := #[{ on := 19, ground := Ground.data }, { on := 13, ground := Ground.chain }], guard := none }, { dst := some 134, op := Op.call { callee := Callee.value (Operand.func 14), args := #[], argTypes := #[] }, type := 4, pos := "law.go:203", after := #[{ on := 20, ground := Ground.chain }, { on := 20, ground := Ground.guard }], guard := some (20, true) }, { dst := some 135, op := Op.pick (Operand.tmp 133) (Operand.tmp 134) (Operand.const (Value.bool false)), type := 4, pos := "law.go:203", after := #[{ on := 20, ground := Ground.data }, { on := 21, ground := Ground.data }], guard := none }, { dst := some 6, op := Op.assign (Operand.tmp 135), type := 4, pos := "law.go:203", after := #[{ on := 22, ground := Ground.data }, { on := 21, ground := Ground.chain }, { on := 0, ground := Ground.phase }, { on := 1, ground := Ground.phase }, { on := 2, ground := Ground.phase }, { on := 3, ground := Ground.phase }, { on := 4, ground := Ground.phase }, { on := 5, ground := Ground.phase }, { on := 6, ground := Ground.phase }, { on := 7, ground := Ground.phase }, { on := 8, ground := Ground.phase }, { on := 9, ground := Ground.phase }, { on := 10, ground := Ground.phase }, { on := 11, ground := Ground.phase }, { on := 12, ground := Ground.phase }, { on := 13, ground := Ground.phase }, { on := 14, ground := Ground.phase }, { on := 15, ground := Ground.phase }, { on := 16, ground := Ground.phase }, { on := 17, ground := Ground.phase }, { on := 18, ground := Ground.phase }, { on := 19, ground := Ground.phase }, { on := 20, ground := Ground.phase }, { on := 21, ground := Ground.phase }, { on := 22, ground := Ground.phase }], guard := none }] true).wp Try.prog Q (ocAct g cg P p q xb cx yb cy q0 q1 q2 q3 q4 q5 q8 q12 q14 q15 q16 q17 q18 q19 q20 q21 q22 q23 q24 q25 q26 q27 q28 q29 q30 q31 q32 q33 q34 q35 q36 q37 q38 q39 q40 q41 q42 q43 q44 q45 q46 q47 q48 q49 q50 q51 q52 q53 q54 q55 q56 q57 q58 q59 q60 q61 q62 q63 q64 q65 q66 q67 q68 q69 q70 q71 q72 q73 q74 q75 q76 q77 q78 q79 q80 q81 q82 q83 q84 q85 q86 q87 q88 q89 q90 q91 q92 q93 q94 q95 q96 q97 q98 q99 q100 q101 q102 q103 q104 q105 q106 q107 q108 q109 q110 q111 q112 (i6) (i113) (i114) (i115) (i116) (i117) (i118) (i119) (i120) (i121) (i122) (i123) (i124) (i125) (i126) (i127) (i128) (i129) (i130) (i131) (i132) (i133) (i134) (i135)) W0 := by
  refine wp_region_inv (by kernel_rfl) (by kernel_rfl) (ocI g cg P p q xb cx yb cy np nq rx ry q0 q1 q2 q3 q4 q5 q8 q12 q14 q15 q16 q17 q18 q19 q20 q21 q22 q23 q24 q25 q26 q27 q28 q29 q30 q31 q32 q33 q34 q35 q36 q37 q38 q39 q40 q41 q42 q43 q44 q45 q46 q47 q48 q49 q50 q51 q52 q53 q54 q55 q56 q57 q58 q59 q60 q61 q62 q63 q64 q65 q66 q67 q68 q69 q70 q71 q72 q73 q74 q75 q76 q77 q78 q79 q80 q81 q82 q83 q84 q85 q86 q87 q88 q89 q90 q91 q92 q93 q94 q95 q96 q97 q98 q99 q100 q101 q102 q103 q104 q105 q106 q107 q108 q109 q110 q111 q112 W0) ?_ ?_ ?_
  · refine ⟨_, _, _, _, _, _, _, _, _, _, _, _, _, _, _, _, _, _, _, _, _, _, _, _, rfl, (Below.refl _ _).drew, ?_, ?_, ?_, ?_, ?_, ?_, ?_, ?_, ?_, ?_, ?_, ?_, ?_, ?_, ?_, ?_, ?_, ?_, ?_, ?_, ?_, ?_, ?_, ?_⟩ <;> (intro e; simp at e)
  · intro listed a w i o hI hs ho hl hd
    have hi9 : i < 24 := (Array.getElem?_eq_some_iff.1 ho).1
    obtain ⟨u6, u113, u114, u115, u116, u117, u118, u119, u120, u121, u122, u123, u124, u125, u126, u127, u128, u129, u130, u131, u132, u133, u134, u135, rfl, hB, h0, h1, h2, h3, h4, h5, h6, h7, h8, h9, h10, h11, h12, h13, h14, h15, h16, h17, h18, h19, h20, h21, h22, h23⟩ := hI
    have hlB := hB.size
    rcases (show i = 0 ∨ i = 1 ∨ i = 2 ∨ i = 3 ∨ i = 4 ∨ i = 5 ∨ i = 6 ∨ i = 7 ∨ i = 8 ∨ i = 9 ∨ i = 10 ∨ i = 11 ∨ i = 12 ∨ i = 13 ∨ i = 14 ∨ i = 15 ∨ i = 16 ∨ i = 17 ∨ i = 18 ∨ i = 19 ∨ i = 20 ∨ i = 21 ∨ i = 22 ∨ i = 23 by omega) with rfl | rfl | rfl | rfl | rfl | rfl | rfl | rfl | rfl | rfl | rfl | rfl | rfl | rfl | rfl | rfl | rfl | rfl | rfl | rfl | rfl | rfl | rfl | rfl
    · have ho' : some _ = some o := ho
      cases ho'
      have hbw : Below w.heap.size w w := Below.refl _ _
      unfold ocAct; go_simp
      exact ⟨u6, .slice (some ⟨g, 0, none⟩) P cg, u114, u115, u116, u117, u118, u119, u120, u121, u122, u123, u124, u125, u126, u127, u128, u129, u130, u131, u132, u133, u134, u135, rfl, hB, fun _ => rfl, fun e1 => h1 (lset_ne (by decide) e1), fun e2 => h2 (lset_ne (by decide) e2), fun e3 => h3 (lset_ne (by decide) e3), fun e4 => h4 (lset_ne (by decide) e4), fun e5 => h5 (lset_ne (by decide) e5), fun e6 => h6 (lset_ne (by decide) e6), fun e7 => h7 (lset_ne (by decide) e7), fun e8 => h8 (lset_ne (by decide) e8), fun e9 => h9 (lset_ne (by decide) e9), fun e10 => h10 (lset_ne (by decide) e10), fun e11 => h11 (lset_ne (by decide) e11), fun e12 => h12 (lset_ne (by decide) e12), fun e13 => h13 (lset_ne (by decide) e13), fun e14 => h14 (lset_ne (by decide) e14), fun e15 => h15 (lset_ne (by decide) e15), fun e16 => h16 (lset_ne (by decide) e16), fun e17 => h17 (lset_ne (by decide) e17), fun e18 => h18 (lset_ne (by decide) e18), fun e19 => h19 (lset_ne (by decide) e19), fun e20 => h20 (lset_ne (by decide) e20), fun e21 => h21 (lset_ne (by decide) e21), fun e22 => h22 (lset_ne (by decide) e22), fun e23 => h23 (lset_ne (by decide) e23)⟩
    · have ho' : some _ = some o := ho
      cases ho'
      have hbw : Below w.heap.size w w := Below.refl _ _
      unfold ocAct; go_simp
      exact ⟨u6, u113, .int .i64 (p : Int), u115, u116, u117, u118, u119, u120, u121, u122, u123, u124, u125, u126, u127, u128, u129, u130, u131, u132, u133, u134, u135, rfl, hB, fun e0 => h0 (lset_ne (by decide) e0), fun _ => rfl, fun e2 => h2 (lset_ne (by decide) e2), fun e3 => h3 (lset_ne (by decide) e3), fun e4 => h4 (lset_ne (by decide) e4), fun e5 => h5 (lset_ne (by decide) e5), fun e6 => h6 (lset_ne (by decide) e6), fun e7 => h7 (lset_ne (by decide) e7), fun e8 => h8 (lset_ne (by decide) e8), fun e9 => h9 (lset_ne (by decide) e9), fun e10 => h10 (lset_ne (by decide) e10), fun e11 => h11 (lset_ne (by decide) e11), fun e12 => h12 (lset_ne (by decide) e12), fun e13 => h13 (lset_ne (by decide) e13), fun e14 => h14 (lset_ne (by decide) e14), fun e15 => h15 (lset_ne (by decide) e15), fun e16 => h16 (lset_ne (by decide) e16), fun e17 => h17 (lset_ne (by decide) e17), fun e18 => h18 (lset_ne (by decide) e18), fun e19 => h19 (lset_ne (by decide) e19), fun e20 => h20 (lset_ne (by decide) e20), fun e21 => h21 (lset_ne (by decide) e21), fun e22 => h22 (lset_ne (by decide) e22), fun e23 => h23 (lset_ne (by decide) e23)⟩
    · have ho' : some _ = some o := ho
      cases ho'
      have d0 := hd { on := 0, ground := .data } (by simp) rfl
      have d1 := hd { on := 1, ground := .data } (by simp) rfl
      have hbw : Below w.heap.size w w := Below.refl _ _
      have p0 : (0 : Int) ≤ (p : Int) := by omega
      have p1 : (p : Int) < (P : Int) := by omega
      have e0 := h0 d0
      subst e0
      have e1 := h1 d1
      subst e1
      unfold ocAct; go_simp
      exact ⟨u6, .slice (some ⟨g, 0, none⟩) P cg, .int .i64 (p : Int), .pointer (some ⟨g, p, none⟩), u116, u117, u118, u119, u120, u121, u122, u123, u124, u125, u126, u127, u128, u129, u130, u131, u132, u133, u134, u135, rfl, hB, fun e0 => h0 (lset_ne (by decide) e0), fun e1 => h1 (lset_ne (by decide) e1), fun _ => rfl, fun e3 => h3 (lset_ne (by decide) e3), fun e4 => h4 (lset_ne (by decide) e4), fun e5 => h5 (lset_ne (by decide) e5), fun e6 => h6 (lset_ne (by decide) e6), fun e7 => h7 (lset_ne (by decide) e7), fun e8 => h8 (lset_ne (by decide) e8), fun e9 => h9 (lset_ne (by decide) e9), fun e10 => h10 (lset_ne (by decide) e10), fun e11 => h11 (lset_ne (by decide) e11), fun e12 => h12 (lset_ne (by decide) e12), fun e13 => h13 (lset_ne (by decide) e13), fun e14 => h14 (lset_ne (by decide) e14), fun e15 => h15 (lset_ne (by decide) e15), fun e16 => h16 (lset_ne (by decide) e16), fun e17 => h17 (lset_ne (by decide) e17), fun e18 => h18 (lset_ne (by decide) e18), fun e19 => h19 (lset_ne (by decide) e19), fun e20 => h20 (lset_ne (by decide) e20), fun e21 => h21 (lset_ne (by decide) e21), fun e22 => h22 (lset_ne (by decide) e22), fun e23 => h23 (lset_ne (by decide) e23)⟩
    · have ho' : some _ = some o := ho
      cases ho'
      have d2 := hd { on := 2, ground := .data } (by simp) rfl
      have hbw : Below w.heap.size w w := Below.refl _ _
      have c0 := (hB.cell (p := ⟨g, p, none⟩) hg).trans hcp
      have e2 := h2 d2
      subst e2
      unfold ocAct; go_simp
      exact ⟨u6, u113, u114, .pointer (some ⟨g, p, none⟩), .int .i64 np, u117, u118, u119, u120, u121, u122, u123, u124, u125, u126, u127, u128, u129, u130, u131, u132, u133, u134, u135, rfl, hB, fun e0 => h0 (lset_ne (by decide) e0), fun e1 => h1 (lset_ne (by decide) e1), fun e2 => h2 (lset_ne (by decide) e2), fun _ => rfl, fun e4 => h4 (lset_ne (by decide) e4), fun e5 => h5 (lset_ne (by decide) e5), fun e6 => h6 (lset_ne (by decide) e6), fun e7 => h7 (lset_ne (by decide) e7), fun e8 => h8 (lset_ne (by decide) e8), fun e9 => h9 (lset_ne (by decide) e9), fun e10 => h10 (lset_ne (by decide) e10), fun e11 => h11 (lset_ne (by decide) e11), fun e12 => h12 (lset_ne (by decide) e12), fun e13 => h13 (lset_ne (by decide) e13), fun e14 => h14 (lset_ne (by decide) e14), fun e15 => h15 (lset_ne (by decide) e15), fun e16 => h16 (lset_ne (by decide) e16), fun e17 => h17 (lset_ne (by decide) e17), fun e18 => h18 (lset_ne (by decide) e18), fun e19 => h19 (lset_ne (by decide) e19), fun e20 => h20 (lset_ne (by decide) e20), fun e21 => h21 (lset_ne (by decide) e21), fun e22 => h22 (lset_ne (by decide) e22), fun e23 => h23 (lset_ne (by decide) e23)⟩
    · have ho' : some _ = some o := ho
      cases ho'
      have hbw : Below w.heap.size w w := Below.refl _ _
      unfold ocAct; go_simp
      exact ⟨u6, u113, u114, u115, u116, .slice (some ⟨g, 0, none⟩) P cg, u118, u119, u120, u121, u122, u123, u124, u125, u126, u127, u128, u129, u130, u131, u132, u133, u134, u135, rfl, hB, fun e0 => h0 (lset_ne (by decide) e0), fun e1 => h1 (lset_ne (by decide) e1), fun e2 => h2 (lset_ne (by decide) e2), fun e3 => h3 (lset_ne (by decide) e3), fun _ => rfl, fun e5 => h5 (lset_ne (by decide) e5), fun e6 => h6 (lset_ne (by decide) e6), fun e7 => h7 (lset_ne (by decide) e7), fun e8 => h8 (lset_ne (by decide) e8), fun e9 => h9 (lset_ne (by decide) e9), fun e10 => h10 (lset_ne (by decide) e10), fun e11 => h11 (lset_ne (by decide) e11), fun e12 => h12 (lset_ne (by decide) e12), fun e13 => h13 (lset_ne (by decide) e13), fun e14 => h14 (lset_ne (by decide) e14), fun e15 => h15 (lset_ne (by decide) e15), fun e16 => h16 (lset_ne (by decide) e16), fun e17 => h17 (lset_ne (by decide) e17), fun e18 => h18 (lset_ne (by decide) e18), fun e19 => h19 (lset_ne (by decide) e19), fun e20 => h20 (lset_ne (by decide) e20), fun e21 => h21 (lset_ne (by decide) e21), fun e22 => h22 (lset_ne (by decide) e22), fun e23 => h23 (lset_ne (by decide) e23)⟩
    · have ho' : some _ = some o := ho
      cases ho'
      have hbw : Below w.heap.size w w := Below.refl _ _
      unfold ocAct; go_simp
      exact ⟨u6, u113, u114, u115, u116, u117, .int .i64 (q : Int), u119, u120, u121, u122, u123, u124, u125, u126, u127, u128, u129, u130, u131, u132, u133, u134, u135, rfl, hB, fun e0 => h0 (lset_ne (by decide) e0), fun e1 => h1 (lset_ne (by decide) e1), fun e2 => h2 (lset_ne (by decide) e2), fun e3 => h3 (lset_ne (by decide) e3), fun e4 => h4 (lset_ne (by decide) e4), fun _ => rfl, fun e6 => h6 (lset_ne (by decide) e6), fun e7 => h7 (lset_ne (by decide) e7), fun e8 => h8 (lset_ne (by decide) e8), fun e9 => h9 (lset_ne (by decide) e9), fun e10 => h10 (lset_ne (by decide) e10), fun e11 => h11 (lset_ne (by decide) e11), fun e12 => h12 (lset_ne (by decide) e12), fun e13 => h13 (lset_ne (by decide) e13), fun e14 => h14 (lset_ne (by decide) e14), fun e15 => h15 (lset_ne (by decide) e15), fun e16 => h16 (lset_ne (by decide) e16), fun e17 => h17 (lset_ne (by decide) e17), fun e18 => h18 (lset_ne (by decide) e18), fun e19 => h19 (lset_ne (by decide) e19), fun e20 => h20 (lset_ne (by decide) e20), fun e21 => h21 (lset_ne (by decide) e21), fun e22 => h22 (lset_ne (by decide) e22), fun e23 => h23 (lset_ne (by decide) e23)⟩
    · have ho' : some _ = some o := ho
      cases ho'
      have d4 := hd { on := 4, ground := .data } (by simp) rfl
      have d5 := hd { on := 5, ground := .data } (by simp) rfl
      have hbw : Below w.heap.size w w := Below.refl _ _
      have p0 : (0 : Int) ≤ (q : Int) := by omega
      have p1 : (q : Int) < (P : Int) := by omega
      have e4 := h4 d4
      subst e4
      have e5 := h5 d5
      subst e5
      unfold ocAct; go_simp
      exact ⟨u6, u113, u114, u115, u116, .slice (some ⟨g, 0, none⟩) P cg, .int .i64 (q : Int), .pointer (some ⟨g, q, none⟩), u120, u121, u122, u123, u124, u125, u126, u127, u128, u129, u130, u131, u132, u133, u134, u135, rfl, hB, fun e0 => h0 (lset_ne (by decide) e0), fun e1 => h1 (lset_ne (by decide) e1), fun e2 => h2 (lset_ne (by decide) e2), fun e3 => h3 (lset_ne (by decide) e3), fun e4 => h4 (lset_ne (by decide) e4), fun e5 => h5 (lset_ne (by decide) e5), fun _ => rfl, fun e7 => h7 (lset_ne (by decide) e7), fun e8 => h8 (lset_ne (by decide) e8), fun e9 => h9 (lset_ne (by decide) e9), fun e10 => h10 (lset_ne (by decide) e10), fun e11 => h11 (lset_ne (by decide) e11), fun e12 => h12 (lset_ne (by decide) e12), fun e13 => h13 (lset_ne (by decide) e13), fun e14 => h14 (lset_ne (by decide) e14), fun e15 => h15 (lset_ne (by decide) e15), fun e16 => h16 (lset_ne (by decide) e16), fun e17 => h17 (lset_ne (by decide) e17), fun e18 => h18 (lset_ne (by decide) e18), fun e19 => h19 (lset_ne (by decide) e19), fun e20 => h20 (lset_ne (by decide) e20), fun e21 => h21 (lset_ne (by decide) e21), fun e22 => h22 (lset_ne (by decide) e22), fun e23 => h23 (lset_ne (by decide) e23)⟩
    · have ho' : some _ = some o := ho
      cases ho'
      have d6 := hd { on := 6, ground := .data } (by simp) rfl
      have hbw : Below w.heap.size w w := Below.refl _ _
      have c0 := (hB.cell (p := ⟨g, q, none⟩) hg).trans hcq
      have e6 := h6 d6
      subst e6
      unfold ocAct; go_simp
      exact ⟨u6, u113, u114, u115, u116, u117, u118, .pointer (some ⟨g, q, none⟩), .int .i64 nq, u121, u122, u123, u124, u125, u126, u127, u128, u129, u130, u131, u132, u133, u134, u135, rfl, hB, fun e0 => h0 (lset_ne (by decide) e0), fun e1 => h1 (lset_ne (by decide) e1), fun e2 => h2 (lset_ne (by decide) e2), fun e3 => h3 (lset_ne (by decide) e3), fun e4 => h4 (lset_ne (by decide) e4), fun e5 => h5 (lset_ne (by decide) e5), fun e6 => h6 (lset_ne (by decide) e6), fun _ => rfl, fun e8 => h8 (lset_ne (by decide) e8), fun e9 => h9 (lset_ne (by decide) e9), fun e10 => h10 (lset_ne (by decide) e10), fun e11 => h11 (lset_ne (by decide) e11), fun e12 => h12 (lset_ne (by decide) e12), fun e13 => h13 (lset_ne (by decide) e13), fun e14 => h14 (lset_ne (by decide) e14), fun e15 => h15 (lset_ne (by decide) e15), fun e16 => h16 (lset_ne (by decide) e16), fun e17 => h17 (lset_ne (by decide) e17), fun e18 => h18 (lset_ne (by decide) e18), fun e19 => h19 (lset_ne (by decide) e19), fun e20 => h20 (lset_ne (by decide) e20), fun e21 => h21 (lset_ne (by decide) e21), fun e22 => h22 (lset_ne (by decide) e22), fun e23 => h23 (lset_ne (by decide) e23)⟩
    · have ho' : some _ = some o := ho
      cases ho'
      have d3 := hd { on := 3, ground := .data } (by simp) rfl
      have d7 := hd { on := 7, ground := .data } (by simp) rfl
      have hbw : Below w.heap.size w w := Below.refl _ _
      have e3 := h3 d3
      subst e3
      have e7 := h7 d7
      subst e7
      unfold ocAct; go_simp
      exact ⟨u6, u113, u114, u115, .int .i64 np, u117, u118, u119, .int .i64 nq, .bool (np == nq), u122, u123, u124, u125, u126, u127, u128, u129, u130, u131, u132, u133, u134, u135, rfl, hB, fun e0 => h0 (lset_ne (by decide) e0), fun e1 => h1 (lset_ne (by decide) e1), fun e2 => h2 (lset_ne (by decide) e2), fun e3 => h3 (lset_ne (by decide) e3), fun e4 => h4 (lset_ne (by decide) e4), fun e5 => h5 (lset_ne (by decide) e5), fun e6 => h6 (lset_ne (by decide) e6), fun e7 => h7 (lset_ne (by decide) e7), fun _ => rfl, fun e9 => h9 (lset_ne (by decide) e9), fun e10 => h10 (lset_ne (by decide) e10), fun e11 => h11 (lset_ne (by decide) e11), fun e12 => h12 (lset_ne (by decide) e12), fun e13 => h13 (lset_ne (by decide) e13), fun e14 => h14 (lset_ne (by decide) e14), fun e15 => h15 (lset_ne (by decide) e15), fun e16 => h16 (lset_ne (by decide) e16), fun e17 => h17 (lset_ne (by decide) e17), fun e18 => h18 (lset_ne (by decide) e18), fun e19 => h19 (lset_ne (by decide) e19), fun e20 => h20 (lset_ne (by decide) e20), fun e21 => h21 (lset_ne (by decide) e21), fun e22 => h22 (lset_ne (by decide) e22), fun e23 => h23 (lset_ne (by decide) e23)⟩
    · have ho' : some _ = some o := ho
      cases ho'
      have hbw : Below w.heap.size w w := Below.refl _ _
      unfold ocAct; go_simp
      exact ⟨u6, u113, u114, u115, u116, u117, u118, u119, u120, u121, .slice (some ⟨xb, 0, none⟩) P cx, u123, u124, u125, u126, u127, u128, u129, u130, u131, u132, u133, u134, u135, rfl, hB, fun e0 => h0 (lset_ne (by decide) e0), fun e1 => h1 (lset_ne (by decide) e1), fun e2 => h2 (lset_ne (by decide) e2), fun e3 => h3 (lset_ne (by decide) e3), fun e4 => h4 (lset_ne (by decide) e4), fun e5 => h5 (lset_ne (by decide) e5), fun e6 => h6 (lset_ne (by decide) e6), fun e7 => h7 (lset_ne (by decide) e7), fun e8 => h8 (lset_ne (by decide) e8), fun _ => rfl, fun e10 => h10 (lset_ne (by decide) e10), fun e11 => h11 (lset_ne (by decide) e11), fun e12 => h12 (lset_ne (by decide) e12), fun e13 => h13 (lset_ne (by decide) e13), fun e14 => h14 (lset_ne (by decide) e14), fun e15 => h15 (lset_ne (by decide) e15), fun e16 => h16 (lset_ne (by decide) e16), fun e17 => h17 (lset_ne (by decide) e17), fun e18 => h18 (lset_ne (by decide) e18), fun e19 => h19 (lset_ne (by decide) e19), fun e20 => h20 (lset_ne (by decide) e20), fun e21 => h21 (lset_ne (by decide) e21), fun e22 => h22 (lset_ne (by decide) e22), fun e23 => h23 (lset_ne (by decide) e23)⟩
    · have ho' : some _ = some o := ho
      cases ho'
      have hbw : Below w.heap.size w w := Below.refl _ _
      unfold ocAct; go_simp
      exact ⟨u6, u113, u114, u115, u116, u117, u118, u119, u120, u121, u122, .int .i64 (q : Int), u124, u125, u126, u127, u128, u129, u130, u131, u132, u133, u134, u135, rfl, hB, fun e0 => h0 (lset_ne (by decide) e0), fun e1 => h1 (lset_ne (by decide) e1), fun e2 => h2 (lset_ne (by decide) e2), fun e3 => h3 (lset_ne (by decide) e3), fun e4 => h4 (lset_ne (by decide) e4), fun e5 => h5 (lset_ne (by decide) e5), fun e6 => h6 (lset_ne (by decide) e6), fun e7 => h7 (lset_ne (by decide) e7), fun e8 => h8 (lset_ne (by decide) e8), fun e9 => h9 (lset_ne (by decide) e9), fun _ => rfl, fun e11 => h11 (lset_ne (by decide) e11), fun e12 => h12 (lset_ne (by decide) e12), fun e13 => h13 (lset_ne (by decide) e13), fun e14 => h14 (lset_ne (by decide) e14), fun e15 => h15 (lset_ne (by decide) e15), fun e16 => h16 (lset_ne (by decide) e16), fun e17 => h17 (lset_ne (by decide) e17), fun e18 => h18 (lset_ne (by decide) e18), fun e19 => h19 (lset_ne (by decide) e19), fun e20 => h20 (lset_ne (by decide) e20), fun e21 => h21 (lset_ne (by decide) e21), fun e22 => h22 (lset_ne (by decide) e22), fun e23 => h23 (lset_ne (by decide) e23)⟩
    · have ho' : some _ = some o := ho
      cases ho'
      have d9 := hd { on := 9, ground := .data } (by simp) rfl
      have d10 := hd { on := 10, ground := .data } (by simp) rfl
      have hbw : Below w.heap.size w w := Below.refl _ _
      have p0 : (0 : Int) ≤ (q : Int) := by omega
      have p1 : (q : Int) < (P : Int) := by omega
      have e9 := h9 d9
      subst e9
      have e10 := h10 d10
      subst e10
      unfold ocAct; go_simp
      exact ⟨u6, u113, u114, u115, u116, u117, u118, u119, u120, u121, .slice (some ⟨xb, 0, none⟩) P cx, .int .i64 (q : Int), .pointer (some ⟨xb, q, none⟩), u125, u126, u127, u128, u129, u130, u131, u132, u133, u134, u135, rfl, hB, fun e0 => h0 (lset_ne (by decide) e0), fun e1 => h1 (lset_ne (by decide) e1), fun e2 => h2 (lset_ne (by decide) e2), fun e3 => h3 (lset_ne (by decide) e3), fun e4 => h4 (lset_ne (by decide) e4), fun e5 => h5 (lset_ne (by decide) e5), fun e6 => h6 (lset_ne (by decide) e6), fun e7 => h7 (lset_ne (by decide) e7), fun e8 => h8 (lset_ne (by decide) e8), fun e9 => h9 (lset_ne (by decide) e9), fun e10 => h10 (lset_ne (by decide) e10), fun _ => rfl, fun e12 => h12 (lset_ne (by decide) e12), fun e13 => h13 (lset_ne (by decide) e13), fun e14 => h14 (lset_ne (by decide) e14), fun e15 => h15 (lset_ne (by decide) e15), fun e16 => h16 (lset_ne (by decide) e16), fun e17 => h17 (lset_ne (by decide) e17), fun e18 => h18 (lset_ne (by decide) e18), fun e19 => h19 (lset_ne (by decide) e19), fun e20 => h20 (lset_ne (by decide) e20), fun e21 => h21 (lset_ne (by decide) e21), fun e22 => h22 (lset_ne (by decide) e22), fun e23 => h23 (lset_ne (by decide) e23)⟩
    · have ho' : some _ = some o := ho
      cases ho'
      have d11 := hd { on := 11, ground := .data } (by simp) rfl
      have hbw : Below w.heap.size w w := Below.refl _ _
      have c0 := (hB.cell (p := ⟨xb, q, none⟩) hx).trans hcx
      have e11 := h11 d11
      subst e11
      unfold ocAct; go_simp
      exact ⟨u6, u113, u114, u115, u116, u117, u118, u119, u120, u121, u122, u123, .pointer (some ⟨xb, q, none⟩), .bool rx, u126, u127, u128, u129, u130, u131, u132, u133, u134, u135, rfl, hB, fun e0 => h0 (lset_ne (by decide) e0), fun e1 => h1 (lset_ne (by decide) e1), fun e2 => h2 (lset_ne (by decide) e2), fun e3 => h3 (lset_ne (by decide) e3), fun e4 => h4 (lset_ne (by decide) e4), fun e5 => h5 (lset_ne (by decide) e5), fun e6 => h6 (lset_ne (by decide) e6), fun e7 => h7 (lset_ne (by decide) e7), fun e8 => h8 (lset_ne (by decide) e8), fun e9 => h9 (lset_ne (by decide) e9), fun e10 => h10 (lset_ne (by decide) e10), fun e11 => h11 (lset_ne (by decide) e11), fun _ => rfl, fun e13 => h13 (lset_ne (by decide) e13), fun e14 => h14 (lset_ne (by decide) e14), fun e15 => h15 (lset_ne (by decide) e15), fun e16 => h16 (lset_ne (by decide) e16), fun e17 => h17 (lset_ne (by decide) e17), fun e18 => h18 (lset_ne (by decide) e18), fun e19 => h19 (lset_ne (by decide) e19), fun e20 => h20 (lset_ne (by decide) e20), fun e21 => h21 (lset_ne (by decide) e21), fun e22 => h22 (lset_ne (by decide) e22), fun e23 => h23 (lset_ne (by decide) e23)⟩
    · have ho' : some _ = some o := ho
      cases ho'
      have d12 := hd { on := 12, ground := .data } (by simp) rfl
      have hbw : Below w.heap.size w w := Below.refl _ _
      have e12 := h12 d12
      subst e12
      unfold ocAct; go_simp
      exact ⟨u6, u113, u114, u115, u116, u117, u118, u119, u120, u121, u122, u123, u124, .bool rx, .bool rx, u127, u128, u129, u130, u131, u132, u133, u134, u135, rfl, hB, fun e0 => h0 (lset_ne (by decide) e0), fun e1 => h1 (lset_ne (by decide) e1), fun e2 => h2 (lset_ne (by decide) e2), fun e3 => h3 (lset_ne (by decide) e3), fun e4 => h4 (lset_ne (by decide) e4), fun e5 => h5 (lset_ne (by decide) e5), fun e6 => h6 (lset_ne (by decide) e6), fun e7 => h7 (lset_ne (by decide) e7), fun e8 => h8 (lset_ne (by decide) e8), fun e9 => h9 (lset_ne (by decide) e9), fun e10 => h10 (lset_ne (by decide) e10), fun e11 => h11 (lset_ne (by decide) e11), fun e12 => h12 (lset_ne (by decide) e12), fun _ => rfl, fun e14 => h14 (lset_ne (by decide) e14), fun e15 => h15 (lset_ne (by decide) e15), fun e16 => h16 (lset_ne (by decide) e16), fun e17 => h17 (lset_ne (by decide) e17), fun e18 => h18 (lset_ne (by decide) e18), fun e19 => h19 (lset_ne (by decide) e19), fun e20 => h20 (lset_ne (by decide) e20), fun e21 => h21 (lset_ne (by decide) e21), fun e22 => h22 (lset_ne (by decide) e22), fun e23 => h23 (lset_ne (by decide) e23)⟩
    · have ho' : some _ = some o := ho
      cases ho'
      have d13 := hd { on := 13, ground := .guard } (by simp) rfl
      have hbw : Below w.heap.size w w := Below.refl _ _
      have eg := h13 d13
      subst eg
      cases rx with
      | false =>
        unfold ocAct; go_simp
        exact ⟨u6, u113, u114, u115, u116, u117, u118, u119, u120, u121, u122, u123, u124, u125, .bool false, undef, u128, u129, u130, u131, u132, u133, u134, u135, rfl, hB, fun e0 => h0 (lset_ne (by decide) e0), fun e1 => h1 (lset_ne (by decide) e1), fun e2 => h2 (lset_ne (by decide) e2), fun e3 => h3 (lset_ne (by decide) e3), fun e4 => h4 (lset_ne (by decide) e4), fun e5 => h5 (lset_ne (by decide) e5), fun e6 => h6 (lset_ne (by decide) e6), fun e7 => h7 (lset_ne (by decide) e7), fun e8 => h8 (lset_ne (by decide) e8), fun e9 => h9 (lset_ne (by decide) e9), fun e10 => h10 (lset_ne (by decide) e10), fun e11 => h11 (lset_ne (by decide) e11), fun e12 => h12 (lset_ne (by decide) e12), fun e13 => h13 (lset_ne (by decide) e13), fun _ e => (by cases e), fun e15 => h15 (lset_ne (by decide) e15), fun e16 => h16 (lset_ne (by decide) e16), fun e17 => h17 (lset_ne (by decide) e17), fun e18 => h18 (lset_ne (by decide) e18), fun e19 => h19 (lset_ne (by decide) e19), fun e20 => h20 (lset_ne (by decide) e20), fun e21 => h21 (lset_ne (by decide) e21), fun e22 => h22 (lset_ne (by decide) e22), fun e23 => h23 (lset_ne (by decide) e23)⟩
      | true =>
        unfold ocAct; go_simp
        exact ⟨u6, u113, u114, u115, u116, u117, u118, u119, u120, u121, u122, u123, u124, u125, .bool true, .slice (some ⟨yb, 0, none⟩) P cy, u128, u129, u130, u131, u132, u133, u134, u135, rfl, hB, fun e0 => h0 (lset_ne (by decide) e0), fun e1 => h1 (lset_ne (by decide) e1), fun e2 => h2 (lset_ne (by decide) e2), fun e3 => h3 (lset_ne (by decide) e3), fun e4 => h4 (lset_ne (by decide) e4), fun e5 => h5 (lset_ne (by decide) e5), fun e6 => h6 (lset_ne (by decide) e6), fun e7 => h7 (lset_ne (by decide) e7), fun e8 => h8 (lset_ne (by decide) e8), fun e9 => h9 (lset_ne (by decide) e9), fun e10 => h10 (lset_ne (by decide) e10), fun e11 => h11 (lset_ne (by decide) e11), fun e12 => h12 (lset_ne (by decide) e12), fun e13 => h13 (lset_ne (by decide) e13), fun _ _ => rfl, fun e15 => h15 (lset_ne (by decide) e15), fun e16 => h16 (lset_ne (by decide) e16), fun e17 => h17 (lset_ne (by decide) e17), fun e18 => h18 (lset_ne (by decide) e18), fun e19 => h19 (lset_ne (by decide) e19), fun e20 => h20 (lset_ne (by decide) e20), fun e21 => h21 (lset_ne (by decide) e21), fun e22 => h22 (lset_ne (by decide) e22), fun e23 => h23 (lset_ne (by decide) e23)⟩
    · have ho' : some _ = some o := ho
      cases ho'
      have d13 := hd { on := 13, ground := .guard } (by simp) rfl
      have hbw : Below w.heap.size w w := Below.refl _ _
      have eg := h13 d13
      subst eg
      cases rx with
      | false =>
        unfold ocAct; go_simp
        exact ⟨u6, u113, u114, u115, u116, u117, u118, u119, u120, u121, u122, u123, u124, u125, .bool false, u127, undef, u129, u130, u131, u132, u133, u134, u135, rfl, hB, fun e0 => h0 (lset_ne (by decide) e0), fun e1 => h1 (lset_ne (by decide) e1), fun e2 => h2 (lset_ne (by decide) e2), fun e3 => h3 (lset_ne (by decide) e3), fun e4 => h4 (lset_ne (by decide) e4), fun e5 => h5 (lset_ne (by decide) e5), fun e6 => h6 (lset_ne (by decide) e6), fun e7 => h7 (lset_ne (by decide) e7), fun e8 => h8 (lset_ne (by decide) e8), fun e9 => h9 (lset_ne (by decide) e9), fun e10 => h10 (lset_ne (by decide) e10), fun e11 => h11 (lset_ne (by decide) e11), fun e12 => h12 (lset_ne (by decide) e12), fun e13 => h13 (lset_ne (by decide) e13), fun e14 => h14 (lset_ne (by decide) e14), fun _ e => (by cases e), fun e16 => h16 (lset_ne (by decide) e16), fun e17 => h17 (lset_ne (by decide) e17), fun e18 => h18 (lset_ne (by decide) e18), fun e19 => h19 (lset_ne (by decide) e19), fun e20 => h20 (lset_ne (by decide) e20), fun e21 => h21 (lset_ne (by decide) e21), fun e22 => h22 (lset_ne (by decide) e22), fun e23 => h23 (lset_ne (by decide) e23)⟩
      | true =>
        unfold ocAct; go_simp
        exact ⟨u6, u113, u114, u115, u116, u117, u118, u119, u120, u121, u122, u123, u124, u125, .bool true, u127, .int .i64 (p : Int), u129, u130, u131, u132, u133, u134, u135, rfl, hB, fun e0 => h0 (lset_ne (by decide) e0), fun e1 => h1 (lset_ne (by decide) e1), fun e2 => h2 (lset_ne (by decide) e2), fun e3 => h3 (lset_ne (by decide) e3), fun e4 => h4 (lset_ne (by decide) e4), fun e5 => h5 (lset_ne (by decide) e5), fun e6 => h6 (lset_ne (by decide) e6), fun e7 => h7 (lset_ne (by decide) e7), fun e8 => h8 (lset_ne (by decide) e8), fun e9 => h9 (lset_ne (by decide) e9), fun e10 => h10 (lset_ne (by decide) e10), fun e11 => h11 (lset_ne (by decide) e11), fun e12 => h12 (lset_ne (by decide) e12), fun e13 => h13 (lset_ne (by decide) e13), fun e14 => h14 (lset_ne (by decide) e14), fun _ _ => rfl, fun e16 => h16 (lset_ne (by decide) e16), fun e17 => h17 (lset_ne (by decide) e17), fun e18 => h18 (lset_ne (by decide) e18), fun e19 => h19 (lset_ne (by decide) e19), fun e20 => h20 (lset_ne (by decide) e20), fun e21 => h21 (lset_ne (by decide) e21), fun e22 => h22 (lset_ne (by decide) e22), fun e23 => h23 (lset_ne (by decide) e23)⟩
    · have ho' : some _ = some o := ho
      cases ho'
      have d14 := hd { on := 14, ground := .data } (by simp) rfl
      have d15 := hd { on := 15, ground := .data } (by simp) rfl
      have d13 := hd { on := 13, ground := .guard } (by simp) rfl
      have hbw : Below w.heap.size w w := Below.refl _ _
      have p0 : (0 : Int) ≤ (p : Int) := by omega
      have p1 : (p : Int) < (P : Int) := by omega
      have eg := h13 d13
      subst eg
      cases rx with
      | false =>
        unfold ocAct; go_simp
        exact ⟨u6, u113, u114, u115, u116, u117, u118, u119, u120, u121, u122, u123, u124, u125, .bool false, u127, u128, undef, u130, u131, u132, u133, u134, u135, rfl, hB, fun e0 => h0 (lset_ne (by decide) e0), fun e1 => h1 (lset_ne (by decide) e1), fun e2 => h2 (lset_ne (by decide) e2), fun e3 => h3 (lset_ne (by decide) e3), fun e4 => h4 (lset_ne (by decide) e4), fun e5 => h5 (lset_ne (by decide) e5), fun e6 => h6 (lset_ne (by decide) e6), fun e7 => h7 (lset_ne (by decide) e7), fun e8 => h8 (lset_ne (by decide) e8), fun e9 => h9 (lset_ne (by decide) e9), fun e10 => h10 (lset_ne (by decide) e10), fun e11 => h11 (lset_ne (by decide) e11), fun e12 => h12 (lset_ne (by decide) e12), fun e13 => h13 (lset_ne (by decide) e13), fun e14 => h14 (lset_ne (by decide) e14), fun e15 => h15 (lset_ne (by decide) e15), fun _ e => (by cases e), fun e17 => h17 (lset_ne (by decide) e17), fun e18 => h18 (lset_ne (by decide) e18), fun e19 => h19 (lset_ne (by decide) e19), fun e20 => h20 (lset_ne (by decide) e20), fun e21 => h21 (lset_ne (by decide) e21), fun e22 => h22 (lset_ne (by decide) e22), fun e23 => h23 (lset_ne (by decide) e23)⟩
      | true =>
        have e14 := h14 d14 rfl
        subst e14
        have e15 := h15 d15 rfl
        subst e15
        unfold ocAct; go_simp
        exact ⟨u6, u113, u114, u115, u116, u117, u118, u119, u120, u121, u122, u123, u124, u125, .bool true, .slice (some ⟨yb, 0, none⟩) P cy, .int .i64 (p : Int), .pointer (some ⟨yb, p, none⟩), u130, u131, u132, u133, u134, u135, rfl, hB, fun e0 => h0 (lset_ne (by decide) e0), fun e1 => h1 (lset_ne (by decide) e1), fun e2 => h2 (lset_ne (by decide) e2), fun e3 => h3 (lset_ne (by decide) e3), fun e4 => h4 (lset_ne (by decide) e4), fun e5 => h5 (lset_ne (by decide) e5), fun e6 => h6 (lset_ne (by decide) e6), fun e7 => h7 (lset_ne (by decide) e7), fun e8 => h8 (lset_ne (by decide) e8), fun e9 => h9 (lset_ne (by decide) e9), fun e10 => h10 (lset_ne (by decide) e10), fun e11 => h11 (lset_ne (by decide) e11), fun e12 => h12 (lset_ne (by decide) e12), fun e13 => h13 (lset_ne (by decide) e13), fun e14 => h14 (lset_ne (by decide) e14), fun e15 => h15 (lset_ne (by decide) e15), fun _ _ => rfl, fun e17 => h17 (lset_ne (by decide) e17), fun e18 => h18 (lset_ne (by decide) e18), fun e19 => h19 (lset_ne (by decide) e19), fun e20 => h20 (lset_ne (by decide) e20), fun e21 => h21 (lset_ne (by decide) e21), fun e22 => h22 (lset_ne (by decide) e22), fun e23 => h23 (lset_ne (by decide) e23)⟩
    · have ho' : some _ = some o := ho
      cases ho'
      have d16 := hd { on := 16, ground := .data } (by simp) rfl
      have d13 := hd { on := 13, ground := .guard } (by simp) rfl
      have hbw : Below w.heap.size w w := Below.refl _ _
      have c0 := (hB.cell (p := ⟨yb, p, none⟩) hy).trans hcy
      have eg := h13 d13
      subst eg
      cases rx with
      | false =>
        unfold ocAct; go_simp
        exact ⟨u6, u113, u114, u115, u116, u117, u118, u119, u120, u121, u122, u123, u124, u125, .bool false, u127, u128, u129, undef, u131, u132, u133, u134, u135, rfl, hB, fun e0 => h0 (lset_ne (by decide) e0), fun e1 => h1 (lset_ne (by decide) e1), fun e2 => h2 (lset_ne (by decide) e2), fun e3 => h3 (lset_ne (by decide) e3), fun e4 => h4 (lset_ne (by decide) e4), fun e5 => h5 (lset_ne (by decide) e5), fun e6 => h6 (lset_ne (by decide) e6), fun e7 => h7 (lset_ne (by decide) e7), fun e8 => h8 (lset_ne (by decide) e8), fun e9 => h9 (lset_ne (by decide) e9), fun e10 => h10 (lset_ne (by decide) e10), fun e11 => h11 (lset_ne (by decide) e11), fun e12 => h12 (lset_ne (by decide) e12), fun e13 => h13 (lset_ne (by decide) e13), fun e14 => h14 (lset_ne (by decide) e14), fun e15 => h15 (lset_ne (by decide) e15), fun e16 => h16 (lset_ne (by decide) e16), fun _ e => (by cases e), fun e18 => h18 (lset_ne (by decide) e18), fun e19 => h19 (lset_ne (by decide) e19), fun e20 => h20 (lset_ne (by decide) e20), fun e21 => h21 (lset_ne (by decide) e21), fun e22 => h22 (lset_ne (by decide) e22), fun e23 => h23 (lset_ne (by decide) e23)⟩
      | true =>
        have e16 := h16 d16 rfl
        subst e16
        unfold ocAct; go_simp
        exact ⟨u6, u113, u114, u115, u116, u117, u118, u119, u120, u121, u122, u123, u124, u125, .bool true, u127, u128, .pointer (some ⟨yb, p, none⟩), .bool ry, u131, u132, u133, u134, u135, rfl, hB, fun e0 => h0 (lset_ne (by decide) e0), fun e1 => h1 (lset_ne (by decide) e1), fun e2 => h2 (lset_ne (by decide) e2), fun e3 => h3 (lset_ne (by decide) e3), fun e4 => h4 (lset_ne (by decide) e4), fun e5 => h5 (lset_ne (by decide) e5), fun e6 => h6 (lset_ne (by decide) e6), fun e7 => h7 (lset_ne (by decide) e7), fun e8 => h8 (lset_ne (by decide) e8), fun e9 => h9 (lset_ne (by decide) e9), fun e10 => h10 (lset_ne (by decide) e10), fun e11 => h11 (lset_ne (by decide) e11), fun e12 => h12 (lset_ne (by decide) e12), fun e13 => h13 (lset_ne (by decide) e13), fun e14 => h14 (lset_ne (by decide) e14), fun e15 => h15 (lset_ne (by decide) e15), fun e16 => h16 (lset_ne (by decide) e16), fun _ _ => rfl, fun e18 => h18 (lset_ne (by decide) e18), fun e19 => h19 (lset_ne (by decide) e19), fun e20 => h20 (lset_ne (by decide) e20), fun e21 => h21 (lset_ne (by decide) e21), fun e22 => h22 (lset_ne (by decide) e22), fun e23 => h23 (lset_ne (by decide) e23)⟩
    · have ho' : some _ = some o := ho
      cases ho'
      have d13 := hd { on := 13, ground := .data } (by simp) rfl
      have d17 := hd { on := 17, ground := .data } (by simp) rfl
      have hbw : Below w.heap.size w w := Below.refl _ _
      have eg := h13 d13
      subst eg
      cases rx with
      | false =>
        unfold ocAct; go_simp
        exact ⟨u6, u113, u114, u115, u116, u117, u118, u119, u120, u121, u122, u123, u124, u125, .bool false, u127, u128, u129, u130, .bool false, u132, u133, u134, u135, rfl, hB, fun e0 => h0 (lset_ne (by decide) e0), fun e1 => h1 (lset_ne (by decide) e1), fun e2 => h2 (lset_ne (by decide) e2), fun e3 => h3 (lset_ne (by decide) e3), fun e4 => h4 (lset_ne (by decide) e4), fun e5 => h5 (lset_ne (by decide) e5), fun e6 => h6 (lset_ne (by decide) e6), fun e7 => h7 (lset_ne (by decide) e7), fun e8 => h8 (lset_ne (by decide) e8), fun e9 => h9 (lset_ne (by decide) e9), fun e10 => h10 (lset_ne (by decide) e10), fun e11 => h11 (lset_ne (by decide) e11), fun e12 => h12 (lset_ne (by decide) e12), fun e13 => h13 (lset_ne (by decide) e13), fun e14 => h14 (lset_ne (by decide) e14), fun e15 => h15 (lset_ne (by decide) e15), fun e16 => h16 (lset_ne (by decide) e16), fun e17 => h17 (lset_ne (by decide) e17), fun _ => rfl, fun e19 => h19 (lset_ne (by decide) e19), fun e20 => h20 (lset_ne (by decide) e20), fun e21 => h21 (lset_ne (by decide) e21), fun e22 => h22 (lset_ne (by decide) e22), fun e23 => h23 (lset_ne (by decide) e23)⟩
      | true =>
        have e17 := h17 d17 rfl
        subst e17
        unfold ocAct; go_simp
        exact ⟨u6, u113, u114, u115, u116, u117, u118, u119, u120, u121, u122, u123, u124, u125, .bool true, u127, u128, u129, .bool ry, .bool ry, u132, u133, u134, u135, rfl, hB, fun e0 => h0 (lset_ne (by decide) e0), fun e1 => h1 (lset_ne (by decide) e1), fun e2 => h2 (lset_ne (by decide) e2), fun e3 => h3 (lset_ne (by decide) e3), fun e4 => h4 (lset_ne (by decide) e4), fun e5 => h5 (lset_ne (by decide) e5), fun e6 => h6 (lset_ne (by decide) e6), fun e7 => h7 (lset_ne (by decide) e7), fun e8 => h8 (lset_ne (by decide) e8), fun e9 => h9 (lset_ne (by decide) e9), fun e10 => h10 (lset_ne (by decide) e10), fun e11 => h11 (lset_ne (by decide) e11), fun e12 => h12 (lset_ne (by decide) e12), fun e13 => h13 (lset_ne (by decide) e13), fun e14 => h14 (lset_ne (by decide) e14), fun e15 => h15 (lset_ne (by decide) e15), fun e16 => h16 (lset_ne (by decide) e16), fun e17 => h17 (lset_ne (by decide) e17), fun _ => rfl, fun e19 => h19 (lset_ne (by decide) e19), fun e20 => h20 (lset_ne (by decide) e20), fun e21 => h21 (lset_ne (by decide) e21), fun e22 => h22 (lset_ne (by decide) e22), fun e23 => h23 (lset_ne (by decide) e23)⟩
    · have ho' : some _ = some o := ho
      cases ho'
      have d8 := hd { on := 8, ground := .data } (by simp) rfl
      have d18 := hd { on := 18, ground := .data } (by simp) rfl
      have hbw : Below w.heap.size w w := Below.refl _ _
      have t9 : ((np == nq) == (rx && ry)) = true := by rw [heq.out]; simp
      have e8 := h8 d8
      subst e8
      have e18 := h18 d18
      subst e18
      unfold ocAct; go_simp
      exact ⟨u6, u113, u114, u115, u116, u117, u118, u119, u120, .bool (np == nq), u122, u123, u124, u125, u126, u127, u128, u129, u130, .bool (rx && ry), .bool true, u133, u134, u135, rfl, hB, fun e0 => h0 (lset_ne (by decide) e0), fun e1 => h1 (lset_ne (by decide) e1), fun e2 => h2 (lset_ne (by decide) e2), fun e3 => h3 (lset_ne (by decide) e3), fun e4 => h4 (lset_ne (by decide) e4), fun e5 => h5 (lset_ne (by decide) e5), fun e6 => h6 (lset_ne (by decide) e6), fun e7 => h7 (lset_ne (by decide) e7), fun e8 => h8 (lset_ne (by decide) e8), fun e9 => h9 (lset_ne (by decide) e9), fun e10 => h10 (lset_ne (by decide) e10), fun e11 => h11 (lset_ne (by decide) e11), fun e12 => h12 (lset_ne (by decide) e12), fun e13 => h13 (lset_ne (by decide) e13), fun e14 => h14 (lset_ne (by decide) e14), fun e15 => h15 (lset_ne (by decide) e15), fun e16 => h16 (lset_ne (by decide) e16), fun e17 => h17 (lset_ne (by decide) e17), fun e18 => h18 (lset_ne (by decide) e18), fun _ => rfl, fun e20 => h20 (lset_ne (by decide) e20), fun e21 => h21 (lset_ne (by decide) e21), fun e22 => h22 (lset_ne (by decide) e22), fun e23 => h23 (lset_ne (by decide) e23)⟩
    · have ho' : some _ = some o := ho
      cases ho'
      have d19 := hd { on := 19, ground := .data } (by simp) rfl
      have d13 := hd { on := 13, ground := .chain } (by simp) rfl
      have hbw : Below w.heap.size w w := Below.refl _ _
      have e13 := h13 d13
      subst e13
      have e19 := h19 d19
      subst e19
      unfold ocAct; go_simp
      exact ⟨u6, u113, u114, u115, u116, u117, u118, u119, u120, u121, u122, u123, u124, u125, .bool rx, u127, u128, u129, u130, u131, .bool true, .bool true, u134, u135, rfl, hB, fun e0 => h0 (lset_ne (by decide) e0), fun e1 => h1 (lset_ne (by decide) e1), fun e2 => h2 (lset_ne (by decide) e2), fun e3 => h3 (lset_ne (by decide) e3), fun e4 => h4 (lset_ne (by decide) e4), fun e5 => h5 (lset_ne (by decide) e5), fun e6 => h6 (lset_ne (by decide) e6), fun e7 => h7 (lset_ne (by decide) e7), fun e8 => h8 (lset_ne (by decide) e8), fun e9 => h9 (lset_ne (by decide) e9), fun e10 => h10 (lset_ne (by decide) e10), fun e11 => h11 (lset_ne (by decide) e11), fun e12 => h12 (lset_ne (by decide) e12), fun e13 => h13 (lset_ne (by decide) e13), fun e14 => h14 (lset_ne (by decide) e14), fun e15 => h15 (lset_ne (by decide) e15), fun e16 => h16 (lset_ne (by decide) e16), fun e17 => h17 (lset_ne (by decide) e17), fun e18 => h18 (lset_ne (by decide) e18), fun e19 => h19 (lset_ne (by decide) e19), fun _ => rfl, fun e21 => h21 (lset_ne (by decide) e21), fun e22 => h22 (lset_ne (by decide) e22), fun e23 => h23 (lset_ne (by decide) e23)⟩
    · have ho' : some _ = some o := ho
      cases ho'
      have d20 := hd { on := 20, ground := .chain } (by simp) rfl
      have d20 := hd { on := 20, ground := .guard } (by simp) rfl
      have hbw : Below w.heap.size w w := Below.refl _ _
      have e20 := h20 d20
      subst e20
      unfold ocAct; go_simp
      refine (haw w hB).mono ?_
      rintro e w' ⟨rfl, hbw⟩
      exact ⟨u6, u113, u114, u115, u116, u117, u118, u119, u120, u121, u122, u123, u124, u125, u126, u127, u128, u129, u130, u131, u132, .bool true, .bool true, u135, rfl, Below.chain hB hbw, fun e0 => h0 (lset_ne (by decide) e0), fun e1 => h1 (lset_ne (by decide) e1), fun e2 => h2 (lset_ne (by decide) e2), fun e3 => h3 (lset_ne (by decide) e3), fun e4 => h4 (lset_ne (by decide) e4), fun e5 => h5 (lset_ne (by decide) e5), fun e6 => h6 (lset_ne (by decide) e6), fun e7 => h7 (lset_ne (by decide) e7), fun e8 => h8 (lset_ne (by decide) e8), fun e9 => h9 (lset_ne (by decide) e9), fun e10 => h10 (lset_ne (by decide) e10), fun e11 => h11 (lset_ne (by decide) e11), fun e12 => h12 (lset_ne (by decide) e12), fun e13 => h13 (lset_ne (by decide) e13), fun e14 => h14 (lset_ne (by decide) e14), fun e15 => h15 (lset_ne (by decide) e15), fun e16 => h16 (lset_ne (by decide) e16), fun e17 => h17 (lset_ne (by decide) e17), fun e18 => h18 (lset_ne (by decide) e18), fun e19 => h19 (lset_ne (by decide) e19), fun e20 => h20 (lset_ne (by decide) e20), fun _ => rfl, fun e22 => h22 (lset_ne (by decide) e22), fun e23 => h23 (lset_ne (by decide) e23)⟩
    · have ho' : some _ = some o := ho
      cases ho'
      have d20 := hd { on := 20, ground := .data } (by simp) rfl
      have d21 := hd { on := 21, ground := .data } (by simp) rfl
      have hbw : Below w.heap.size w w := Below.refl _ _
      have e20 := h20 d20
      subst e20
      have e21 := h21 d21
      subst e21
      unfold ocAct; go_simp
      exact ⟨u6, u113, u114, u115, u116, u117, u118, u119, u120, u121, u122, u123, u124, u125, u126, u127, u128, u129, u130, u131, u132, .bool true, .bool true, .bool true, rfl, hB, fun e0 => h0 (lset_ne (by decide) e0), fun e1 => h1 (lset_ne (by decide) e1), fun e2 => h2 (lset_ne (by decide) e2), fun e3 => h3 (lset_ne (by decide) e3), fun e4 => h4 (lset_ne (by decide) e4), fun e5 => h5 (lset_ne (by decide) e5), fun e6 => h6 (lset_ne (by decide) e6), fun e7 => h7 (lset_ne (by decide) e7), fun e8 => h8 (lset_ne (by decide) e8), fun e9 => h9 (lset_ne (by decide) e9), fun e10 => h10 (lset_ne (by decide) e10), fun e11 => h11 (lset_ne (by decide) e11), fun e12 => h12 (lset_ne (by decide) e12), fun e13 => h13 (lset_ne (by decide) e13), fun e14 => h14 (lset_ne (by decide) e14), fun e15 => h15 (lset_ne (by decide) e15), fun e16 => h16 (lset_ne (by decide) e16), fun e17 => h17 (lset_ne (by decide) e17), fun e18 => h18 (lset_ne (by decide) e18), fun e19 => h19 (lset_ne (by decide) e19), fun e20 => h20 (lset_ne (by decide) e20), fun e21 => h21 (lset_ne (by decide) e21), fun _ => rfl, fun e23 => h23 (lset_ne (by decide) e23)⟩
    · have ho' : some _ = some o := ho
      cases ho'
      have d22 := hd { on := 22, ground := .data } (by simp) rfl
      have d21 := hd { on := 21, ground := .chain } (by simp) rfl
      have d0 := hd { on := 0, ground := .phase } (by simp) rfl
      have d1 := hd { on := 1, ground := .phase } (by simp) rfl
      have d2 := hd { on := 2, ground := .phase } (by simp) rfl
      have d3 := hd { on := 3, ground := .phase } (by simp) rfl
      have d4 := hd { on := 4, ground := .phase } (by simp) rfl
      have d5 := hd { on := 5, ground := .phase } (by simp) rfl
      have d6 := hd { on := 6, ground := .phase } (by simp) rfl
      have d7 := hd { on := 7, ground := .phase } (by simp) rfl
      have d8 := hd { on := 8, ground := .phase } (by simp) rfl
      have d9 := hd { on := 9, ground := .phase } (by simp) rfl
      have d10 := hd { on := 10, ground := .phase } (by simp) rfl
      have d11 := hd { on := 11, ground := .phase } (by simp) rfl
      have d12 := hd { on := 12, ground := .phase } (by simp) rfl
      have d13 := hd { on := 13, ground := .phase } (by simp) rfl
      have d14 := hd { on := 14, ground := .phase } (by simp) rfl
      have d15 := hd { on := 15, ground := .phase } (by simp) rfl
      have d16 := hd { on := 16, ground := .phase } (by simp) rfl
      have d17 := hd { on := 17, ground := .phase } (by simp) rfl
      have d18 := hd { on := 18, ground := .phase } (by simp) rfl
      have d19 := hd { on := 19, ground := .phase } (by simp) rfl
      have d20 := hd { on := 20, ground := .phase } (by simp) rfl
      have d21 := hd { on := 21, ground := .phase } (by simp) rfl
      have d22 := hd { on := 22, ground := .phase } (by simp) rfl
      have hbw : Below w.heap.size w w := Below.refl _ _
      have e0 := h0 d0
      subst e0
      have e1 := h1 d1
      subst e1
      have e2 := h2 d2
      subst e2
      have e3 := h3 d3
      subst e3
      have e4 := h4 d4
      subst e4
      have e5 := h5 d5
      subst e5
      have e6 := h6 d6
      subst e6
      have e7 := h7 d7
      subst e7
      have e8 := h8 d8
      subst e8
      have e9 := h9 d9
      subst e9
      have e10 := h10 d10
      subst e10
      have e11 := h11 d11
      subst e11
      have e12 := h12 d12
      subst e12
      have e13 := h13 d13
      subst e13
      have e18 := h18 d18
      subst e18
      have e19 := h19 d19
      subst e19
      have e20 := h20 d20
      subst e20
      have e21 := h21 d21
      subst e21
      have e22 := h22 d22
      subst e22
      unfold ocAct; go_simp
      exact ⟨.bool true, .slice (some ⟨g, 0, none⟩) P cg, .int .i64 (p : Int), .pointer (some ⟨g, p, none⟩), .int .i64 np, .slice (some ⟨g, 0, none⟩) P cg, .int .i64 (q : Int), .pointer (some ⟨g, q, none⟩), .int .i64 nq, .bool (np == nq), .slice (some ⟨xb, 0, none⟩) P cx, .int .i64 (q : Int), .pointer (some ⟨xb, q, none⟩), .bool rx, .bool rx, u127, u128, u129, u130, .bool (rx && ry), .bool true, .bool true, .bool true, .bool true, rfl, hB, fun e0 => h0 (lset_ne (by decide) e0), fun e1 => h1 (lset_ne (by decide) e1), fun e2 => h2 (lset_ne (by decide) e2), fun e3 => h3 (lset_ne (by decide) e3), fun e4 => h4 (lset_ne (by decide) e4), fun e5 => h5 (lset_ne (by decide) e5), fun e6 => h6 (lset_ne (by decide) e6), fun e7 => h7 (lset_ne (by decide) e7), fun e8 => h8 (lset_ne (by decide) e8), fun e9 => h9 (lset_ne (by decide) e9), fun e10 => h10 (lset_ne (by decide) e10), fun e11 => h11 (lset_ne (by decide) e11), fun e12 => h12 (lset_ne (by decide) e12), fun e13 => h13 (lset_ne (by decide) e13), fun e14 => h14 (lset_ne (by decide) e14), fun e15 => h15 (lset_ne (by decide) e15), fun e16 => h16 (lset_ne (by decide) e16), fun e17 => h17 (lset_ne (by decide) e17), fun e18 => h18 (lset_ne (by decide) e18), fun e19 => h19 (lset_ne (by decide) e19), fun e20 => h20 (lset_ne (by decide) e20), fun e21 => h21 (lset_ne (by decide) e21), fun e22 => h22 (lset_ne (by decide) e22), fun _ => rfl⟩
  · rintro listed a w ⟨u6, u113, u114, u115, u116, u117, u118, u119, u120, u121, u122, u123, u124, u125, u126, u127, u128, u129, u130, u131, u132, u133, u134, u135, rfl, hB, h0, h1, h2, h3, h4, h5, h6, h7, h8, h9, h10, h11, h12, h13, h14, h15, h16, h17, h18, h19, h20, h21, h22, h23⟩ hall
    exact hQ _ _ _ _ _ _ _ _ _ _ _ _ _ _ _ _ _ _ _ _ _ _ _ _ w hB (h0 (hall 0 (by decide))) (h1 (hall 1 (by decide))) (h2 (hall 2 (by decide))) (h3 (hall 3 (by decide))) (h4 (hall 4 (by decide))) (h5 (hall 5 (by decide))) (h6 (hall 6 (by decide))) (h7 (hall 7 (by decide))) (h8 (hall 8 (by decide))) (h9 (hall 9 (by decide))) (h10 (hall 10 (by decide))) (h11 (hall 11 (by decide))) (h12 (hall 12 (by decide))) (h13 (hall 13 (by decide))) (h14 (hall 14 (by decide))) (h15 (hall 15 (by decide))) (h16 (hall 16 (by decide))) (h17 (hall 17 (by decide))) (h18 (hall 18 (by decide))) (h19 (hall 19 (by decide))) (h20 (hall 20 (by decide))) (h21 (hall 21 (by decide))) (h22 (hall 22 (by decide))) (h23 (hall 23 (by decide)))
end Go.Proofs.Ytjjkabgbcflipaa
