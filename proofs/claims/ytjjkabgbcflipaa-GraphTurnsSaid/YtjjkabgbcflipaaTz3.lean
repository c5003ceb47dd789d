import Derived.Test.YtjjkabgbcflipaaTz1
import Derived.Test.YtjjkabgbcflipaaTz2
set_option linter.unusedSimpArgs false
set_option linter.unusedVariables false
namespace Go.Proofs.Ytjjkabgbcflipaa
open Go Go.Proofs Go.RowKit Go.Shelf GM

attribute [local go_sem] Oper.semAt_some

/-- The closure exchanges entry and exit. -/
theorem swap_any (b x p : Nat) (w : World) (hc : w.cell? ⟨b, 1, none⟩ = some (.int .i64 (x : Int))) :
    Calls Try.prog 44 #[.int .i64 (p : Int), .pointer (some ⟨b, 0, none⟩)] w fun e w' => e = .returned (.int .i64 (swF x p : Nat)) ∧ Below w.heap.size w w' := by
  by_cases h1 : p = 0
  · have t1 : ((p : Int) == 0) = true := by rw [beq_iff_eq]; omega
    rw [show swF x p = x from if_pos h1]
    clear h1
    go_enter Try.func44, Try.ntmps44
    go_wp2
    go_ret
    exact ⟨rfl, Below.refl _ _⟩
  · have t1 : ((p : Int) == 0) = false := by rw [beq_eq_false_iff_ne]; omega
    have t0 : (p = 0) = False := by simp; exact h1
    by_cases h2 : p = x
    · have t2 : ((p : Int) == (x : Int)) = true := by rw [beq_iff_eq]; omega
      rw [show swF x p = 0 by unfold swF; rw [if_neg h1, if_pos h2]]
      clear h1 h2
      go_enter Try.func44, Try.ntmps44
      go_wp2
      go_ret
      exact ⟨rfl, Below.refl _ _⟩
    · have t2 : ((p : Int) == (x : Int)) = false := by rw [beq_eq_false_iff_ne]; omega
      have t3 : (p = x) = False := by simp; exact h2
      rw [show swF x p = p by unfold swF; rw [if_neg h1, if_neg h2]]
      clear h1 h2
      go_enter Try.func44, Try.ntmps44
      go_wp2
      go_ret
      exact ⟨rfl, Below.refl _ _⟩
/-- A graph's box that was made: its cells. -/
def C9 (B : Nat) (w : World) (u : Value) (a b : Value) : Prop := ∃ D, u = .pointer (some ⟨D, 0, none⟩) ∧ B ≤ D ∧ w.heap[D]? = some (.cells #[a, b, nilS] 24 (0, 0))
theorem C9.below {B : Nat} {w w' : World} {u a b : Value} (h : C9 B w u a b) (hb : Below w.heap.size w w') : C9 B w' u a b := by
  obtain ⟨D, e, h1, h2⟩ := h
  exact ⟨D, e, h1, (hb.block D (Array.getElem?_eq_some_iff.1 h2).1).trans h2⟩
/-- The worlds in which the steps of the region run. -/
def NwR (a b : Value) (W0 : World) (u4 : Value) (listed : Array Bool) (w : World) : Prop :=
  Below W0.heap.size W0 w ∧ ((listed.getD 6 false = false ∧ (listed.getD 5 false = true → C9 W0.heap.size w u4 (.int .i64 0) (.int .i64 0))) ∨ ((∀ j, j < 7 → listed.getD j false = true) ∧ C9 W0.heap.size w u4 a b))
theorem NwR.step {a b : Value} {W0 w : World} {u4 : Value} {listed : Array Bool} {i : Nat} (h : NwR a b W0 u4 listed w) (h5 : i ≠ 5) (h6 : i ≠ 6) : NwR a b W0 u4 (listed.setIfInBounds i true) w := by
  obtain ⟨h1, ⟨h2, h3⟩ | ⟨h2, h3⟩⟩ := h
  · exact ⟨h1, .inl ⟨by rw [getD_set_ne false h6]; exact h2, fun e => h3 (lset_ne h5 e)⟩⟩
  · exact ⟨h1, .inr ⟨fun j hj => lset_up (h2 j hj), h3⟩⟩
theorem NwR.below {a b : Value} {W0 w w' : World} {u4 : Value} {listed : Array Bool} (h : NwR a b W0 u4 listed w) (hb : Below w.heap.size w w') : NwR a b W0 u4 listed w' := by
  obtain ⟨h1, ⟨h2, h3⟩ | ⟨h2, h3⟩⟩ := h
  · exact ⟨Below.chain h1 hb, .inl ⟨h2, fun e => (h3 e).below hb⟩⟩
  · exact ⟨Below.chain h1 hb, .inr ⟨h2, h3.below hb⟩⟩
def nwAct (gb : Nat) (q0 q2 q5 q6 q7 q8 q9 q10 q11 q12 q13 q14 q15 q16 q22 q23 q24 q25 q26 q27 q28 q29 q30 q31 q32 q33 q34 q35 q36 q37 q38 q39 q40 q41 q42 q43 q44 q45 q46 q47 q48 q49 q50 q51 q52 q53 q54 q55 q56 q57 q58 q59 q60 q61 q62 q63 q64 q65 q66 q67 q68 q69 q70 q71 q72 q73 q74 q75 q76 q77 q78 q79 q80 q81 q82 q83 q84 q85 q86 q87 q88 q89 q90 q91 q92 q93 q94 q95 q96 q97 q98 q99 q100 q101 q102 q103 q104 q105 q106 q107 q108 q109 q110 q111 q112 q113 q114 q115 q116 q117 q118 q119 q120 q121 q122 q123 u4 u17 u18 u19 u20 u21 : Value) : Act :=
  { tmps := #[q0, .pointer (some ⟨gb, 0, none⟩), q2, .func (.func 44) #[] #[.pointer (some ⟨gb, 0, none⟩)], u4, q5, q6, q7, q8, q9, q10, q11, q12, q13, q14, q15, q16, u17, u18, u19, u20, u21, q22, q23, q24, q25, q26, q27, q28, q29, q30, q31, q32, q33, q34, q35, q36, q37, q38, q39, q40, q41, q42, q43, q44, q45, q46, q47, q48, q49, q50, q51, q52, q53, q54, q55, q56, q57, q58, q59, q60, q61, q62, q63, q64, q65, q66, q67, q68, q69, q70, q71, q72, q73, q74, q75, q76, q77, q78, q79, q80, q81, q82, q83, q84, q85, q86, q87, q88, q89, q90, q91, q92, q93, q94, q95, q96, q97, q98, q99, q100, q101, q102, q103, q104, q105, q106, q107, q108, q109, q110, q111, q112, q113, q114, q115, q116, q117, q118, q119, q120, q121, q122, q123], defers := [] }
def nwI (gb P x : Nat) (q0 q2 q5 q6 q7 q8 q9 q10 q11 q12 q13 q14 q15 q16 q22 q23 q24 q25 q26 q27 q28 q29 q30 q31 q32 q33 q34 q35 q36 q37 q38 q39 q40 q41 q42 q43 q44 q45 q46 q47 q48 q49 q50 q51 q52 q53 q54 q55 q56 q57 q58 q59 q60 q61 q62 q63 q64 q65 q66 q67 q68 q69 q70 q71 q72 q73 q74 q75 q76 q77 q78 q79 q80 q81 q82 q83 q84 q85 q86 q87 q88 q89 q90 q91 q92 q93 q94 q95 q96 q97 q98 q99 q100 q101 q102 q103 q104 q105 q106 q107 q108 q109 q110 q111 q112 q113 q114 q115 q116 q117 q118 q119 q120 q121 q122 q123 : Value) (W0 : World) (listed : Array Bool) (a : Act) (w : World) : Prop :=
  ∃ u4 u17 u18 u19 u20 u21, a = nwAct gb q0 q2 q5 q6 q7 q8 q9 q10 q11 q12 q13 q14 q15 q16 q22 q23 q24 q25 q26 q27 q28 q29 q30 q31 q32 q33 q34 q35 q36 q37 q38 q39 q40 q41 q42 q43 q44 q45 q46 q47 q48 q49 q50 q51 q52 q53 q54 q55 q56 q57 q58 q59 q60 q61 q62 q63 q64 q65 q66 q67 q68 q69 q70 q71 q72 q73 q74 q75 q76 q77 q78 q79 q80 q81 q82 q83 q84 q85 q86 q87 q88 q89 q90 q91 q92 q93 q94 q95 q96 q97 q98 q99 q100 q101 q102 q103 q104 q105 q106 q107 q108 q109 q110 q111 q112 q113 q114 q115 q116 q117 q118 q119 q120 q121 q122 q123 u4 u17 u18 u19 u20 u21 ∧ NwR (.int .i64 (P : Int)) (.int .i64 (x : Int)) W0 u4 listed w ∧
    (listed.getD 0 false = true → u17 = .pointer (some ⟨gb, 0, none⟩)) ∧
    (listed.getD 1 false = true → u18 = .int .i64 (P : Int)) ∧
    (listed.getD 2 false = true → u19 = .func (.func 44) #[] #[.pointer (some ⟨gb, 0, none⟩)]) ∧
    (listed.getD 3 false = true → u20 = .int .i64 (x : Int)) ∧
    (listed.getD 4 false = true → u21 = .agg #[.int .i64 (P : Int), .int .i64 (x : Int), nilS])
set_option maxRecDepth 20000 in
set_option maxHeartbeats 4000000 in
theorem nw_region (gb P x : Nat) (q0 q2 q5 q6 q7 q8 q9 q10 q11 q12 q13 q14 q15 q16 q22 q23 q24 q25 q26 q27 q28 q29 q30 q31 q32 q33 q34 q35 q36 q37 q38 q39 q40 q41 q42 q43 q44 q45 q46 q47 q48 q49 q50 q51 q52 q53 q54 q55 q56 q57 q58 q59 q60 q61 q62 q63 q64 q65 q66 q67 q68 q69 q70 q71 q72 q73 q74 q75 q76 q77 q78 q79 q80 q81 q82 q83 q84 q85 q86 q87 q88 q89 q90 q91 q92 q93 q94 q95 q96 q97 q98 q99 q100 q101 q102 q103 q104 q105 q106 q107 q108 q109 q110 q111 q112 q113 q114 q115 q116 q117 q118 q119 q120 q121 q122 q123 : Value) (W0 : World) (i4 i17 i18 i19 i20 i21 : Value) (hgb : gb < W0.heap.size) (hn : W0.cell? ⟨gb, 0, none⟩ = some (.int .i64 (P : Int))) (hs : ∀ W, Below W0.heap.size W0 W → Calls Try.prog 44 #[.int .i64 (0 : Int), .pointer (some ⟨gb, 0, none⟩)] W fun e w' => e = .returned (.int .i64 (x : Nat)) ∧ Below W.heap.size W w') {Q : Exit → Act → World → Prop}
    (hQ : ∀ u4 u17 u18 u19 u20 u21 w, (C9 W0.heap.size w u4 (.int .i64 (P : Int)) (.int .i64 (x : Int)) ∧ Below W0.heap.size W0 w) → (u17 = .pointer (some ⟨gb, 0, none⟩)) → (u18 = .int .i64 (P : Int)) → (u19 = .func (.func 44) #[] #[.pointer (some ⟨gb, 0, none⟩)]) → (u20 = .int .i64 (x : Int)) → (u21 = .agg #[.int .i64 (P : Int), .int .i64 (x : Int), nilS]) → Q .normal (nwAct gb q0 q2 q5 q6 q7 q8 q9 q10 q11 q12 q13 q14 q15 q16 q22 q23 q24 q25 q26 q27 q28 q29 q30 q31 q32 q33 q34 q35 q36 q37 q38 q39 q40 q41 q42 q43 q44 q45 q46 q47 q48 q49 q50 q51 q52 q53 q54 q55 q56 q57 q58 q59 q60 q61 q62 q63 q64 q65 q66 q67 q68 q69 q70 q71 q72 q73 q74 q75 q76 q77 q78 q79 q80 q81 q82 q83 q84 q85 q86 q87 q88 q89 q90 q91 q92 q93 q94 q95 q96 q97 q98 q99 q100 q101 q102 q103 q104 q105 q106 q107 q108 q109 q110 q111 q112 q113 q114 q115 q116 q117 q118 q119 q120 q121 q122 q123 u4 u17 u18 u19 u20 u21) w) :
    (Code.region 4 #[{ dst := some 17, op := Op.fieldAddr 24 (Operand.tmp 1) 0, type := 0, pos := "law.go:254", after := #[], guard := none }, { dst := some 18, op := Op.load 3 (Operand.tmp 17), type := 3, pos := "law.go:254", after := #[{ on := 0, ground := Ground.data }], guard := none }, { dst := some 19, op := Op.move (Operand.tmp 3), type := 84, pos := "law.go:254", after := #[], guard := none }, { dst := some 20, op := Op.call { callee := Callee.value (Operand.tmp 19), args := #[Operand.const (Value.int IntKind.i64 0)], argTypes := #[3] }, type := 3, pos := "law.go:254", after := #[{ on := 2, ground := Ground.data }], guard := none }, { dst := some 21, op := Op.build 24 #[(0, Operand.tmp 18), (1, Operand.tmp 20)], type := 24, pos := "law.go:254", after := #[{ on := 1, ground := Ground.data }, { on := 3, ground := Ground.data }], guard := none }, { dst := some 4, op := Op.alloc 24, type := 0, pos := "law.go:254", after := #[], guard := none }, { dst := none, op := Op.store 24 (Operand.tmp 4) (Operand.tmp 21), type := 0, pos := "law.go:254", after := #[{ on := 5, ground := Ground.data }, { on := 4, ground := Ground.data }, { on := 3, ground := Ground.chain }, { on := 0, ground := Ground.phase }, { on := 1, ground := Ground.phase }, { on := 2, ground := Ground.phase }, { on := 3, ground := Ground.phase }, { on := 4, ground := Ground.phase }, { on := 5, ground := Ground.phase }], guard := none }] true).wp Try.prog Q (nwAct gb q0 q2 q5 q6 q7 q8 q9 q10 q11 q12 q13 q14 q15 q16 q22 q23 q24 q25 q26 q27 q28 q29 q30 q31 q32 q33 q34 q35 q36 q37 q38 q39 q40 q41 q42 q43 q44 q45 q46 q47 q48 q49 q50 q51 q52 q53 q54 q55 q56 q57 q58 q59 q60 q61 q62 q63 q64 q65 q66 q67 q68 q69 q70 q71 q72 q73 q74 q75 q76 q77 q78 q79 q80 q81 q82 q83 q84 q85 q86 q87 q88 q89 q90 q91 q92 q93 q94 q95 q96 q97 q98 q99 q100 q101 q102 q103 q104 q105 q106 q107 q108 q109 q110 q111 q112 q113 q114 q115 q116 q117 q118 q119 q120 q121 q122 q123 (i4) (i17) (i18) (i19) (i20) (i21)) W0 := by
  refine wp_region_inv (by kernel_rfl) (by kernel_rfl) (nwI gb P x q0 q2 q5 q6 q7 q8 q9 q10 q11 q12 q13 q14 q15 q16 q22 q23 q24 q25 q26 q27 q28 q29 q30 q31 q32 q33 q34 q35 q36 q37 q38 q39 q40 q41 q42 q43 q44 q45 q46 q47 q48 q49 q50 q51 q52 q53 q54 q55 q56 q57 q58 q59 q60 q61 q62 q63 q64 q65 q66 q67 q68 q69 q70 q71 q72 q73 q74 q75 q76 q77 q78 q79 q80 q81 q82 q83 q84 q85 q86 q87 q88 q89 q90 q91 q92 q93 q94 q95 q96 q97 q98 q99 q100 q101 q102 q103 q104 q105 q106 q107 q108 q109 q110 q111 q112 q113 q114 q115 q116 q117 q118 q119 q120 q121 q122 q123 W0) ?_ ?_ ?_
  · refine ⟨_, _, _, _, _, _, rfl, ⟨(Below.refl _ _).drew, .inl ⟨rfl, fun e => by simp at e⟩⟩, ?_, ?_, ?_, ?_, ?_⟩ <;> (intro e; simp at e)
  · intro listed a w i o hI hs9 ho hl hd
    have hi9 : i < 7 := (Array.getElem?_eq_some_iff.1 ho).1
    obtain ⟨u4, u17, u18, u19, u20, u21, rfl, hB, h0, h1, h2, h3, h4⟩ := hI
    rcases (show i = 0 ∨ i = 1 ∨ i = 2 ∨ i = 3 ∨ i = 4 ∨ i = 5 ∨ i = 6 by omega) with rfl | rfl | rfl | rfl | rfl | rfl | rfl
    · have ho' : some _ = some o := ho
      cases ho'
      have hB2 := hB.step (i := 0) (by decide) (by decide)
      unfold nwAct; go_simp
      exact ⟨u4, .pointer (some ⟨gb, 0, none⟩), u18, u19, u20, u21, rfl, hB2, fun _ => rfl, fun e1 => h1 (lset_ne (by decide) e1), fun e2 => h2 (lset_ne (by decide) e2), fun e3 => h3 (lset_ne (by decide) e3), fun e4 => h4 (lset_ne (by decide) e4)⟩
    · have ho' : some _ = some o := ho
      cases ho'
      have d0 := hd { on := 0, ground := .data } (by simp) rfl
      have c0 := (hB.1.cell (p := ⟨gb, 0, none⟩) hgb).trans hn
      have e0 := h0 d0
      subst e0
      have hB2 := hB.step (i := 1) (by decide) (by decide)
      unfold nwAct; go_simp
      exact ⟨u4, .pointer (some ⟨gb, 0, none⟩), .int .i64 (P : Int), u19, u20, u21, rfl, hB2, fun e0 => h0 (lset_ne (by decide) e0), fun _ => rfl, fun e2 => h2 (lset_ne (by decide) e2), fun e3 => h3 (lset_ne (by decide) e3), fun e4 => h4 (lset_ne (by decide) e4)⟩
    · have ho' : some _ = some o := ho
      cases ho'
      have hB2 := hB.step (i := 2) (by decide) (by decide)
      unfold nwAct; go_simp
      exact ⟨u4, u17, u18, .func (.func 44) #[] #[.pointer (some ⟨gb, 0, none⟩)], u20, u21, rfl, hB2, fun e0 => h0 (lset_ne (by decide) e0), fun e1 => h1 (lset_ne (by decide) e1), fun _ => rfl, fun e3 => h3 (lset_ne (by decide) e3), fun e4 => h4 (lset_ne (by decide) e4)⟩
    · have ho' : some _ = some o := ho
      cases ho'
      have d2 := hd { on := 2, ground := .data } (by simp) rfl
      have e2 := h2 d2
      subst e2
      unfold nwAct; go_simp
      refine (hs w hB.1).mono ?_
      rintro e w' ⟨rfl, hbw⟩
      have hB2 := (hB.below hbw).step (i := 3) (by decide) (by decide)
      exact ⟨u4, u17, u18, .func (.func 44) #[] #[.pointer (some ⟨gb, 0, none⟩)], .int .i64 (x : Int), u21, rfl, hB2, fun e0 => h0 (lset_ne (by decide) e0), fun e1 => h1 (lset_ne (by decide) e1), fun e2 => h2 (lset_ne (by decide) e2), fun _ => rfl, fun e4 => h4 (lset_ne (by decide) e4)⟩
    · have ho' : some _ = some o := ho
      cases ho'
      have d1 := hd { on := 1, ground := .data } (by simp) rfl
      have d3 := hd { on := 3, ground := .data } (by simp) rfl
      have e1 := h1 d1
      subst e1
      have e3 := h3 d3
      subst e3
      have hB2 := hB.step (i := 4) (by decide) (by decide)
      unfold nwAct; go_simp
      exact ⟨u4, u17, .int .i64 (P : Int), u19, .int .i64 (x : Int), .agg #[.int .i64 (P : Int), .int .i64 (x : Int), nilS], rfl, hB2, fun e0 => h0 (lset_ne (by decide) e0), fun e1 => h1 (lset_ne (by decide) e1), fun e2 => h2 (lset_ne (by decide) e2), fun e3 => h3 (lset_ne (by decide) e3), fun _ => rfl⟩
    · have ho' : some _ = some o := ho
      cases ho'
      obtain ⟨b1, ⟨b2, b3⟩ | ⟨b2, b3⟩⟩ := hB
      rotate_left
      · exact (no_both hl (b2 5 (by decide))).elim
      have hB2 : NwR (.int .i64 (P : Int)) (.int .i64 (x : Int)) W0 (.pointer (some ⟨w.heap.size, 0, none⟩)) (listed.setIfInBounds 5 true) (w.alloc (Obj.cells #[.int .i64 0, .int .i64 0, nilS] 24)) := ⟨b1.alloc b1.size _, .inl ⟨by rw [getD_set_ne false (by decide)]; exact b2, fun _ => ⟨w.heap.size, rfl, b1.size, heap_alloc_last _ _⟩⟩⟩
      unfold nwAct; go_simp
      exact ⟨.pointer (some ⟨w.heap.size, 0, none⟩), u17, u18, u19, u20, u21, rfl, hB2, fun e0 => h0 (lset_ne (by decide) e0), fun e1 => h1 (lset_ne (by decide) e1), fun e2 => h2 (lset_ne (by decide) e2), fun e3 => h3 (lset_ne (by decide) e3), fun e4 => h4 (lset_ne (by decide) e4)⟩
    · have ho' : some _ = some o := ho
      cases ho'
      have d5 := hd { on := 5, ground := .data } (by simp) rfl
      have d4 := hd { on := 4, ground := .data } (by simp) rfl
      have d3 := hd { on := 3, ground := .chain } (by simp) rfl
      have d0 := hd { on := 0, ground := .phase } (by simp) rfl
      have d1 := hd { on := 1, ground := .phase } (by simp) rfl
      have d2 := hd { on := 2, ground := .phase } (by simp) rfl
      have d3 := hd { on := 3, ground := .phase } (by simp) rfl
      have d4 := hd { on := 4, ground := .phase } (by simp) rfl
      have d5 := hd { on := 5, ground := .phase } (by simp) rfl
      obtain ⟨b1, ⟨b2, b3⟩ | ⟨b2, b3⟩⟩ := hB
      rotate_left
      · exact (no_both hl (b2 6 (by decide))).elim
      obtain ⟨D, hu, hD1, hD2⟩ := b3 d5
      subst hu
      have e0 := h0 d0
      subst e0
      have e1 := h1 d1
      subst e1
      have e2 := h2 d2
      subst e2
      have e3 := h3 d3
      subst e3
      have e4 := h4 d4
      subst e4
      have c0 : w.cell? ⟨D, 0, none⟩ = some (.int .i64 0) := by rw [cell_of_row _ _ 0 _ _ (0, 0) hD2]; rfl
      have c1 : w.cell? ⟨D, 1, none⟩ = some (.int .i64 0) := by rw [cell_of_row _ _ 1 _ _ (0, 0) hD2]; rfl
      have c2 : w.cell? ⟨D, 2, none⟩ = some nilS := by rw [cell_of_row _ _ 2 _ _ (0, 0) hD2]; rfl
      have f0 : w.frozen? ⟨D, 0, none⟩ = false := frozen_of_row _ _ 0 _ _ hD2
      have f1 : w.frozen? ⟨D, 1, none⟩ = false := frozen_of_row _ _ 1 _ _ hD2
      have f2 : w.frozen? ⟨D, 2, none⟩ = false := frozen_of_row _ _ 2 _ _ hD2
      have hb2 : But (fun k => k = D) w (((w.setCell ⟨D, 0, none⟩ (.int .i64 (P : Int))).setCell ⟨D, 1, none⟩ (.int .i64 (x : Int))).setCell ⟨D, 2, none⟩ nilS) := (((But.refl (fun k => k = D) w).set ⟨D, 0, none⟩ (.int .i64 (P : Int)) (fun _ => rfl)).set ⟨D, 1, none⟩ (.int .i64 (x : Int)) (fun _ => rfl)).set ⟨D, 2, none⟩ nilS (fun _ => rfl)
      have D3 : (((w.setCell ⟨D, 0, none⟩ (.int .i64 (P : Int))).setCell ⟨D, 1, none⟩ (.int .i64 (x : Int))).setCell ⟨D, 2, none⟩ nilS).heap[D]? = some (.cells #[.int .i64 (P : Int), .int .i64 (x : Int), nilS] 24 (0, 0)) := heap_setCell_same _ D 2 _ _ _ (heap_setCell_same _ D 1 _ _ _ (heap_setCell_same w D 0 _ _ _ hD2))
      have B3 : Below W0.heap.size W0 (((w.setCell ⟨D, 0, none⟩ (.int .i64 (P : Int))).setCell ⟨D, 1, none⟩ (.int .i64 (x : Int))).setCell ⟨D, 2, none⟩ nilS) := b1.trans ⟨hb2.os, hb2.tape, hb2.output, hb2.size, fun k hk => hb2.block k (by have := b1.size; omega) (by omega)⟩
      have hB2 : NwR (.int .i64 (P : Int)) (.int .i64 (x : Int)) W0 (.pointer (some ⟨D, 0, none⟩)) (listed.setIfInBounds 6 true) (((w.setCell ⟨D, 0, none⟩ (.int .i64 (P : Int))).setCell ⟨D, 1, none⟩ (.int .i64 (x : Int))).setCell ⟨D, 2, none⟩ nilS) := ⟨B3, .inr ⟨fun j hj => (by rcases (show j = 0 ∨ j = 1 ∨ j = 2 ∨ j = 3 ∨ j = 4 ∨ j = 5 ∨ j = 6 by omega) with rfl | rfl | rfl | rfl | rfl | rfl | rfl <;> first | exact lset_eq hs9 (by decide) | exact lset_up (by assumption)), ⟨D, rfl, hD1, D3⟩⟩⟩
      unfold nwAct; go_simp
      exact ⟨.pointer (some ⟨D, 0, none⟩), .pointer (some ⟨gb, 0, none⟩), .int .i64 (P : Int), .func (.func 44) #[] #[.pointer (some ⟨gb, 0, none⟩)], .int .i64 (x : Int), .agg #[.int .i64 (P : Int), .int .i64 (x : Int), nilS], rfl, hB2, fun e0 => h0 (lset_ne (by decide) e0), fun e1 => h1 (lset_ne (by decide) e1), fun e2 => h2 (lset_ne (by decide) e2), fun e3 => h3 (lset_ne (by decide) e3), fun e4 => h4 (lset_ne (by decide) e4)⟩
  · rintro listed a w ⟨u4, u17, u18, u19, u20, u21, rfl, hB, h0, h1, h2, h3, h4⟩ hall
    exact hQ _ _ _ _ _ _ w ⟨(hB.2.elim (fun h => absurd h.1 (by rw [hall 6 (by decide)]; decide)) (fun h => h.2)), hB.1⟩ (h0 (hall 0 (by decide))) (h1 (hall 1 (by decide))) (h2 (hall 2 (by decide))) (h3 (hall 3 (by decide))) (h4 (hall 4 (by decide)))
end Go.Proofs.Ytjjkabgbcflipaa
