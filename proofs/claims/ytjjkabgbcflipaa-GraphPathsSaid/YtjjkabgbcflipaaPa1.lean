import Derived.Test.YtjjkabgbcflipaaCu27
import Derived.Test.YtjjkabgbcflipaaCu5
import Derived.Test.YtjjkabgbcflipaaCu10
set_option linter.unusedSimpArgs false
set_option linter.unusedVariables false
namespace Go.Proofs.Ytjjkabgbcflipaa
open Go Go.Proofs Go.RowKit GM

def paAct (tb tc P at_ y : Nat) (q0 q1 q2 q3 q4 q6 q7 q8 q9 q10 q11 q13 q16 q17 q18 q19 q20 q21 q22 q23 q24 q25 q26 q27 q28 q29 q30 q31 q32 q33 q34 q35 q36 q37 q38 q39 q40 q41 q42 q43 q44 q45 q46 q47 q48 q49 q50 q51 q52 q53 q54 q55 q56 q57 q58 q59 q60 q61 q62 q63 q64 q65 q66 q67 q68 q69 q70 q71 q72 q73 q74 q75 q76 q77 q78 q79 q80 q81 q82 q83 q98 q99 q100 q101 q102 q103 q104 q105 q106 q107 q108 q109 q110 q111 q112 q113 q114 q115 q116 q117 q118 q119 q120 q121 q122 q123 q124 q125 q126 q127 q128 q129 q130 q131 q132 q133 q134 q135 q136 q137 q138 q139 q140 q141 q142 q143 q144 q145 q146 q147 q148 q149 q150 q151 q152 q153 q154 q155 q156 q157 u15 u84 u85 u86 u87 u88 u89 u90 u91 u92 u93 u94 u95 u96 u97 : Value) : Act :=
  { tmps := #[q0, q1, q2, q3, q4, .slice (some ⟨tb, 0, none⟩) P tc, q6, q7, q8, q9, q10, q11, .int .i64 (at_ : Int), q13, .int .u8 (y : Int), u15, q16, q17, q18, q19, q20, q21, q22, q23, q24, q25, q26, q27, q28, q29, q30, q31, q32, q33, q34, q35, q36, q37, q38, q39, q40, q41, q42, q43, q44, q45, q46, q47, q48, q49, q50, q51, q52, q53, q54, q55, q56, q57, q58, q59, q60, q61, q62, q63, q64, q65, q66, q67, q68, q69, q70, q71, q72, q73, q74, q75, q76, q77, q78, q79, q80, q81, q82, q83, u84, u85, u86, u87, u88, u89, u90, u91, u92, u93, u94, u95, u96, u97, q98, q99, q100, q101, q102, q103, q104, q105, q106, q107, q108, q109, q110, q111, q112, q113, q114, q115, q116, q117, q118, q119, q120, q121, q122, q123, q124, q125, q126, q127, q128, q129, q130, q131, q132, q133, q134, q135, q136, q137, q138, q139, q140, q141, q142, q143, q144, q145, q146, q147, q148, q149, q150, q151, q152, q153, q154, q155, q156, q157], defers := [] }
def paI (tb tc P at_ rb ro m rc y j k : Nat) (q0 q1 q2 q3 q4 q6 q7 q8 q9 q10 q11 q13 q16 q17 q18 q19 q20 q21 q22 q23 q24 q25 q26 q27 q28 q29 q30 q31 q32 q33 q34 q35 q36 q37 q38 q39 q40 q41 q42 q43 q44 q45 q46 q47 q48 q49 q50 q51 q52 q53 q54 q55 q56 q57 q58 q59 q60 q61 q62 q63 q64 q65 q66 q67 q68 q69 q70 q71 q72 q73 q74 q75 q76 q77 q78 q79 q80 q81 q82 q83 q98 q99 q100 q101 q102 q103 q104 q105 q106 q107 q108 q109 q110 q111 q112 q113 q114 q115 q116 q117 q118 q119 q120 q121 q122 q123 q124 q125 q126 q127 q128 q129 q130 q131 q132 q133 q134 q135 q136 q137 q138 q139 q140 q141 q142 q143 q144 q145 q146 q147 q148 q149 q150 q151 q152 q153 q154 q155 q156 q157 : Value) (W0 : World) (listed : Array Bool) (a : Act) (w : World) : Prop :=
  ∃ u15 u84 u85 u86 u87 u88 u89 u90 u91 u92 u93 u94 u95 u96 u97, a = paAct tb tc P at_ y q0 q1 q2 q3 q4 q6 q7 q8 q9 q10 q11 q13 q16 q17 q18 q19 q20 q21 q22 q23 q24 q25 q26 q27 q28 q29 q30 q31 q32 q33 q34 q35 q36 q37 q38 q39 q40 q41 q42 q43 q44 q45 q46 q47 q48 q49 q50 q51 q52 q53 q54 q55 q56 q57 q58 q59 q60 q61 q62 q63 q64 q65 q66 q67 q68 q69 q70 q71 q72 q73 q74 q75 q76 q77 q78 q79 q80 q81 q82 q83 q98 q99 q100 q101 q102 q103 q104 q105 q106 q107 q108 q109 q110 q111 q112 q113 q114 q115 q116 q117 q118 q119 q120 q121 q122 q123 q124 q125 q126 q127 q128 q129 q130 q131 q132 q133 q134 q135 q136 q137 q138 q139 q140 q141 q142 q143 q144 q145 q146 q147 q148 q149 q150 q151 q152 q153 q154 q155 q156 q157 u15 u84 u85 u86 u87 u88 u89 u90 u91 u92 u93 u94 u95 u96 u97 ∧ Below W0.heap.size W0 w ∧
    (listed.getD 0 false = true → u84 = .slice (some ⟨tb, 0, none⟩) P tc) ∧
    (listed.getD 1 false = true → u85 = .int .i64 (at_ : Int)) ∧
    (listed.getD 2 false = true → u86 = .pointer (some ⟨tb, at_, none⟩)) ∧
    (listed.getD 3 false = true → u87 = .slice (some ⟨rb, ro, none⟩) m rc) ∧
    (listed.getD 4 false = true → u88 = .int .u8 (y : Int)) ∧
    (listed.getD 5 false = true → u89 = .int .i64 (y : Int)) ∧
    (listed.getD 6 false = true → u90 = .slice (some ⟨tb, 0, none⟩) P tc) ∧
    (listed.getD 7 false = true → u91 = .int .i64 (at_ : Int)) ∧
    (listed.getD 8 false = true → u92 = .pointer (some ⟨tb, at_, none⟩)) ∧
    (listed.getD 9 false = true → u93 = .slice (some ⟨rb, ro, none⟩) m rc) ∧
    (listed.getD 10 false = true → u94 = .int .i64 (m : Int)) ∧
    (listed.getD 11 false = true → u95 = .int .i64 (j : Int)) ∧
    (listed.getD 12 false = true → u96 = .pointer (some ⟨rb, ro + j, none⟩)) ∧
    (listed.getD 13 false = true → u97 = .int .i64 (k : Int)) ∧
    (listed.getD 14 false = true → u15 = .int .i64 (k : Int))
set_option maxRecDepth 20000 in
set_option maxHeartbeats 4000000 in
theorem pa_region (tb tc P at_ rb ro m rc y j k : Nat) (q0 q1 q2 q3 q4 q6 q7 q8 q9 q10 q11 q13 q16 q17 q18 q19 q20 q21 q22 q23 q24 q25 q26 q27 q28 q29 q30 q31 q32 q33 q34 q35 q36 q37 q38 q39 q40 q41 q42 q43 q44 q45 q46 q47 q48 q49 q50 q51 q52 q53 q54 q55 q56 q57 q58 q59 q60 q61 q62 q63 q64 q65 q66 q67 q68 q69 q70 q71 q72 q73 q74 q75 q76 q77 q78 q79 q80 q81 q82 q83 q98 q99 q100 q101 q102 q103 q104 q105 q106 q107 q108 q109 q110 q111 q112 q113 q114 q115 q116 q117 q118 q119 q120 q121 q122 q123 q124 q125 q126 q127 q128 q129 q130 q131 q132 q133 q134 q135 q136 q137 q138 q139 q140 q141 q142 q143 q144 q145 q146 q147 q148 q149 q150 q151 q152 q153 q154 q155 q156 q157 : Value) (W0 : World) (i15 i84 i85 i86 i87 i88 i89 i90 i91 i92 i93 i94 i95 i96 i97 : Value) (hat : at_ < P) (hP : P ≤ 1000) (hy : y < 256) (hm0 : 0 < m) (hm : m ≤ 2000) (hj : Hid (j = y % m)) (hj2 : j < m) (htb : tb < W0.heap.size) (hrb : rb < W0.heap.size) (ht : W0.cell? ⟨tb, at_, none⟩ = some (.slice (some ⟨rb, ro, none⟩) m rc)) (hk : W0.cell? ⟨rb, ro + j, none⟩ = some (.int .i64 (k : Int))) {Q : Exit → Act → World → Prop}
    (hQ : ∀ u15 u84 u85 u86 u87 u88 u89 u90 u91 u92 u93 u94 u95 u96 u97 w, Below W0.heap.size W0 w → (u84 = .slice (some ⟨tb, 0, none⟩) P tc) → (u85 = .int .i64 (at_ : Int)) → (u86 = .pointer (some ⟨tb, at_, none⟩)) → (u87 = .slice (some ⟨rb, ro, none⟩) m rc) → (u88 = .int .u8 (y : Int)) → (u89 = .int .i64 (y : Int)) → (u90 = .slice (some ⟨tb, 0, none⟩) P tc) → (u91 = .int .i64 (at_ : Int)) → (u92 = .pointer (some ⟨tb, at_, none⟩)) → (u93 = .slice (some ⟨rb, ro, none⟩) m rc) → (u94 = .int .i64 (m : Int)) → (u95 = .int .i64 (j : Int)) → (u96 = .pointer (some ⟨rb, ro + j, none⟩)) → (u97 = .int .i64 (k : Int)) → (u15 = .int .i64 (k : Int)) → Q .normal (paAct tb tc P at_ y q0 q1 q2 q3 q4 q6 q7 q8 q9 q10 q11 q13 q16 q17 q18 q19 q20 q21 q22 q23 q24 q25 q26 q27 q28 q29 q30 q31 q32 q33 q34 q35 q36 q37 q38 q39 q40 q41 q42 q43 q44 q45 q46 q47 q48 q49 q50 q51 q52 q53 q54 q55 q56 q57 q58 q59 q60 q61 q62 q63 q64 q65 q66 q67 q68 q69 q70 q71 q72 q73 q74 q75 q76 q77 q78 q79 q80 q81 q82 q83 q98 q99 q100 q101 q102 q103 q104 q105 q106 q107 q108 q109 q110 q111 q112 q113 q114 q115 q116 q117 q118 q119 q120 q121 q122 q123 q124 q125 q126 q127 q128 q129 q130 q131 q132 q133 q134 q135 q136 q137 q138 q139 q140 q141 q142 q143 q144 q145 q146 q147 q148 q149 q150 q151 q152 q153 q154 q155 q156 q157 u15 u84 u85 u86 u87 u88 u89 u90 u91 u92 u93 u94 u95 u96 u97) w) :
    (Code.region 14 #[{ dst := some 84, op := Op.move (Operand.tmp 5), type := 27, pos := "law.go:157", after := #[], guard := none }, { dst := some 85, op := Op.move (Operand.tmp 12), type := 3, pos := "law.go:157", after := #[], guard := none }, { dst := some 86, op := Op.indexAddr 27 (Operand.tmp 84) (Operand.tmp 85), type := 0, pos := "law.go:157", after := #[{ on := 0, ground := Ground.data }, { on := 1, ground := Ground.data }], guard := none }, { dst := some 87, op := Op.load 51 (Operand.tmp 86), type := 51, pos := "law.go:157", after := #[{ on := 2, ground := Ground.data }], guard := none }, { dst := some 88, op := Op.move (Operand.tmp 14), type := 5, pos := "law.go:157", after := #[], guard := none }, { dst := some 89, op := Op.convert 5 3 (Operand.tmp 88), type := 3, pos := "law.go:157", after := #[{ on := 4, ground := Ground.data }], guard := none }, { dst := some 90, op := Op.move (Operand.tmp 5), type := 27, pos := "law.go:157", after := #[], guard := none }, { dst := some 91, op := Op.move (Operand.tmp 12), type := 3, pos := "law.go:157", after := #[], guard := none }, { dst := some 92, op := Op.indexAddr 27 (Operand.tmp 90) (Operand.tmp 91), type := 0, pos := "law.go:157", after := #[{ on := 6, ground := Ground.data }, { on := 7, ground := Ground.data }], guard := none }, { dst := some 93, op := Op.load 51 (Operand.tmp 92), type := 51, pos := "law.go:157", after := #[{ on := 8, ground := Ground.data }], guard := none }, { dst := some 94, op := Op.call { callee := Callee.builtin Builtin.len, args := #[Operand.tmp 93], argTypes := #[51] }, type := 3, pos := "law.go:157", after := #[{ on := 9, ground := Ground.data }], guard := none }, { dst := some 95, op := Op.binOp BinOp.rem 3 (Operand.tmp 89) (Operand.tmp 94) 3, type := 3, pos := "law.go:157", after := #[{ on := 5, ground := Ground.data }, { on := 10, ground := Ground.data }], guard := none }, { dst := some 96, op := Op.indexAddr 51 (Operand.tmp 87) (Operand.tmp 95), type := 0, pos := "law.go:157", after := #[{ on := 3, ground := Ground.data }, { on := 11, ground := Ground.data }], guard := none }, { dst := some 97, op := Op.load 3 (Operand.tmp 96), type := 3, pos := "law.go:157", after := #[{ on := 12, ground := Ground.data }], guard := none }, { dst := some 15, op := Op.assign (Operand.tmp 97), type := 3, pos := "law.go:157", after := #[{ on := 13, ground := Ground.data }, { on := 0, ground := Ground.phase }, { on := 1, ground := Ground.phase }, { on := 2, ground := Ground.phase }, { on := 3, ground := Ground.phase }, { on := 4, ground := Ground.phase }, { on := 5, ground := Ground.phase }, { on := 6, ground := Ground.phase }, { on := 7, ground := Ground.phase }, { on := 8, ground := Ground.phase }, { on := 9, ground := Ground.phase }, { on := 10, ground := Ground.phase }, { on := 11, ground := Ground.phase }, { on := 12, ground := Ground.phase }, { on := 13, ground := Ground.phase }], guard := none }] true).wp Try.prog Q (paAct tb tc P at_ y q0 q1 q2 q3 q4 q6 q7 q8 q9 q10 q11 q13 q16 q17 q18 q19 q20 q21 q22 q23 q24 q25 q26 q27 q28 q29 q30 q31 q32 q33 q34 q35 q36 q37 q38 q39 q40 q41 q42 q43 q44 q45 q46 q47 q48 q49 q50 q51 q52 q53 q54 q55 q56 q57 q58 q59 q60 q61 q62 q63 q64 q65 q66 q67 q68 q69 q70 q71 q72 q73 q74 q75 q76 q77 q78 q79 q80 q81 q82 q83 q98 q99 q100 q101 q102 q103 q104 q105 q106 q107 q108 q109 q110 q111 q112 q113 q114 q115 q116 q117 q118 q119 q120 q121 q122 q123 q124 q125 q126 q127 q128 q129 q130 q131 q132 q133 q134 q135 q136 q137 q138 q139 q140 q141 q142 q143 q144 q145 q146 q147 q148 q149 q150 q151 q152 q153 q154 q155 q156 q157 (i15) (i84) (i85) (i86) (i87) (i88) (i89) (i90) (i91) (i92) (i93) (i94) (i95) (i96) (i97)) W0 := by
  refine wp_region_inv (by kernel_rfl) (by kernel_rfl) (paI tb tc P at_ rb ro m rc y j k q0 q1 q2 q3 q4 q6 q7 q8 q9 q10 q11 q13 q16 q17 q18 q19 q20 q21 q22 q23 q24 q25 q26 q27 q28 q29 q30 q31 q32 q33 q34 q35 q36 q37 q38 q39 q40 q41 q42 q43 q44 q45 q46 q47 q48 q49 q50 q51 q52 q53 q54 q55 q56 q57 q58 q59 q60 q61 q62 q63 q64 q65 q66 q67 q68 q69 q70 q71 q72 q73 q74 q75 q76 q77 q78 q79 q80 q81 q82 q83 q98 q99 q100 q101 q102 q103 q104 q105 q106 q107 q108 q109 q110 q111 q112 q113 q114 q115 q116 q117 q118 q119 q120 q121 q122 q123 q124 q125 q126 q127 q128 q129 q130 q131 q132 q133 q134 q135 q136 q137 q138 q139 q140 q141 q142 q143 q144 q145 q146 q147 q148 q149 q150 q151 q152 q153 q154 q155 q156 q157 W0) ?_ ?_ ?_
  · refine ⟨_, _, _, _, _, _, _, _, _, _, _, _, _, _, _, rfl, (Below.refl _ _).drew, ?_, ?_, ?_, ?_, ?_, ?_, ?_, ?_, ?_, ?_, ?_, ?_, ?_, ?_, ?_⟩ <;> (intro e; simp at e)
  · intro listed a w i o hI hs ho hl hd
    have hi9 : i < 15 := (Array.getElem?_eq_some_iff.1 ho).1
    obtain ⟨u15, u84, u85, u86, u87, u88, u89, u90, u91, u92, u93, u94, u95, u96, u97, rfl, hB, h0, h1, h2, h3, h4, h5, h6, h7, h8, h9, h10, h11, h12, h13, h14⟩ := hI
    have hlB := hB.size
    rcases (show i = 0 ∨ i = 1 ∨ i = 2 ∨ i = 3 ∨ i = 4 ∨ i = 5 ∨ i = 6 ∨ i = 7 ∨ i = 8 ∨ i = 9 ∨ i = 10 ∨ i = 11 ∨ i = 12 ∨ i = 13 ∨ i = 14 by omega) with rfl | rfl | rfl | rfl | rfl | rfl | rfl | rfl | rfl | rfl | rfl | rfl | rfl | rfl | rfl
    · have ho' : some _ = some o := ho
      cases ho'
      have hbw : Below w.heap.size w w := Below.refl _ _
      unfold paAct; go_simp
      exact ⟨u15, .slice (some ⟨tb, 0, none⟩) P tc, u85, u86, u87, u88, u89, u90, u91, u92, u93, u94, u95, u96, u97, rfl, hB, fun _ => rfl, fun e1 => h1 (lset_ne (by decide) e1), fun e2 => h2 (lset_ne (by decide) e2), fun e3 => h3 (lset_ne (by decide) e3), fun e4 => h4 (lset_ne (by decide) e4), fun e5 => h5 (lset_ne (by decide) e5), fun e6 => h6 (lset_ne (by decide) e6), fun e7 => h7 (lset_ne (by decide) e7), fun e8 => h8 (lset_ne (by decide) e8), fun e9 => h9 (lset_ne (by decide) e9), fun e10 => h10 (lset_ne (by decide) e10), fun e11 => h11 (lset_ne (by decide) e11), fun e12 => h12 (lset_ne (by decide) e12), fun e13 => h13 (lset_ne (by decide) e13), fun e14 => h14 (lset_ne (by decide) e14)⟩
    · have ho' : some _ = some o := ho
      cases ho'
      have hbw : Below w.heap.size w w := Below.refl _ _
      unfold paAct; go_simp
      exact ⟨u15, u84, .int .i64 (at_ : Int), u86, u87, u88, u89, u90, u91, u92, u93, u94, u95, u96, u97, rfl, hB, fun e0 => h0 (lset_ne (by decide) e0), fun _ => rfl, fun e2 => h2 (lset_ne (by decide) e2), fun e3 => h3 (lset_ne (by decide) e3), fun e4 => h4 (lset_ne (by decide) e4), fun e5 => h5 (lset_ne (by decide) e5), fun e6 => h6 (lset_ne (by decide) e6), fun e7 => h7 (lset_ne (by decide) e7), fun e8 => h8 (lset_ne (by decide) e8), fun e9 => h9 (lset_ne (by decide) e9), fun e10 => h10 (lset_ne (by decide) e10), fun e11 => h11 (lset_ne (by decide) e11), fun e12 => h12 (lset_ne (by decide) e12), fun e13 => h13 (lset_ne (by decide) e13), fun e14 => h14 (lset_ne (by decide) e14)⟩
    · have ho' : some _ = some o := ho
      cases ho'
      have d0 := hd { on := 0, ground := .data } (by simp) rfl
      have d1 := hd { on := 1, ground := .data } (by simp) rfl
      have hbw : Below w.heap.size w w := Below.refl _ _
      have p0 : (0 : Int) ≤ (at_ : Int) := by omega
      have p1 : (at_ : Int) < (P : Int) := by omega
      have e0 := h0 d0
      subst e0
      have e1 := h1 d1
      subst e1
      unfold paAct; go_simp
      exact ⟨u15, .slice (some ⟨tb, 0, none⟩) P tc, .int .i64 (at_ : Int), .pointer (some ⟨tb, at_, none⟩), u87, u88, u89, u90, u91, u92, u93, u94, u95, u96, u97, rfl, hB, fun e0 => h0 (lset_ne (by decide) e0), fun e1 => h1 (lset_ne (by decide) e1), fun _ => rfl, fun e3 => h3 (lset_ne (by decide) e3), fun e4 => h4 (lset_ne (by decide) e4), fun e5 => h5 (lset_ne (by decide) e5), fun e6 => h6 (lset_ne (by decide) e6), fun e7 => h7 (lset_ne (by decide) e7), fun e8 => h8 (lset_ne (by decide) e8), fun e9 => h9 (lset_ne (by decide) e9), fun e10 => h10 (lset_ne (by decide) e10), fun e11 => h11 (lset_ne (by decide) e11), fun e12 => h12 (lset_ne (by decide) e12), fun e13 => h13 (lset_ne (by decide) e13), fun e14 => h14 (lset_ne (by decide) e14)⟩
    · have ho' : some _ = some o := ho
      cases ho'
      have d2 := hd { on := 2, ground := .data } (by simp) rfl
      have hbw : Below w.heap.size w w := Below.refl _ _
      have c0 := (hB.cell (p := ⟨tb, at_, none⟩) htb).trans ht
      have e2 := h2 d2
      subst e2
      unfold paAct; go_simp
      exact ⟨u15, u84, u85, .pointer (some ⟨tb, at_, none⟩), .slice (some ⟨rb, ro, none⟩) m rc, u88, u89, u90, u91, u92, u93, u94, u95, u96, u97, rfl, hB, fun e0 => h0 (lset_ne (by decide) e0), fun e1 => h1 (lset_ne (by decide) e1), fun e2 => h2 (lset_ne (by decide) e2), fun _ => rfl, fun e4 => h4 (lset_ne (by decide) e4), fun e5 => h5 (lset_ne (by decide) e5), fun e6 => h6 (lset_ne (by decide) e6), fun e7 => h7 (lset_ne (by decide) e7), fun e8 => h8 (lset_ne (by decide) e8), fun e9 => h9 (lset_ne (by decide) e9), fun e10 => h10 (lset_ne (by decide) e10), fun e11 => h11 (lset_ne (by decide) e11), fun e12 => h12 (lset_ne (by decide) e12), fun e13 => h13 (lset_ne (by decide) e13), fun e14 => h14 (lset_ne (by decide) e14)⟩
    · have ho' : some _ = some o := ho
      cases ho'
      have hbw : Below w.heap.size w w := Below.refl _ _
      unfold paAct; go_simp
      exact ⟨u15, u84, u85, u86, u87, .int .u8 (y : Int), u89, u90, u91, u92, u93, u94, u95, u96, u97, rfl, hB, fun e0 => h0 (lset_ne (by decide) e0), fun e1 => h1 (lset_ne (by decide) e1), fun e2 => h2 (lset_ne (by decide) e2), fun e3 => h3 (lset_ne (by decide) e3), fun _ => rfl, fun e5 => h5 (lset_ne (by decide) e5), fun e6 => h6 (lset_ne (by decide) e6), fun e7 => h7 (lset_ne (by decide) e7), fun e8 => h8 (lset_ne (by decide) e8), fun e9 => h9 (lset_ne (by decide) e9), fun e10 => h10 (lset_ne (by decide) e10), fun e11 => h11 (lset_ne (by decide) e11), fun e12 => h12 (lset_ne (by decide) e12), fun e13 => h13 (lset_ne (by decide) e13), fun e14 => h14 (lset_ne (by decide) e14)⟩
    · have ho' : some _ = some o := ho
      cases ho'
      have d4 := hd { on := 4, ground := .data } (by simp) rfl
      have hbw : Below w.heap.size w w := Below.refl _ _
      have v5 : IntKind.i64.wrap (y : Int) = (y : Int) := by rw [IntKind.wrap_i64]; omega
      have e4 := h4 d4
      subst e4
      unfold paAct; go_simp
      exact ⟨u15, u84, u85, u86, u87, .int .u8 (y : Int), .int .i64 (y : Int), u90, u91, u92, u93, u94, u95, u96, u97, rfl, hB, fun e0 => h0 (lset_ne (by decide) e0), fun e1 => h1 (lset_ne (by decide) e1), fun e2 => h2 (lset_ne (by decide) e2), fun e3 => h3 (lset_ne (by decide) e3), fun e4 => h4 (lset_ne (by decide) e4), fun _ => rfl, fun e6 => h6 (lset_ne (by decide) e6), fun e7 => h7 (lset_ne (by decide) e7), fun e8 => h8 (lset_ne (by decide) e8), fun e9 => h9 (lset_ne (by decide) e9), fun e10 => h10 (lset_ne (by decide) e10), fun e11 => h11 (lset_ne (by decide) e11), fun e12 => h12 (lset_ne (by decide) e12), fun e13 => h13 (lset_ne (by decide) e13), fun e14 => h14 (lset_ne (by decide) e14)⟩
    · have ho' : some _ = some o := ho
      cases ho'
      have hbw : Below w.heap.size w w := Below.refl _ _
      unfold paAct; go_simp
      exact ⟨u15, u84, u85, u86, u87, u88, u89, .slice (some ⟨tb, 0, none⟩) P tc, u91, u92, u93, u94, u95, u96, u97, rfl, hB, fun e0 => h0 (lset_ne (by decide) e0), fun e1 => h1 (lset_ne (by decide) e1), fun e2 => h2 (lset_ne (by decide) e2), fun e3 => h3 (lset_ne (by decide) e3), fun e4 => h4 (lset_ne (by decide) e4), fun e5 => h5 (lset_ne (by decide) e5), fun _ => rfl, fun e7 => h7 (lset_ne (by decide) e7), fun e8 => h8 (lset_ne (by decide) e8), fun e9 => h9 (lset_ne (by decide) e9), fun e10 => h10 (lset_ne (by decide) e10), fun e11 => h11 (lset_ne (by decide) e11), fun e12 => h12 (lset_ne (by decide) e12), fun e13 => h13 (lset_ne (by decide) e13), fun e14 => h14 (lset_ne (by decide) e14)⟩
    · have ho' : some _ = some o := ho
      cases ho'
      have hbw : Below w.heap.size w w := Below.refl _ _
      unfold paAct; go_simp
      exact ⟨u15, u84, u85, u86, u87, u88, u89, u90, .int .i64 (at_ : Int), u92, u93, u94, u95, u96, u97, rfl, hB, fun e0 => h0 (lset_ne (by decide) e0), fun e1 => h1 (lset_ne (by decide) e1), fun e2 => h2 (lset_ne (by decide) e2), fun e3 => h3 (lset_ne (by decide) e3), fun e4 => h4 (lset_ne (by decide) e4), fun e5 => h5 (lset_ne (by decide) e5), fun e6 => h6 (lset_ne (by decide) e6), fun _ => rfl, fun e8 => h8 (lset_ne (by decide) e8), fun e9 => h9 (lset_ne (by decide) e9), fun e10 => h10 (lset_ne (by decide) e10), fun e11 => h11 (lset_ne (by decide) e11), fun e12 => h12 (lset_ne (by decide) e12), fun e13 => h13 (lset_ne (by decide) e13), fun e14 => h14 (lset_ne (by decide) e14)⟩
    · have ho' : some _ = some o := ho
      cases ho'
      have d6 := hd { on := 6, ground := .data } (by simp) rfl
      have d7 := hd { on := 7, ground := .data } (by simp) rfl
      have hbw : Below w.heap.size w w := Below.refl _ _
      have p0 : (0 : Int) ≤ (at_ : Int) := by omega
      have p1 : (at_ : Int) < (P : Int) := by omega
      have e6 := h6 d6
      subst e6
      have e7 := h7 d7
      subst e7
      unfold paAct; go_simp
      exact ⟨u15, u84, u85, u86, u87, u88, u89, .slice (some ⟨tb, 0, none⟩) P tc, .int .i64 (at_ : Int), .pointer (some ⟨tb, at_, none⟩), u93, u94, u95, u96, u97, rfl, hB, fun e0 => h0 (lset_ne (by decide) e0), fun e1 => h1 (lset_ne (by decide) e1), fun e2 => h2 (lset_ne (by decide) e2), fun e3 => h3 (lset_ne (by decide) e3), fun e4 => h4 (lset_ne (by decide) e4), fun e5 => h5 (lset_ne (by decide) e5), fun e6 => h6 (lset_ne (by decide) e6), fun e7 => h7 (lset_ne (by decide) e7), fun _ => rfl, fun e9 => h9 (lset_ne (by decide) e9), fun e10 => h10 (lset_ne (by decide) e10), fun e11 => h11 (lset_ne (by decide) e11), fun e12 => h12 (lset_ne (by decide) e12), fun e13 => h13 (lset_ne (by decide) e13), fun e14 => h14 (lset_ne (by decide) e14)⟩
    · have ho' : some _ = some o := ho
      cases ho'
      have d8 := hd { on := 8, ground := .data } (by simp) rfl
      have hbw : Below w.heap.size w w := Below.refl _ _
      have c0 := (hB.cell (p := ⟨tb, at_, none⟩) htb).trans ht
      have e8 := h8 d8
      subst e8
      unfold paAct; go_simp
      exact ⟨u15, u84, u85, u86, u87, u88, u89, u90, u91, .pointer (some ⟨tb, at_, none⟩), .slice (some ⟨rb, ro, none⟩) m rc, u94, u95, u96, u97, rfl, hB, fun e0 => h0 (lset_ne (by decide) e0), fun e1 => h1 (lset_ne (by decide) e1), fun e2 => h2 (lset_ne (by decide) e2), fun e3 => h3 (lset_ne (by decide) e3), fun e4 => h4 (lset_ne (by decide) e4), fun e5 => h5 (lset_ne (by decide) e5), fun e6 => h6 (lset_ne (by decide) e6), fun e7 => h7 (lset_ne (by decide) e7), fun e8 => h8 (lset_ne (by decide) e8), fun _ => rfl, fun e10 => h10 (lset_ne (by decide) e10), fun e11 => h11 (lset_ne (by decide) e11), fun e12 => h12 (lset_ne (by decide) e12), fun e13 => h13 (lset_ne (by decide) e13), fun e14 => h14 (lset_ne (by decide) e14)⟩
    · have ho' : some _ = some o := ho
      cases ho'
      have d9 := hd { on := 9, ground := .data } (by simp) rfl
      have hbw : Below w.heap.size w w := Below.refl _ _
      have e9 := h9 d9
      subst e9
      unfold paAct; go_simp
      exact ⟨u15, u84, u85, u86, u87, u88, u89, u90, u91, u92, .slice (some ⟨rb, ro, none⟩) m rc, .int .i64 (m : Int), u95, u96, u97, rfl, hB, fun e0 => h0 (lset_ne (by decide) e0), fun e1 => h1 (lset_ne (by decide) e1), fun e2 => h2 (lset_ne (by decide) e2), fun e3 => h3 (lset_ne (by decide) e3), fun e4 => h4 (lset_ne (by decide) e4), fun e5 => h5 (lset_ne (by decide) e5), fun e6 => h6 (lset_ne (by decide) e6), fun e7 => h7 (lset_ne (by decide) e7), fun e8 => h8 (lset_ne (by decide) e8), fun e9 => h9 (lset_ne (by decide) e9), fun _ => rfl, fun e11 => h11 (lset_ne (by decide) e11), fun e12 => h12 (lset_ne (by decide) e12), fun e13 => h13 (lset_ne (by decide) e13), fun e14 => h14 (lset_ne (by decide) e14)⟩
    · have ho' : some _ = some o := ho
      cases ho'
      have d5 := hd { on := 5, ground := .data } (by simp) rfl
      have d10 := hd { on := 10, ground := .data } (by simp) rfl
      have hbw : Below w.heap.size w w := Below.refl _ _
      have r0 : (m = 0) = False := by simp; omega
      have r1 : (y : Int).tmod (m : Int) = (j : Int) := by rw [hj.out, Int.tmod_eq_emod_of_nonneg (by omega)]; push_cast; rfl
      have e5 := h5 d5
      subst e5
      have e10 := h10 d10
      subst e10
      unfold paAct; go_simp
      exact ⟨u15, u84, u85, u86, u87, u88, .int .i64 (y : Int), u90, u91, u92, u93, .int .i64 (m : Int), .int .i64 (j : Int), u96, u97, rfl, hB, fun e0 => h0 (lset_ne (by decide) e0), fun e1 => h1 (lset_ne (by decide) e1), fun e2 => h2 (lset_ne (by decide) e2), fun e3 => h3 (lset_ne (by decide) e3), fun e4 => h4 (lset_ne (by decide) e4), fun e5 => h5 (lset_ne (by decide) e5), fun e6 => h6 (lset_ne (by decide) e6), fun e7 => h7 (lset_ne (by decide) e7), fun e8 => h8 (lset_ne (by decide) e8), fun e9 => h9 (lset_ne (by decide) e9), fun e10 => h10 (lset_ne (by decide) e10), fun _ => rfl, fun e12 => h12 (lset_ne (by decide) e12), fun e13 => h13 (lset_ne (by decide) e13), fun e14 => h14 (lset_ne (by decide) e14)⟩
    · have ho' : some _ = some o := ho
      cases ho'
      have d3 := hd { on := 3, ground := .data } (by simp) rfl
      have d11 := hd { on := 11, ground := .data } (by simp) rfl
      have hbw : Below w.heap.size w w := Below.refl _ _
      have p0 : (0 : Int) ≤ (j : Int) := by omega
      have p1 : (j : Int) < (m : Int) := by omega
      have e3 := h3 d3
      subst e3
      have e11 := h11 d11
      subst e11
      unfold paAct; go_simp
      exact ⟨u15, u84, u85, u86, .slice (some ⟨rb, ro, none⟩) m rc, u88, u89, u90, u91, u92, u93, u94, .int .i64 (j : Int), .pointer (some ⟨rb, ro + j, none⟩), u97, rfl, hB, fun e0 => h0 (lset_ne (by decide) e0), fun e1 => h1 (lset_ne (by decide) e1), fun e2 => h2 (lset_ne (by decide) e2), fun e3 => h3 (lset_ne (by decide) e3), fun e4 => h4 (lset_ne (by decide) e4), fun e5 => h5 (lset_ne (by decide) e5), fun e6 => h6 (lset_ne (by decide) e6), fun e7 => h7 (lset_ne (by decide) e7), fun e8 => h8 (lset_ne (by decide) e8), fun e9 => h9 (lset_ne (by decide) e9), fun e10 => h10 (lset_ne (by decide) e10), fun e11 => h11 (lset_ne (by decide) e11), fun _ => rfl, fun e13 => h13 (lset_ne (by decide) e13), fun e14 => h14 (lset_ne (by decide) e14)⟩
    · have ho' : some _ = some o := ho
      cases ho'
      have d12 := hd { on := 12, ground := .data } (by simp) rfl
      have hbw : Below w.heap.size w w := Below.refl _ _
      have c0 := (hB.cell (p := ⟨rb, ro + j, none⟩) hrb).trans hk
      have e12 := h12 d12
      subst e12
      unfold paAct; go_simp
      exact ⟨u15, u84, u85, u86, u87, u88, u89, u90, u91, u92, u93, u94, u95, .pointer (some ⟨rb, ro + j, none⟩), .int .i64 (k : Int), rfl, hB, fun e0 => h0 (lset_ne (by decide) e0), fun e1 => h1 (lset_ne (by decide) e1), fun e2 => h2 (lset_ne (by decide) e2), fun e3 => h3 (lset_ne (by decide) e3), fun e4 => h4 (lset_ne (by decide) e4), fun e5 => h5 (lset_ne (by decide) e5), fun e6 => h6 (lset_ne (by decide) e6), fun e7 => h7 (lset_ne (by decide) e7), fun e8 => h8 (lset_ne (by decide) e8), fun e9 => h9 (lset_ne (by decide) e9), fun e10 => h10 (lset_ne (by decide) e10), fun e11 => h11 (lset_ne (by decide) e11), fun e12 => h12 (lset_ne (by decide) e12), fun _ => rfl, fun e14 => h14 (lset_ne (by decide) e14)⟩
    · have ho' : some _ = some o := ho
      cases ho'
      have d13 := hd { on := 13, ground := .data } (by simp) rfl
      have d0 := hd { on := 0, ground := .phase } (by simp) rfl
      have d1 := hd { on := 1, ground := .phase } (by simp) rfl
      have d2 := hd { on := 2, ground := .phase } (by simp) rfl
      have d3 := hd { on := 3, ground := .phase } (by simp) rfl
      have d4 := hd { on := 4, ground := .phase } (by simp) rfl
      have d5 := hd { on := 5, ground := .phase } (by simp) rfl
      have d6 := hd { on := 6, ground := .phase } (by simp) rfl
      have d7 := hd { on := 7, ground := .phase } (by simp) rfl
      have d8 := hd { on := 8, ground := .phase } (by simp) rfl
      have d9 := hd { on := 9, ground := .phase } (by simp) rfl
      have d10 := hd { on := 10, ground := .phase } (by simp) rfl
      have d11 := hd { on := 11, ground := .phase } (by simp) rfl
      have d12 := hd { on := 12, ground := .phase } (by simp) rfl
      have d13 := hd { on := 13, ground := .phase } (by simp) rfl
      have hbw : Below w.heap.size w w := Below.refl _ _
      have e0 := h0 d0
      subst e0
      have e1 := h1 d1
      subst e1
      have e2 := h2 d2
      subst e2
      have e3 := h3 d3
      subst e3
      have e4 := h4 d4
      subst e4
      have e5 := h5 d5
      subst e5
      have e6 := h6 d6
      subst e6
      have e7 := h7 d7
      subst e7
      have e8 := h8 d8
      subst e8
      have e9 := h9 d9
      subst e9
      have e10 := h10 d10
      subst e10
      have e11 := h11 d11
      subst e11
      have e12 := h12 d12
      subst e12
      have e13 := h13 d13
      subst e13
      unfold paAct; go_simp
      exact ⟨.int .i64 (k : Int), .slice (some ⟨tb, 0, none⟩) P tc, .int .i64 (at_ : Int), .pointer (some ⟨tb, at_, none⟩), .slice (some ⟨rb, ro, none⟩) m rc, .int .u8 (y : Int), .int .i64 (y : Int), .slice (some ⟨tb, 0, none⟩) P tc, .int .i64 (at_ : Int), .pointer (some ⟨tb, at_, none⟩), .slice (some ⟨rb, ro, none⟩) m rc, .int .i64 (m : Int), .int .i64 (j : Int), .pointer (some ⟨rb, ro + j, none⟩), .int .i64 (k : Int), rfl, hB, fun e0 => h0 (lset_ne (by decide) e0), fun e1 => h1 (lset_ne (by decide) e1), fun e2 => h2 (lset_ne (by decide) e2), fun e3 => h3 (lset_ne (by decide) e3), fun e4 => h4 (lset_ne (by decide) e4), fun e5 => h5 (lset_ne (by decide) e5), fun e6 => h6 (lset_ne (by decide) e6), fun e7 => h7 (lset_ne (by decide) e7), fun e8 => h8 (lset_ne (by decide) e8), fun e9 => h9 (lset_ne (by decide) e9), fun e10 => h10 (lset_ne (by decide) e10), fun e11 => h11 (lset_ne (by decide) e11), fun e12 => h12 (lset_ne (by decide) e12), fun e13 => h13 (lset_ne (by decide) e13), fun _ => rfl⟩
  · rintro listed a w ⟨u15, u84, u85, u86, u87, u88, u89, u90, u91, u92, u93, u94, u95, u96, u97, rfl, hB, h0, h1, h2, h3, h4, h5, h6, h7, h8, h9, h10, h11, h12, h13, h14⟩ hall
    exact hQ _ _ _ _ _ _ _ _ _ _ _ _ _ _ _ w hB (h0 (hall 0 (by decide))) (h1 (hall 1 (by decide))) (h2 (hall 2 (by decide))) (h3 (hall 3 (by decide))) (h4 (hall 4 (by decide))) (h5 (hall 5 (by decide))) (h6 (hall 6 (by decide))) (h7 (hall 7 (by decide))) (h8 (hall 8 (by decide))) (h9 (hall 9 (by decide))) (h10 (hall 10 (by decide))) (h11 (hall 11 (by decide))) (h12 (hall 12 (by decide))) (h13 (hall 13 (by decide))) (h14 (hall 14 (by decide)))
end Go.Proofs.Ytjjkabgbcflipaa
set_option autoImplicit false
namespace Go.Proofs.GM

section
variable {nx : Nat → List Nat} {r : Nat}
/-- d dominates q, seen from r. -/
def Dm (nx : Nat → List Nat) (r q d : Nat) : Prop := Rch nx (fun _ => False) r q ∧ ¬ Rch nx (fun x => x = d) r q
theorem Rch.free {B : Nat → Prop} {a b : Nat} (h : Rch nx B a b) : Rch nx (fun _ => False) a b := h.mono fun _ g => g.elim
theorem Rch.meets {B : Nat → Prop} {q d : Nat} (h : Rch nx B r q) (hn : ¬ Rch nx (fun x => x = d) r q) : Rch nx B r d := by
  refine Classical.byContradiction fun g => hn ?_
  exact (h.avoid g).mono fun x e => .inr e
theorem Dm.self {q : Nat} (h : Rch nx (fun _ => False) r q) : Dm nx r q q := ⟨h, fun g => g.right rfl⟩
theorem Dm.reach {q d : Nat} (h : Dm nx r q d) : Rch nx (fun _ => False) r d := h.1.meets h.2
theorem Dm.trans {q d e : Nat} (h : Dm nx r q d) (g : Dm nx r d e) : Dm nx r q e := ⟨h.1, fun k => g.2 (k.meets h.2)⟩
theorem Dm.anti {d e : Nat} (h : Dm nx r d e) (g : Dm nx r e d) : d = e := by
  refine Classical.byContradiction fun hne => ?_
  have key : ∀ x, Rch nx (fun _ => False) r x → Rch nx (fun x => x = d ∨ x = e) r x ∨ Rch nx (fun x => x = e) r d ∨ Rch nx (fun x => x = d) r e := by
    intro x hx
    induction hx with
    | refl _ =>
      by_cases h1 : r = d
      · exact .inr (.inl (h1 ▸ .refl (by rw [h1]; exact hne)))
      · by_cases h2 : r = e
        · exact .inr (.inr (h2 ▸ .refl (by rw [h2]; exact fun q => hne q.symm)))
        · exact .inl (.refl (fun q => q.elim h1 h2))
    | @step b c h1 h2 h3 ih =>
      rcases ih with ih | ih
      · by_cases e1 : c = d
        · subst e1
          exact .inr (.inl (.step (ih.mono fun _ => .inr) h2 hne))
        · by_cases e2 : c = e
          · subst e2
            exact .inr (.inr (.step (ih.mono fun _ => .inl) h2 e1))
          · exact .inl (.step ih h2 (fun q => q.elim e1 e2))
      · exact .inr ih
  rcases key d h.1 with k | k | k
  · exact k.right (.inl rfl)
  · exact h.2 k
  · exact g.2 k
theorem Dm.chain {q d e : Nat} (h : Dm nx r q d) (g : Dm nx r q e) (hne : d ≠ e) : Dm nx r d e ∨ Dm nx r e d := by
  have key : ∀ x, Rch nx (fun _ => False) r x → Rch nx (fun x => x = d ∨ x = e) r x ∨ Rch nx (fun x => x = e) d x ∨ Rch nx (fun x => x = d) e x := by
    intro x hx
    induction hx with
    | refl _ =>
      by_cases h1 : r = d
      · exact .inr (.inl (h1 ▸ .refl (by rw [h1]; exact hne)))
      · by_cases h2 : r = e
        · exact .inr (.inr (h2 ▸ .refl (by rw [h2]; exact fun q => hne q.symm)))
        · exact .inl (.refl (fun q => q.elim h1 h2))
    | @step b c h1 h2 h3 ih =>
      by_cases e1 : c = d
      · subst e1
        exact .inr (.inl (.refl hne))
      · by_cases e2 : c = e
        · subst e2
          exact .inr (.inr (.refl e1))
        · rcases ih with ih | ih | ih
          · exact .inl (.step ih h2 (fun q => q.elim e1 e2))
          · exact .inr (.inl (.step ih h2 e2))
          · exact .inr (.inr (.step ih h2 e1))
  rcases key q h.1 with k | k | k
  · exact (h.2 (k.mono fun _ => .inl)).elim
  · exact .inl ⟨h.reach, fun j => g.2 (j.trans k)⟩
  · exact .inr ⟨g.reach, fun j => h.2 (j.trans k)⟩
/-- p is the immediate dominator of q. -/
def IsId (nx : Nat → List Nat) (r q p : Nat) : Prop := p ≠ q ∧ Dm nx r q p ∧ ∀ e, e ≠ q → Dm nx r q e → Dm nx r p e
theorem IsId.unique {q p s : Nat} (h : IsId nx r q p) (g : IsId nx r q s) : p = s := (h.2.2 s g.1 g.2.1).anti (g.2.2 p h.1 h.2.1)

/-- How many numbers below P. -/
def cntT (f : Nat → Bool) : Nat → Nat
  | 0 => 0
  | n + 1 => cntT f n + (if f n = true then 1 else 0)
theorem cntT_le {f g : Nat → Bool} : ∀ P : Nat, (∀ x, x < P → f x = true → g x = true) → cntT f P ≤ cntT g P
  | 0, _ => Nat.le_refl _
  | n + 1, h => by
    have := cntT_le n fun x hx => h x (by omega)
    have := h n (by omega)
    unfold cntT
    by_cases e : f n = true
    · rw [if_pos e, if_pos (this e)]; omega
    · rw [if_neg e]; split <;> omega
theorem cntT_lt {f g : Nat → Bool} {y : Nat} : ∀ P : Nat, (∀ x, x < P → f x = true → g x = true) → y < P → g y = true → f y = false → cntT f P < cntT g P
  | 0, _, h, _, _ => by omega
  | n + 1, h, hy, h1, h2 => by
    unfold cntT
    by_cases e : y = n
    · subst e
      have := cntT_le y fun x hx => h x (by omega)
      rw [h1, h2]
      simp; omega
    · have := cntT_lt n (fun x hx => h x (by omega)) (by omega) h1 h2
      have := h n (by omega)
      by_cases e : f n = true
      · rw [if_pos e, if_pos (this e)]; omega
      · rw [if_neg e]; split <;> omega
/-- The dominator that is chosen by counts. -/
def immF (dom : Nat → Nat → Bool) (P q : Nat) : Nat → Int
  | 0 => -1
  | j + 1 => if j ≠ q ∧ dom q j = true ∧ (immF dom P q j < 0 ∨ cntT (dom (immF dom P q j).toNat) P < cntT (dom j) P) then (j : Int) else immF dom P q j
theorem immF_ok (dom : Nat → Nat → Bool) (P q : Nat) : ∀ j, (immF dom P q j = -1 ∧ ∀ e, e < j → e ≠ q → dom q e = false) ∨
    ∃ p : Nat, p < j ∧ immF dom P q j = (p : Int) ∧ p ≠ q ∧ dom q p = true ∧ ∀ e, e < j → e ≠ q → dom q e = true → cntT (dom e) P ≤ cntT (dom p) P
  | 0 => .inl ⟨rfl, fun e he => by omega⟩
  | j + 1 => by
    unfold immF
    by_cases hc : j ≠ q ∧ dom q j = true ∧ (immF dom P q j < 0 ∨ cntT (dom (immF dom P q j).toNat) P < cntT (dom j) P)
    · rw [if_pos hc]
      refine .inr ⟨j, by omega, rfl, hc.1, hc.2.1, fun e he h1 h2 => ?_⟩
      by_cases e1 : e = j
      · rw [e1]; exact Nat.le_refl _
      · rcases immF_ok dom P q j with ⟨-, h⟩ | ⟨p, hp, hq, -, -, h⟩
        · rw [h e (by omega) h1] at h2; cases h2
        · have := h e (by omega) h1 h2
          rcases hc.2.2 with k | k
          · rw [hq] at k; omega
          · rw [hq, Int.toNat_natCast] at k; omega
    · rw [if_neg hc]
      rcases immF_ok dom P q j with ⟨h0, h⟩ | ⟨p, hp, hq, h1, h2, h⟩
      · refine .inl ⟨h0, fun e he h1 => ?_⟩
        by_cases e1 : e = j
        · subst e1
          rw [← Bool.not_eq_true]
          exact fun k => hc ⟨h1, k, .inl (by omega)⟩
        · exact h e (by omega) h1
      · refine .inr ⟨p, by omega, hq, h1, h2, fun e he k1 k2 => ?_⟩
        by_cases e1 : e = j
        · subst e1
          refine Nat.le_of_not_lt fun k => hc ⟨k1, k2, .inr ?_⟩
          rw [hq, Int.toNat_natCast]; exact k
        · exact h e (by omega) k1 k2
/-- The one that is chosen by counts is the immediate one. -/
theorem immF_id {dom : Nat → Nat → Bool} {P q : Nat} (hd : ∀ x e, x < P → e < P → (dom x e = true ↔ Dm nx r x e)) (hP : ∀ x, Rch nx (fun _ => False) r x → x < P) (hq : q < P) :
    (immF dom P q P = -1 ∧ ∀ e, e ≠ q → ¬ Dm nx r q e) ∨ ∃ p : Nat, p < P ∧ immF dom P q P = (p : Int) ∧ IsId nx r q p := by
  rcases immF_ok dom P q P with ⟨h0, h⟩ | ⟨p, hp, h0, h1, h2, h⟩
  · refine .inl ⟨h0, fun e he g => ?_⟩
    have hl := hP e g.reach
    have := h e hl he
    rw [(hd q e hq hl).2 g] at this
    cases this
  · have hqp := (hd q p hq hp).1 h2
    refine .inr ⟨p, hp, h0, h1, hqp, fun e he g => ?_⟩
    have hl := hP e g.reach
    by_cases e1 : e = p
    · rw [e1]; exact Dm.self hqp.reach
    · rcases hqp.chain g (fun q => e1 q.symm) with k | k
      · exact k
      · have h3 := h e hl he ((hd q e hq hl).2 g)
        have h4 : cntT (dom p) P < cntT (dom e) P := by
          refine cntT_lt P (y := e) (fun x hx h => ?_) hl ((hd e e hl hl).2 (Dm.self g.reach)) ?_
          · exact (hd e x hl hx).2 (k.trans ((hd p x hp hx).1 h))
          · rw [← Bool.not_eq_true]
            exact fun j => e1 ((k.anti ((hd p e hp hl).1 j)))
        omega
/-- The first strict dominator in the order of a visit is the immediate one. -/
theorem first_id {t : List Nat} {q p : Nat} (hv : VL nx (fun _ => False) [r] t) {u v : List Nat} (ht : t = u ++ p :: v) (hp : p ≠ q ∧ Dm nx r q p) (hu : ∀ e ∈ u, ¬ (e ≠ q ∧ Dm nx r q e)) : IsId nx r q p := by
  have hnd := hv.nodup
  refine ⟨hp.1, hp.2, fun e he g => ?_⟩
  by_cases e1 : e = p
  · rw [e1]; exact Dm.self hp.2.reach
  · rcases hp.2.chain g (fun q => e1 q.symm) with k | k
    · exact k
    · exfalso
      have het : e ∈ t := (hv.mem e).2 ⟨r, by simp, g.reach⟩
      have hpt : p ∈ t := by rw [ht]; simp
      have hle := hv.over p hpt e het (by
        rintro ⟨x, hx, j⟩
        rw [List.mem_singleton] at hx
        subst hx
        exact k.2 (j.mono fun y hy => .inr hy))
      have hi := ((Le.idx hnd).1 hle).2.2
      have heu : e ∉ u := fun j => hu e j ⟨he, g⟩
      have hpu : p ∉ u := by
        rw [ht, List.nodup_append] at hnd
        exact fun j => hnd.2.2 p j p (by simp) rfl
      rw [ht, List.idxOf_append, List.idxOf_append, if_neg heu, if_neg hpu, List.idxOf_cons, List.idxOf_cons] at hi
      have e2 : (p == e) = false := by simpa using fun q => e1 q.symm
      have e3 : (p == p) = true := by simp
      rw [e2, e3] at hi
      simp only [cond_false, cond_true, Nat.zero_add, Nat.add_zero] at hi
      omega
end
end Go.Proofs.GM
namespace Go.Proofs.Ytjjkabgbcflipaa
open Go Go.Proofs Go.RowKit GM

theorem DomT.dm {nx : Nat → List Nat} {r P : Nat} {t : List Nat} {T : Nat → List Nat} (h : DomT nx r P t T) {p q : Nat} (hq : q ∈ t) (hp : p ∈ t) : (¬ (q = p ∨ q ∈ T p)) ↔ (p ≠ q ∧ Dm nx r q p) := by
  have h1 := (h.ord.mem q).1 hq
  obtain ⟨a, ha, h1⟩ := h1
  rw [List.mem_singleton] at ha
  subst ha
  have h2 := (h.wo p hp).mem q
  constructor
  · intro k
    refine ⟨fun e => k (.inl e.symm), h1, fun g => k (.inr (h2.2 ⟨a, by simp, g⟩))⟩
  · rintro ⟨k1, -, k2⟩ (k | k)
    · exact k1 k.symm
    · obtain ⟨b, hb, g⟩ := h2.1 k
      rw [List.mem_singleton] at hb
      subst hb
      exact k2 g
theorem DomT.parId {nx : Nat → List Nat} {r P : Nat} {t : List Nat} {T : Nat → List Nat} (h : DomT nx r P t T) (q : Nat) :
    (parF t T t q = -1 ∧ ∀ e, e ≠ q → ¬ Dm nx r q e) ∨ ∃ p : Nat, p < P ∧ parF t T t q = (p : Int) ∧ IsId nx r q p := by
  unfold parF
  by_cases hq : q ∈ t
  · rw [if_pos hq]
    cases hf : t.find? (fun p => !(q == p || (T p).contains q)) with
    | none =>
      refine .inl ⟨rfl, fun e he g => ?_⟩
      have het : e ∈ t := (h.ord.mem e).2 ⟨r, by simp, g.reach⟩
      have := List.find?_eq_none.1 hf e het
      have hk := (h.dm hq het).2 ⟨he, g⟩
      simp only [Bool.not_eq_true, Bool.not_eq_false', Bool.or_eq_true, beq_iff_eq, List.contains_iff_mem] at this
      exact hk this
    | some p =>
      obtain ⟨hp, u, v, ht, hu⟩ := List.find?_eq_some_iff_append.1 hf
      have hpt : p ∈ t := by rw [ht]; simp
      have hpq : p ≠ q ∧ Dm nx r q p := (h.dm hq hpt).1 (by
        intro k
        simp only [Bool.not_eq_true', Bool.or_eq_false_iff, beq_eq_false_iff_ne] at hp
        rcases k with k | k
        · exact hp.1 k
        · have := hp.2; simp [k] at this)
      refine .inr ⟨p, h.lt p hpt, rfl, first_id h.ord ht hpq (fun e he k => ?_)⟩
      have het : e ∈ t := by rw [ht]; simp [he]
      have h3 := hu e he
      have h4 := (h.dm hq het).2 k
      simp only [Bool.not_not, Bool.or_eq_true, beq_iff_eq, List.contains_iff_mem] at h3
      exact h4 h3
  · rw [if_neg hq]
    refine .inl ⟨rfl, fun e he g => hq ((h.ord.mem q).2 ⟨r, by simp, g.1⟩)⟩
theorem DomT.in_of {nx : Nat → List Nat} {r P : Nat} {t : List Nat} {T : Nat → List Nat} (h : DomT nx r P t T) {x : Nat} (g : Rch nx (fun _ => False) r x) : x < P := h.lt x ((h.ord.mem x).2 ⟨r, by simp, g⟩)
/-- Both answers are the same. -/
theorem DomT.eq {nx : Nat → List Nat} {r P : Nat} {t : List Nat} {T : Nat → List Nat} (h : DomT nx r P t T) {f : Nat → Nat → Bool} (hd : ∀ x e, x < P → e < P → (f x e = true ↔ Dm nx r x e)) {q : Nat} (hq : q < P) : immF f P q P = parF t T t q := by
  rcases immF_id hd (fun x g => h.in_of g) hq with ⟨h1, h2⟩ | ⟨p, -, h1, h2⟩
  · rcases h.parId q with ⟨h3, -⟩ | ⟨s, -, -, h4⟩
    · rw [h1, h3]
    · exact (h2 s h4.1 h4.2.1).elim
  · rcases h.parId q with ⟨-, h4⟩ | ⟨s, -, h3, h4⟩
    · exact (h4 p h2.1 h2.2.1).elim
    · rw [h1, h3, h2.unique h4]
end Go.Proofs.Ytjjkabgbcflipaa
