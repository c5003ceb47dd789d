import Derived.Test.YtjjkabgbcflipaaCu27
set_option linter.unusedSimpArgs false
set_option linter.unusedVariables false
namespace Go.Proofs.Ytjjkabgbcflipaa
open Go Go.Proofs Go.RowKit Go.Shelf GM
def h1rAct (gb lb kk : Nat) (q0 q2 q3 q4 q5 q6 q7 q8 q9 q10 q11 q14 q16 q17 q18 q19 q20 q21 q22 q23 q24 q25 q26 q27 q28 q29 q30 q31 q32 q33 q34 q35 q36 q37 q38 q39 q40 q41 q42 q43 q44 q45 q46 q47 q48 q49 q50 q51 q52 q53 q54 q55 q56 q57 q58 q59 q60 q61 q62 q63 q64 q65 q66 q67 q68 q69 q70 q71 q72 q73 q74 q75 q76 q77 q78 q79 q80 q81 q82 q83 q84 q85 q86 q87 q88 q89 q90 q91 q92 q93 q94 q95 q119 q120 q121 q122 q123 q124 q125 q126 q127 q128 q129 q130 q131 q132 q133 q134 q135 q136 q137 q138 q139 q140 q141 q142 q143 q144 q145 q146 q147 q148 q149 q150 q151 q152 q153 q154 q155 q156 q157 q158 q159 q160 q161 q162 q163 q164 q165 q166 q167 q168 q169 q170 q171 q172 q173 q174 q175 q176 q177 q178 q179 q180 q181 q182 q183 q184 q185 q186 q187 q188 q189 q190 q191 q192 q193 q194 q195 u13 u96 u97 u98 u99 u100 u101 u102 u103 u104 u105 u106 u107 u108 u109 u110 u111 u112 u113 u114 u115 u116 u117 u118 : Value) : Act :=
  { tmps := #[q0, .pointer (some ⟨gb, 0, none⟩), q2, q3, q4, q5, q6, q7, q8, q9, q10, q11, .pointer (some ⟨lb, 0, none⟩), u13, q14, .int .i64 (kk : Int), q16, q17, q18, q19, q20, q21, q22, q23, q24, q25, q26, q27, q28, q29, q30, q31, q32, q33, q34, q35, q36, q37, q38, q39, q40, q41, q42, q43, q44, q45, q46, q47, q48, q49, q50, q51, q52, q53, q54, q55, q56, q57, q58, q59, q60, q61, q62, q63, q64, q65, q66, q67, q68, q69, q70, q71, q72, q73, q74, q75, q76, q77, q78, q79, q80, q81, q82, q83, q84, q85, q86, q87, q88, q89, q90, q91, q92, q93, q94, q95, u96, u97, u98, u99, u100, u101, u102, u103, u104, u105, u106, u107, u108, u109, u110, u111, u112, u113, u114, u115, u116, u117, u118, q119, q120, q121, q122, q123, q124, q125, q126, q127, q128, q129, q130, q131, q132, q133, q134, q135, q136, q137, q138, q139, q140, q141, q142, q143, q144, q145, q146, q147, q148, q149, q150, q151, q152, q153, q154, q155, q156, q157, q158, q159, q160, q161, q162, q163, q164, q165, q166, q167, q168, q169, q170, q171, q172, q173, q174, q175, q176, q177, q178, q179, q180, q181, q182, q183, q184, q185, q186, q187, q188, q189, q190, q191, q192, q193, q194, q195], defers := [] }
def h1rI (gb eb eo en ec lb kk s f h pb po pn pc : Nat) (z : Bool) (q0 q2 q3 q4 q5 q6 q7 q8 q9 q10 q11 q14 q16 q17 q18 q19 q20 q21 q22 q23 q24 q25 q26 q27 q28 q29 q30 q31 q32 q33 q34 q35 q36 q37 q38 q39 q40 q41 q42 q43 q44 q45 q46 q47 q48 q49 q50 q51 q52 q53 q54 q55 q56 q57 q58 q59 q60 q61 q62 q63 q64 q65 q66 q67 q68 q69 q70 q71 q72 q73 q74 q75 q76 q77 q78 q79 q80 q81 q82 q83 q84 q85 q86 q87 q88 q89 q90 q91 q92 q93 q94 q95 q119 q120 q121 q122 q123 q124 q125 q126 q127 q128 q129 q130 q131 q132 q133 q134 q135 q136 q137 q138 q139 q140 q141 q142 q143 q144 q145 q146 q147 q148 q149 q150 q151 q152 q153 q154 q155 q156 q157 q158 q159 q160 q161 q162 q163 q164 q165 q166 q167 q168 q169 q170 q171 q172 q173 q174 q175 q176 q177 q178 q179 q180 q181 q182 q183 q184 q185 q186 q187 q188 q189 q190 q191 q192 q193 q194 q195 : Value) (W0 : World) (listed : Array Bool) (a : Act) (w : World) : Prop :=
  ∃ u13 u96 u97 u98 u99 u100 u101 u102 u103 u104 u105 u106 u107 u108 u109 u110 u111 u112 u113 u114 u115 u116 u117 u118, a = h1rAct gb lb kk q0 q2 q3 q4 q5 q6 q7 q8 q9 q10 q11 q14 q16 q17 q18 q19 q20 q21 q22 q23 q24 q25 q26 q27 q28 q29 q30 q31 q32 q33 q34 q35 q36 q37 q38 q39 q40 q41 q42 q43 q44 q45 q46 q47 q48 q49 q50 q51 q52 q53 q54 q55 q56 q57 q58 q59 q60 q61 q62 q63 q64 q65 q66 q67 q68 q69 q70 q71 q72 q73 q74 q75 q76 q77 q78 q79 q80 q81 q82 q83 q84 q85 q86 q87 q88 q89 q90 q91 q92 q93 q94 q95 q119 q120 q121 q122 q123 q124 q125 q126 q127 q128 q129 q130 q131 q132 q133 q134 q135 q136 q137 q138 q139 q140 q141 q142 q143 q144 q145 q146 q147 q148 q149 q150 q151 q152 q153 q154 q155 q156 q157 q158 q159 q160 q161 q162 q163 q164 q165 q166 q167 q168 q169 q170 q171 q172 q173 q174 q175 q176 q177 q178 q179 q180 q181 q182 q183 q184 q185 q186 q187 q188 q189 q190 q191 q192 q193 q194 q195 u13 u96 u97 u98 u99 u100 u101 u102 u103 u104 u105 u106 u107 u108 u109 u110 u111 u112 u113 u114 u115 u116 u117 u118 ∧ (Below W0.heap.size W0 w ∧ (listed.getD 23 false = false → u13 = .bool false) ∧ (listed.getD 23 false = true → listed.getD 0 false = true)) ∧
    (listed.getD 0 false = true → u96 = .bool false) ∧
    (listed.getD 1 false = true → u97 = .bool false) ∧
    (listed.getD 2 false = true → u98 = .pointer (some ⟨gb, 2, none⟩)) ∧
    (listed.getD 3 false = true → u99 = .slice (some ⟨eb, eo, none⟩) en ec) ∧
    (listed.getD 4 false = true → u100 = .int .i64 (kk : Int)) ∧
    (listed.getD 5 false = true → u101 = .pointer (some ⟨eb, eo + kk * 21, none⟩)) ∧
    (listed.getD 6 false = true → u102 = .pointer (some ⟨eb, eo + kk * 21 + 1, none⟩)) ∧
    (listed.getD 7 false = true → u103 = .int .i64 (s : Int)) ∧
    (listed.getD 8 false = true → u104 = .pointer (some ⟨lb, 0, none⟩)) ∧
    (listed.getD 9 false = true → u105 = .int .i64 (h : Int)) ∧
    (listed.getD 10 false = true → u106 = .bool false) ∧
    (listed.getD 11 false = true → u107 = .bool false) ∧
    (listed.getD 12 false = true → u108 = undef) ∧
    (listed.getD 13 false = true → u109 = undef) ∧
    (listed.getD 14 false = true → u110 = undef) ∧
    (listed.getD 15 false = true → u111 = undef) ∧
    (listed.getD 16 false = true → u112 = undef) ∧
    (listed.getD 17 false = true → u113 = undef) ∧
    (listed.getD 18 false = true → u114 = undef) ∧
    (listed.getD 19 false = true → u115 = undef) ∧
    (listed.getD 20 false = true → u116 = undef) ∧
    (listed.getD 21 false = true → u117 = .bool false) ∧
    (listed.getD 22 false = true → u118 = .bool false) ∧
    (listed.getD 23 false = true → u13 = .bool false)
set_option maxRecDepth 20000 in
set_option maxHeartbeats 4000000 in
theorem h1r_region (gb eb eo en ec lb kk s f h pb po pn pc : Nat) (z : Bool) (q0 q2 q3 q4 q5 q6 q7 q8 q9 q10 q11 q14 q16 q17 q18 q19 q20 q21 q22 q23 q24 q25 q26 q27 q28 q29 q30 q31 q32 q33 q34 q35 q36 q37 q38 q39 q40 q41 q42 q43 q44 q45 q46 q47 q48 q49 q50 q51 q52 q53 q54 q55 q56 q57 q58 q59 q60 q61 q62 q63 q64 q65 q66 q67 q68 q69 q70 q71 q72 q73 q74 q75 q76 q77 q78 q79 q80 q81 q82 q83 q84 q85 q86 q87 q88 q89 q90 q91 q92 q93 q94 q95 q119 q120 q121 q122 q123 q124 q125 q126 q127 q128 q129 q130 q131 q132 q133 q134 q135 q136 q137 q138 q139 q140 q141 q142 q143 q144 q145 q146 q147 q148 q149 q150 q151 q152 q153 q154 q155 q156 q157 q158 q159 q160 q161 q162 q163 q164 q165 q166 q167 q168 q169 q170 q171 q172 q173 q174 q175 q176 q177 q178 q179 q180 q181 q182 q183 q184 q185 q186 q187 q188 q189 q190 q191 q192 q193 q194 q195 : Value) (W0 : World) (i96 i97 i98 i99 i100 i101 i102 i103 i104 i105 i106 i107 i108 i109 i110 i111 i112 i113 i114 i115 i116 i117 i118 : Value) (hkk : kk < en) (hen : en ≤ 2000) (hgb : gb < W0.heap.size) (heb : eb < W0.heap.size) (hlb : lb < W0.heap.size) (hg2 : W0.cell? ⟨gb, 2, none⟩ = some (.slice (some ⟨eb, eo, none⟩) en ec)) (het : W0.cell? ⟨eb, eo + kk * 21 + 1, none⟩ = some (.int .i64 (s : Int))) (hl0 : W0.cell? ⟨lb, 0, none⟩ = some (.int .i64 (h : Int))) (hsh : Hid (¬ s = h)) {Q : Exit → Act → World → Prop}
    (hQ : ∀ u13 u96 u97 u98 u99 u100 u101 u102 u103 u104 u105 u106 u107 u108 u109 u110 u111 u112 u113 u114 u115 u116 u117 u118 w, Below W0.heap.size W0 w → (u96 = .bool false) → (u97 = .bool false) → (u98 = .pointer (some ⟨gb, 2, none⟩)) → (u99 = .slice (some ⟨eb, eo, none⟩) en ec) → (u100 = .int .i64 (kk : Int)) → (u101 = .pointer (some ⟨eb, eo + kk * 21, none⟩)) → (u102 = .pointer (some ⟨eb, eo + kk * 21 + 1, none⟩)) → (u103 = .int .i64 (s : Int)) → (u104 = .pointer (some ⟨lb, 0, none⟩)) → (u105 = .int .i64 (h : Int)) → (u106 = .bool false) → (u107 = .bool false) → (u108 = undef) → (u109 = undef) → (u110 = undef) → (u111 = undef) → (u112 = undef) → (u113 = undef) → (u114 = undef) → (u115 = undef) → (u116 = undef) → (u117 = .bool false) → (u118 = .bool false) → (u13 = .bool false) → Q .normal (h1rAct gb lb kk q0 q2 q3 q4 q5 q6 q7 q8 q9 q10 q11 q14 q16 q17 q18 q19 q20 q21 q22 q23 q24 q25 q26 q27 q28 q29 q30 q31 q32 q33 q34 q35 q36 q37 q38 q39 q40 q41 q42 q43 q44 q45 q46 q47 q48 q49 q50 q51 q52 q53 q54 q55 q56 q57 q58 q59 q60 q61 q62 q63 q64 q65 q66 q67 q68 q69 q70 q71 q72 q73 q74 q75 q76 q77 q78 q79 q80 q81 q82 q83 q84 q85 q86 q87 q88 q89 q90 q91 q92 q93 q94 q95 q119 q120 q121 q122 q123 q124 q125 q126 q127 q128 q129 q130 q131 q132 q133 q134 q135 q136 q137 q138 q139 q140 q141 q142 q143 q144 q145 q146 q147 q148 q149 q150 q151 q152 q153 q154 q155 q156 q157 q158 q159 q160 q161 q162 q163 q164 q165 q166 q167 q168 q169 q170 q171 q172 q173 q174 q175 q176 q177 q178 q179 q180 q181 q182 q183 q184 q185 q186 q187 q188 q189 q190 q191 q192 q193 q194 q195 u13 u96 u97 u98 u99 u100 u101 u102 u103 u104 u105 u106 u107 u108 u109 u110 u111 u112 u113 u114 u115 u116 u117 u118) w) :
    (Code.region 18 #[{ dst := some 96, op := Op.move (Operand.tmp 13), type := 4, pos := "law.go:289", after := #[], guard := none }, { dst := some 97, op := Op.move (Operand.tmp 96), type := 4, pos := "law.go:289", after := #[{ on := 0, ground := Ground.data }], guard := none }, { dst := some 98, op := Op.fieldAddr 24 (Operand.tmp 1) 2, type := 0, pos := "law.go:289", after := #[{ on := 1, ground := Ground.guard }], guard := some (1, false) }, { dst := some 99, op := Op.load 22 (Operand.tmp 98), type := 22, pos := "law.go:289", after := #[{ on := 2, ground := Ground.data }, { on := 1, ground := Ground.guard }], guard := some (1, false) }, { dst := some 100, op := Op.move (Operand.tmp 15), type := 3, pos := "law.go:289", after := #[{ on := 1, ground := Ground.guard }], guard := some (1, false) }, { dst := some 101, op := Op.indexAddr 22 (Operand.tmp 99) (Operand.tmp 100), type := 0, pos := "law.go:289", after := #[{ on := 3, ground := Ground.data }, { on := 4, ground := Ground.data }, { on := 1, ground := Ground.guard }], guard := some (1, false) }, { dst := some 102, op := Op.fieldAddr 55 (Operand.tmp 101) 1, type := 0, pos := "law.go:289", after := #[{ on := 5, ground := Ground.data }, { on := 1, ground := Ground.guard }], guard := some (1, false) }, { dst := some 103, op := Op.load 3 (Operand.tmp 102), type := 3, pos := "law.go:289", after := #[{ on := 6, ground := Ground.data }, { on := 1, ground := Ground.guard }], guard := some (1, false) }, { dst := some 104, op := Op.fieldAddr 73 (Operand.tmp 12) 0, type := 0, pos := "law.go:289", after := #[{ on := 1, ground := Ground.guard }], guard := some (1, false) }, { dst := some 105, op := Op.load 3 (Operand.tmp 104), type := 3, pos := "law.go:289", after := #[{ on := 8, ground := Ground.data }, { on := 1, ground := Ground.guard }], guard := some (1, false) }, { dst := some 106, op := Op.binOp BinOp.eql 3 (Operand.tmp 103) (Operand.tmp 105) 3, type := 4, pos := "law.go:289", after := #[{ on := 7, ground := Ground.data }, { on := 9, ground := Ground.data }, { on := 1, ground := Ground.guard }], guard := some (1, false) }, { dst := some 107, op := Op.move (Operand.tmp 106), type := 4, pos := "law.go:289", after := #[{ on := 10, ground := Ground.data }, { on := 1, ground := Ground.chain }, { on := 1, ground := Ground.guard }], guard := some (1, false) }, { dst := some 108, op := Op.fieldAddr 73 (Operand.tmp 12) 1, type := 0, pos := "law.go:289", after := #[{ on := 11, ground := Ground.guard }], guard := some (11, true) }, { dst := some 109, op := Op.load 51 (Operand.tmp 108), type := 51, pos := "law.go:289", after := #[{ on := 12, ground := Ground.data }, { on := 11, ground := Ground.guard }], guard := some (11, true) }, { dst := some 110, op := Op.fieldAddr 24 (Operand.tmp 1) 2, type := 0, pos := "law.go:289", after := #[{ on := 11, ground := Ground.guard }], guard := some (11, true) }, { dst := some 111, op := Op.load 22 (Operand.tmp 110), type := 22, pos := "law.go:289", after := #[{ on := 14, ground := Ground.data }, { on := 11, ground := Ground.guard }], guard := some (11, true) }, { dst := some 112, op := Op.move (Operand.tmp 15), type := 3, pos := "law.go:289", after := #[{ on := 11, ground := Ground.guard }], guard := some (11, true) }, { dst := some 113, op := Op.indexAddr 22 (Operand.tmp 111) (Operand.tmp 112), type := 0, pos := "law.go:289", after := #[{ on := 15, ground := Ground.data }, { on := 16, ground := Ground.data }, { on := 11, ground := Ground.guard }], guard := some (11, true) }, { dst := some 114, op := Op.fieldAddr 55 (Operand.tmp 113) 0, type := 0, pos := "law.go:289", after := #[{ on := 17, ground := Ground.data }, { on := 11, ground := Ground.guard }], guard := some (11, true) }, { dst := some 115, op := Op.load 3 (Operand.tmp 114), type := 3, pos := "law.go:289", after := #[{ on := 18, ground := Ground.data }, { on := 11, ground := Ground.guard }], guard := some (11, true) }, { dst := some 116, op := Op.call { callee := Callee.value (Operand.func 40), args := #[Operand.tmp 109, Operand.tmp 115], argTypes := #[51, 3] }, type := 4, pos := "law.go:289", after := #[{ on := 13, ground := Ground.data }, { on := 19, ground := Ground.data }, { on := 11, ground := Ground.chain }, { on := 11, ground := Ground.guard }], guard := some (11, true) }, { dst := some 117, op := Op.pick (Operand.tmp 107) (Operand.tmp 116) (Operand.const (Value.bool false)), type := 4, pos := "law.go:289", after := #[{ on := 11, ground := Ground.data }, { on := 20, ground := Ground.data }, { on := 1, ground := Ground.guard }], guard := some (1, false) }, { dst := some 118, op := Op.pick (Operand.tmp 97) (Operand.const (Value.bool true)) (Operand.tmp 117), type := 4, pos := "law.go:289", after := #[{ on := 1, ground := Ground.data }, { on := 21, ground := Ground.data }], guard := none }, { dst := some 13, op := Op.assign (Operand.tmp 118), type := 4, pos := "law.go:289", after := #[{ on := 22, ground := Ground.data }, { on := 20, ground := Ground.chain }, { on := 0, ground := Ground.phase }, { on := 1, ground := Ground.phase }, { on := 2, ground := Ground.phase }, { on := 3, ground := Ground.phase }, { on := 4, ground := Ground.phase }, { on := 5, ground := Ground.phase }, { on := 6, ground := Ground.phase }, { on := 7, ground := Ground.phase }, { on := 8, ground := Ground.phase }, { on := 9, ground := Ground.phase }, { on := 10, ground := Ground.phase }, { on := 11, ground := Ground.phase }, { on := 12, ground := Ground.phase }, { on := 13, ground := Ground.phase }, { on := 14, ground := Ground.phase }, { on := 15, ground := Ground.phase }, { on := 16, ground := Ground.phase }, { on := 17, ground := Ground.phase }, { on := 18, ground := Ground.phase }, { on := 19, ground := Ground.phase }, { on := 20, ground := Ground.phase }, { on := 21, ground := Ground.phase }, { on := 22, ground := Ground.phase }], guard := none }] true).wp Try.prog Q (h1rAct gb lb kk q0 q2 q3 q4 q5 q6 q7 q8 q9 q10 q11 q14 q16 q17 q18 q19 q20 q21 q22 q23 q24 q25 q26 q27 q28 q29 q30 q31 q32 q33 q34 q35 q36 q37 q38 q39 q40 q41 q42 q43 q44 q45 q46 q47 q48 q49 q50 q51 q52 q53 q54 q55 q56 q57 q58 q59 q60 q61 q62 q63 q64 q65 q66 q67 q68 q69 q70 q71 q72 q73 q74 q75 q76 q77 q78 q79 q80 q81 q82 q83 q84 q85 q86 q87 q88 q89 q90 q91 q92 q93 q94 q95 q119 q120 q121 q122 q123 q124 q125 q126 q127 q128 q129 q130 q131 q132 q133 q134 q135 q136 q137 q138 q139 q140 q141 q142 q143 q144 q145 q146 q147 q148 q149 q150 q151 q152 q153 q154 q155 q156 q157 q158 q159 q160 q161 q162 q163 q164 q165 q166 q167 q168 q169 q170 q171 q172 q173 q174 q175 q176 q177 q178 q179 q180 q181 q182 q183 q184 q185 q186 q187 q188 q189 q190 q191 q192 q193 q194 q195 (.bool false) (i96) (i97) (i98) (i99) (i100) (i101) (i102) (i103) (i104) (i105) (i106) (i107) (i108) (i109) (i110) (i111) (i112) (i113) (i114) (i115) (i116) (i117) (i118)) W0 := by
  refine wp_region_inv (by kernel_rfl) (by kernel_rfl) (h1rI gb eb eo en ec lb kk s f h pb po pn pc z q0 q2 q3 q4 q5 q6 q7 q8 q9 q10 q11 q14 q16 q17 q18 q19 q20 q21 q22 q23 q24 q25 q26 q27 q28 q29 q30 q31 q32 q33 q34 q35 q36 q37 q38 q39 q40 q41 q42 q43 q44 q45 q46 q47 q48 q49 q50 q51 q52 q53 q54 q55 q56 q57 q58 q59 q60 q61 q62 q63 q64 q65 q66 q67 q68 q69 q70 q71 q72 q73 q74 q75 q76 q77 q78 q79 q80 q81 q82 q83 q84 q85 q86 q87 q88 q89 q90 q91 q92 q93 q94 q95 q119 q120 q121 q122 q123 q124 q125 q126 q127 q128 q129 q130 q131 q132 q133 q134 q135 q136 q137 q138 q139 q140 q141 q142 q143 q144 q145 q146 q147 q148 q149 q150 q151 q152 q153 q154 q155 q156 q157 q158 q159 q160 q161 q162 q163 q164 q165 q166 q167 q168 q169 q170 q171 q172 q173 q174 q175 q176 q177 q178 q179 q180 q181 q182 q183 q184 q185 q186 q187 q188 q189 q190 q191 q192 q193 q194 q195 W0) ?_ ?_ ?_
  · refine ⟨_, _, _, _, _, _, _, _, _, _, _, _, _, _, _, _, _, _, _, _, _, _, _, _, rfl, ⟨(Below.refl _ _).drew, fun _ => rfl, fun e => by simp at e⟩, ?_, ?_, ?_, ?_, ?_, ?_, ?_, ?_, ?_, ?_, ?_, ?_, ?_, ?_, ?_, ?_, ?_, ?_, ?_, ?_, ?_, ?_, ?_, ?_⟩ <;> (intro e; simp at e)
  · intro listed a w i o hI hs ho hl hd
    have hi9 : i < 24 := (Array.getElem?_eq_some_iff.1 ho).1
    obtain ⟨u13, u96, u97, u98, u99, u100, u101, u102, u103, u104, u105, u106, u107, u108, u109, u110, u111, u112, u113, u114, u115, u116, u117, u118, rfl, hB, h0, h1, h2, h3, h4, h5, h6, h7, h8, h9, h10, h11, h12, h13, h14, h15, h16, h17, h18, h19, h20, h21, h22, h23⟩ := hI
    rcases (show i = 0 ∨ i = 1 ∨ i = 2 ∨ i = 3 ∨ i = 4 ∨ i = 5 ∨ i = 6 ∨ i = 7 ∨ i = 8 ∨ i = 9 ∨ i = 10 ∨ i = 11 ∨ i = 12 ∨ i = 13 ∨ i = 14 ∨ i = 15 ∨ i = 16 ∨ i = 17 ∨ i = 18 ∨ i = 19 ∨ i = 20 ∨ i = 21 ∨ i = 22 ∨ i = 23 by omega) with rfl | rfl | rfl | rfl | rfl | rfl | rfl | rfl | rfl | rfl | rfl | rfl | rfl | rfl | rfl | rfl | rfl | rfl | rfl | rfl | rfl | rfl | rfl | rfl
    · have ho' : some _ = some o := ho
      cases ho'
      have hbw : Below w.heap.size w w := Below.refl _ _
      obtain ⟨hB, hB3, hB4⟩ := hB
      cases hq : listed.getD 23 false with
      | true => exact (no_both hl (hB4 hq)).elim
      | false =>
        have e13 := hB3 hq
        subst e13
        unfold h1rAct; go_simp
        exact ⟨.bool false, .bool false, u97, u98, u99, u100, u101, u102, u103, u104, u105, u106, u107, u108, u109, u110, u111, u112, u113, u114, u115, u116, u117, u118, rfl, ⟨hB, fun _ => rfl, fun e => absurd (lset_ne (by decide) e) (by rw [hq]; decide)⟩, fun _ => rfl, fun e1 => h1 (lset_ne (by decide) e1), fun e2 => h2 (lset_ne (by decide) e2), fun e3 => h3 (lset_ne (by decide) e3), fun e4 => h4 (lset_ne (by decide) e4), fun e5 => h5 (lset_ne (by decide) e5), fun e6 => h6 (lset_ne (by decide) e6), fun e7 => h7 (lset_ne (by decide) e7), fun e8 => h8 (lset_ne (by decide) e8), fun e9 => h9 (lset_ne (by decide) e9), fun e10 => h10 (lset_ne (by decide) e10), fun e11 => h11 (lset_ne (by decide) e11), fun e12 => h12 (lset_ne (by decide) e12), fun e13 => h13 (lset_ne (by decide) e13), fun e14 => h14 (lset_ne (by decide) e14), fun e15 => h15 (lset_ne (by decide) e15), fun e16 => h16 (lset_ne (by decide) e16), fun e17 => h17 (lset_ne (by decide) e17), fun e18 => h18 (lset_ne (by decide) e18), fun e19 => h19 (lset_ne (by decide) e19), fun e20 => h20 (lset_ne (by decide) e20), fun e21 => h21 (lset_ne (by decide) e21), fun e22 => h22 (lset_ne (by decide) e22), fun e23 => h23 (lset_ne (by decide) e23)⟩
    · have ho' : some _ = some o := ho
      cases ho'
      have d0 := hd { on := 0, ground := .data } (by simp) rfl
      have hbw : Below w.heap.size w w := Below.refl _ _
      obtain ⟨hB, hB3, hB4⟩ := hB
      have e0 := h0 d0
      subst e0
      unfold h1rAct; go_simp
      exact ⟨u13, .bool false, .bool false, u98, u99, u100, u101, u102, u103, u104, u105, u106, u107, u108, u109, u110, u111, u112, u113, u114, u115, u116, u117, u118, rfl, ⟨hB, fun e => hB3 (by rw [getD_set_ne false (by decide)] at e; exact e), fun e => lset_up (hB4 (lset_ne (by decide) e))⟩, fun e0 => h0 (lset_ne (by decide) e0), fun _ => rfl, fun e2 => h2 (lset_ne (by decide) e2), fun e3 => h3 (lset_ne (by decide) e3), fun e4 => h4 (lset_ne (by decide) e4), fun e5 => h5 (lset_ne (by decide) e5), fun e6 => h6 (lset_ne (by decide) e6), fun e7 => h7 (lset_ne (by decide) e7), fun e8 => h8 (lset_ne (by decide) e8), fun e9 => h9 (lset_ne (by decide) e9), fun e10 => h10 (lset_ne (by decide) e10), fun e11 => h11 (lset_ne (by decide) e11), fun e12 => h12 (lset_ne (by decide) e12), fun e13 => h13 (lset_ne (by decide) e13), fun e14 => h14 (lset_ne (by decide) e14), fun e15 => h15 (lset_ne (by decide) e15), fun e16 => h16 (lset_ne (by decide) e16), fun e17 => h17 (lset_ne (by decide) e17), fun e18 => h18 (lset_ne (by decide) e18), fun e19 => h19 (lset_ne (by decide) e19), fun e20 => h20 (lset_ne (by decide) e20), fun e21 => h21 (lset_ne (by decide) e21), fun e22 => h22 (lset_ne (by decide) e22), fun e23 => h23 (lset_ne (by decide) e23)⟩
    · have ho' : some _ = some o := ho
      cases ho'
      have d1 := hd { on := 1, ground := .guard } (by simp) rfl
      have hbw : Below w.heap.size w w := Below.refl _ _
      obtain ⟨hB, hB3, hB4⟩ := hB
      have e1 := h1 d1
      subst e1
      unfold h1rAct; go_simp
      exact ⟨u13, u96, .bool false, .pointer (some ⟨gb, 2, none⟩), u99, u100, u101, u102, u103, u104, u105, u106, u107, u108, u109, u110, u111, u112, u113, u114, u115, u116, u117, u118, rfl, ⟨hB, fun e => hB3 (by rw [getD_set_ne false (by decide)] at e; exact e), fun e => lset_up (hB4 (lset_ne (by decide) e))⟩, fun e0 => h0 (lset_ne (by decide) e0), fun e1 => h1 (lset_ne (by decide) e1), fun _ => rfl, fun e3 => h3 (lset_ne (by decide) e3), fun e4 => h4 (lset_ne (by decide) e4), fun e5 => h5 (lset_ne (by decide) e5), fun e6 => h6 (lset_ne (by decide) e6), fun e7 => h7 (lset_ne (by decide) e7), fun e8 => h8 (lset_ne (by decide) e8), fun e9 => h9 (lset_ne (by decide) e9), fun e10 => h10 (lset_ne (by decide) e10), fun e11 => h11 (lset_ne (by decide) e11), fun e12 => h12 (lset_ne (by decide) e12), fun e13 => h13 (lset_ne (by decide) e13), fun e14 => h14 (lset_ne (by decide) e14), fun e15 => h15 (lset_ne (by decide) e15), fun e16 => h16 (lset_ne (by decide) e16), fun e17 => h17 (lset_ne (by decide) e17), fun e18 => h18 (lset_ne (by decide) e18), fun e19 => h19 (lset_ne (by decide) e19), fun e20 => h20 (lset_ne (by decide) e20), fun e21 => h21 (lset_ne (by decide) e21), fun e22 => h22 (lset_ne (by decide) e22), fun e23 => h23 (lset_ne (by decide) e23)⟩
    · have ho' : some _ = some o := ho
      cases ho'
      have d2 := hd { on := 2, ground := .data } (by simp) rfl
      have d1 := hd { on := 1, ground := .guard } (by simp) rfl
      have hbw : Below w.heap.size w w := Below.refl _ _
      obtain ⟨hB, hB3, hB4⟩ := hB
      have c0 := (hB.cell (p := ⟨gb, 2, none⟩) hgb).trans hg2
      have e1 := h1 d1
      subst e1
      have e2 := h2 d2
      subst e2
      unfold h1rAct; go_simp
      exact ⟨u13, u96, .bool false, .pointer (some ⟨gb, 2, none⟩), .slice (some ⟨eb, eo, none⟩) en ec, u100, u101, u102, u103, u104, u105, u106, u107, u108, u109, u110, u111, u112, u113, u114, u115, u116, u117, u118, rfl, ⟨hB, fun e => hB3 (by rw [getD_set_ne false (by decide)] at e; exact e), fun e => lset_up (hB4 (lset_ne (by decide) e))⟩, fun e0 => h0 (lset_ne (by decide) e0), fun e1 => h1 (lset_ne (by decide) e1), fun e2 => h2 (lset_ne (by decide) e2), fun _ => rfl, fun e4 => h4 (lset_ne (by decide) e4), fun e5 => h5 (lset_ne (by decide) e5), fun e6 => h6 (lset_ne (by decide) e6), fun e7 => h7 (lset_ne (by decide) e7), fun e8 => h8 (lset_ne (by decide) e8), fun e9 => h9 (lset_ne (by decide) e9), fun e10 => h10 (lset_ne (by decide) e10), fun e11 => h11 (lset_ne (by decide) e11), fun e12 => h12 (lset_ne (by decide) e12), fun e13 => h13 (lset_ne (by decide) e13), fun e14 => h14 (lset_ne (by decide) e14), fun e15 => h15 (lset_ne (by decide) e15), fun e16 => h16 (lset_ne (by decide) e16), fun e17 => h17 (lset_ne (by decide) e17), fun e18 => h18 (lset_ne (by decide) e18), fun e19 => h19 (lset_ne (by decide) e19), fun e20 => h20 (lset_ne (by decide) e20), fun e21 => h21 (lset_ne (by decide) e21), fun e22 => h22 (lset_ne (by decide) e22), fun e23 => h23 (lset_ne (by decide) e23)⟩
    · have ho' : some _ = some o := ho
      cases ho'
      have d1 := hd { on := 1, ground := .guard } (by simp) rfl
      have hbw : Below w.heap.size w w := Below.refl _ _
      obtain ⟨hB, hB3, hB4⟩ := hB
      have e1 := h1 d1
      subst e1
      unfold h1rAct; go_simp
      exact ⟨u13, u96, .bool false, u98, u99, .int .i64 (kk : Int), u101, u102, u103, u104, u105, u106, u107, u108, u109, u110, u111, u112, u113, u114, u115, u116, u117, u118, rfl, ⟨hB, fun e => hB3 (by rw [getD_set_ne false (by decide)] at e; exact e), fun e => lset_up (hB4 (lset_ne (by decide) e))⟩, fun e0 => h0 (lset_ne (by decide) e0), fun e1 => h1 (lset_ne (by decide) e1), fun e2 => h2 (lset_ne (by decide) e2), fun e3 => h3 (lset_ne (by decide) e3), fun _ => rfl, fun e5 => h5 (lset_ne (by decide) e5), fun e6 => h6 (lset_ne (by decide) e6), fun e7 => h7 (lset_ne (by decide) e7), fun e8 => h8 (lset_ne (by decide) e8), fun e9 => h9 (lset_ne (by decide) e9), fun e10 => h10 (lset_ne (by decide) e10), fun e11 => h11 (lset_ne (by decide) e11), fun e12 => h12 (lset_ne (by decide) e12), fun e13 => h13 (lset_ne (by decide) e13), fun e14 => h14 (lset_ne (by decide) e14), fun e15 => h15 (lset_ne (by decide) e15), fun e16 => h16 (lset_ne (by decide) e16), fun e17 => h17 (lset_ne (by decide) e17), fun e18 => h18 (lset_ne (by decide) e18), fun e19 => h19 (lset_ne (by decide) e19), fun e20 => h20 (lset_ne (by decide) e20), fun e21 => h21 (lset_ne (by decide) e21), fun e22 => h22 (lset_ne (by decide) e22), fun e23 => h23 (lset_ne (by decide) e23)⟩
    · have ho' : some _ = some o := ho
      cases ho'
      have d3 := hd { on := 3, ground := .data } (by simp) rfl
      have d4 := hd { on := 4, ground := .data } (by simp) rfl
      have d1 := hd { on := 1, ground := .guard } (by simp) rfl
      have hbw : Below w.heap.size w w := Below.refl _ _
      obtain ⟨hB, hB3, hB4⟩ := hB
      have p0 : (0 : Int) ≤ (kk : Int) := by omega
      have p1 : (kk : Int) < (en : Int) := by omega
      have e1 := h1 d1
      subst e1
      have e3 := h3 d3
      subst e3
      have e4 := h4 d4
      subst e4
      unfold h1rAct; go_simp
      exact ⟨u13, u96, .bool false, u98, .slice (some ⟨eb, eo, none⟩) en ec, .int .i64 (kk : Int), .pointer (some ⟨eb, eo + kk * 21, none⟩), u102, u103, u104, u105, u106, u107, u108, u109, u110, u111, u112, u113, u114, u115, u116, u117, u118, rfl, ⟨hB, fun e => hB3 (by rw [getD_set_ne false (by decide)] at e; exact e), fun e => lset_up (hB4 (lset_ne (by decide) e))⟩, fun e0 => h0 (lset_ne (by decide) e0), fun e1 => h1 (lset_ne (by decide) e1), fun e2 => h2 (lset_ne (by decide) e2), fun e3 => h3 (lset_ne (by decide) e3), fun e4 => h4 (lset_ne (by decide) e4), fun _ => rfl, fun e6 => h6 (lset_ne (by decide) e6), fun e7 => h7 (lset_ne (by decide) e7), fun e8 => h8 (lset_ne (by decide) e8), fun e9 => h9 (lset_ne (by decide) e9), fun e10 => h10 (lset_ne (by decide) e10), fun e11 => h11 (lset_ne (by decide) e11), fun e12 => h12 (lset_ne (by decide) e12), fun e13 => h13 (lset_ne (by decide) e13), fun e14 => h14 (lset_ne (by decide) e14), fun e15 => h15 (lset_ne (by decide) e15), fun e16 => h16 (lset_ne (by decide) e16), fun e17 => h17 (lset_ne (by decide) e17), fun e18 => h18 (lset_ne (by decide) e18), fun e19 => h19 (lset_ne (by decide) e19), fun e20 => h20 (lset_ne (by decide) e20), fun e21 => h21 (lset_ne (by decide) e21), fun e22 => h22 (lset_ne (by decide) e22), fun e23 => h23 (lset_ne (by decide) e23)⟩
    · have ho' : some _ = some o := ho
      cases ho'
      have d5 := hd { on := 5, ground := .data } (by simp) rfl
      have d1 := hd { on := 1, ground := .guard } (by simp) rfl
      have hbw : Below w.heap.size w w := Below.refl _ _
      obtain ⟨hB, hB3, hB4⟩ := hB
      have e1 := h1 d1
      subst e1
      have e5 := h5 d5
      subst e5
      unfold h1rAct; go_simp
      exact ⟨u13, u96, .bool false, u98, u99, u100, .pointer (some ⟨eb, eo + kk * 21, none⟩), .pointer (some ⟨eb, eo + kk * 21 + 1, none⟩), u103, u104, u105, u106, u107, u108, u109, u110, u111, u112, u113, u114, u115, u116, u117, u118, rfl, ⟨hB, fun e => hB3 (by rw [getD_set_ne false (by decide)] at e; exact e), fun e => lset_up (hB4 (lset_ne (by decide) e))⟩, fun e0 => h0 (lset_ne (by decide) e0), fun e1 => h1 (lset_ne (by decide) e1), fun e2 => h2 (lset_ne (by decide) e2), fun e3 => h3 (lset_ne (by decide) e3), fun e4 => h4 (lset_ne (by decide) e4), fun e5 => h5 (lset_ne (by decide) e5), fun _ => rfl, fun e7 => h7 (lset_ne (by decide) e7), fun e8 => h8 (lset_ne (by decide) e8), fun e9 => h9 (lset_ne (by decide) e9), fun e10 => h10 (lset_ne (by decide) e10), fun e11 => h11 (lset_ne (by decide) e11), fun e12 => h12 (lset_ne (by decide) e12), fun e13 => h13 (lset_ne (by decide) e13), fun e14 => h14 (lset_ne (by decide) e14), fun e15 => h15 (lset_ne (by decide) e15), fun e16 => h16 (lset_ne (by decide) e16), fun e17 => h17 (lset_ne (by decide) e17), fun e18 => h18 (lset_ne (by decide) e18), fun e19 => h19 (lset_ne (by decide) e19), fun e20 => h20 (lset_ne (by decide) e20), fun e21 => h21 (lset_ne (by decide) e21), fun e22 => h22 (lset_ne (by decide) e22), fun e23 => h23 (lset_ne (by decide) e23)⟩
    · have ho' : some _ = some o := ho
      cases ho'
      have d6 := hd { on := 6, ground := .data } (by simp) rfl
      have d1 := hd { on := 1, ground := .guard } (by simp) rfl
      have hbw : Below w.heap.size w w := Below.refl _ _
      obtain ⟨hB, hB3, hB4⟩ := hB
      have c0 := (hB.cell (p := ⟨eb, eo + kk * 21 + 1, none⟩) heb).trans het
      have e1 := h1 d1
      subst e1
      have e6 := h6 d6
      subst e6
      unfold h1rAct; go_simp
      exact ⟨u13, u96, .bool false, u98, u99, u100, u101, .pointer (some ⟨eb, eo + kk * 21 + 1, none⟩), .int .i64 (s : Int), u104, u105, u106, u107, u108, u109, u110, u111, u112, u113, u114, u115, u116, u117, u118, rfl, ⟨hB, fun e => hB3 (by rw [getD_set_ne false (by decide)] at e; exact e), fun e => lset_up (hB4 (lset_ne (by decide) e))⟩, fun e0 => h0 (lset_ne (by decide) e0), fun e1 => h1 (lset_ne (by decide) e1), fun e2 => h2 (lset_ne (by decide) e2), fun e3 => h3 (lset_ne (by decide) e3), fun e4 => h4 (lset_ne (by decide) e4), fun e5 => h5 (lset_ne (by decide) e5), fun e6 => h6 (lset_ne (by decide) e6), fun _ => rfl, fun e8 => h8 (lset_ne (by decide) e8), fun e9 => h9 (lset_ne (by decide) e9), fun e10 => h10 (lset_ne (by decide) e10), fun e11 => h11 (lset_ne (by decide) e11), fun e12 => h12 (lset_ne (by decide) e12), fun e13 => h13 (lset_ne (by decide) e13), fun e14 => h14 (lset_ne (by decide) e14), fun e15 => h15 (lset_ne (by decide) e15), fun e16 => h16 (lset_ne (by decide) e16), fun e17 => h17 (lset_ne (by decide) e17), fun e18 => h18 (lset_ne (by decide) e18), fun e19 => h19 (lset_ne (by decide) e19), fun e20 => h20 (lset_ne (by decide) e20), fun e21 => h21 (lset_ne (by decide) e21), fun e22 => h22 (lset_ne (by decide) e22), fun e23 => h23 (lset_ne (by decide) e23)⟩
    · have ho' : some _ = some o := ho
      cases ho'
      have d1 := hd { on := 1, ground := .guard } (by simp) rfl
      have hbw : Below w.heap.size w w := Below.refl _ _
      obtain ⟨hB, hB3, hB4⟩ := hB
      have e1 := h1 d1
      subst e1
      unfold h1rAct; go_simp
      exact ⟨u13, u96, .bool false, u98, u99, u100, u101, u102, u103, .pointer (some ⟨lb, 0, none⟩), u105, u106, u107, u108, u109, u110, u111, u112, u113, u114, u115, u116, u117, u118, rfl, ⟨hB, fun e => hB3 (by rw [getD_set_ne false (by decide)] at e; exact e), fun e => lset_up (hB4 (lset_ne (by decide) e))⟩, fun e0 => h0 (lset_ne (by decide) e0), fun e1 => h1 (lset_ne (by decide) e1), fun e2 => h2 (lset_ne (by decide) e2), fun e3 => h3 (lset_ne (by decide) e3), fun e4 => h4 (lset_ne (by decide) e4), fun e5 => h5 (lset_ne (by decide) e5), fun e6 => h6 (lset_ne (by decide) e6), fun e7 => h7 (lset_ne (by decide) e7), fun _ => rfl, fun e9 => h9 (lset_ne (by decide) e9), fun e10 => h10 (lset_ne (by decide) e10), fun e11 => h11 (lset_ne (by decide) e11), fun e12 => h12 (lset_ne (by decide) e12), fun e13 => h13 (lset_ne (by decide) e13), fun e14 => h14 (lset_ne (by decide) e14), fun e15 => h15 (lset_ne (by decide) e15), fun e16 => h16 (lset_ne (by decide) e16), fun e17 => h17 (lset_ne (by decide) e17), fun e18 => h18 (lset_ne (by decide) e18), fun e19 => h19 (lset_ne (by decide) e19), fun e20 => h20 (lset_ne (by decide) e20), fun e21 => h21 (lset_ne (by decide) e21), fun e22 => h22 (lset_ne (by decide) e22), fun e23 => h23 (lset_ne (by decide) e23)⟩
    · have ho' : some _ = some o := ho
      cases ho'
      have d8 := hd { on := 8, ground := .data } (by simp) rfl
      have d1 := hd { on := 1, ground := .guard } (by simp) rfl
      have hbw : Below w.heap.size w w := Below.refl _ _
      obtain ⟨hB, hB3, hB4⟩ := hB
      have c0 := (hB.cell (p := ⟨lb, 0, none⟩) hlb).trans hl0
      have e1 := h1 d1
      subst e1
      have e8 := h8 d8
      subst e8
      unfold h1rAct; go_simp
      exact ⟨u13, u96, .bool false, u98, u99, u100, u101, u102, u103, .pointer (some ⟨lb, 0, none⟩), .int .i64 (h : Int), u106, u107, u108, u109, u110, u111, u112, u113, u114, u115, u116, u117, u118, rfl, ⟨hB, fun e => hB3 (by rw [getD_set_ne false (by decide)] at e; exact e), fun e => lset_up (hB4 (lset_ne (by decide) e))⟩, fun e0 => h0 (lset_ne (by decide) e0), fun e1 => h1 (lset_ne (by decide) e1), fun e2 => h2 (lset_ne (by decide) e2), fun e3 => h3 (lset_ne (by decide) e3), fun e4 => h4 (lset_ne (by decide) e4), fun e5 => h5 (lset_ne (by decide) e5), fun e6 => h6 (lset_ne (by decide) e6), fun e7 => h7 (lset_ne (by decide) e7), fun e8 => h8 (lset_ne (by decide) e8), fun _ => rfl, fun e10 => h10 (lset_ne (by decide) e10), fun e11 => h11 (lset_ne (by decide) e11), fun e12 => h12 (lset_ne (by decide) e12), fun e13 => h13 (lset_ne (by decide) e13), fun e14 => h14 (lset_ne (by decide) e14), fun e15 => h15 (lset_ne (by decide) e15), fun e16 => h16 (lset_ne (by decide) e16), fun e17 => h17 (lset_ne (by decide) e17), fun e18 => h18 (lset_ne (by decide) e18), fun e19 => h19 (lset_ne (by decide) e19), fun e20 => h20 (lset_ne (by decide) e20), fun e21 => h21 (lset_ne (by decide) e21), fun e22 => h22 (lset_ne (by decide) e22), fun e23 => h23 (lset_ne (by decide) e23)⟩
    · have ho' : some _ = some o := ho
      cases ho'
      have d7 := hd { on := 7, ground := .data } (by simp) rfl
      have d9 := hd { on := 9, ground := .data } (by simp) rfl
      have d1 := hd { on := 1, ground := .guard } (by simp) rfl
      have hbw : Below w.heap.size w w := Below.refl _ _
      obtain ⟨hB, hB3, hB4⟩ := hB
      have t9 : ((s : Int) == (h : Int)) = false := by rw [beq_eq_false_iff_ne]; have := hsh.out; omega
      have t8 : (s = h) = False := by simp; exact hsh.out
      have e1 := h1 d1
      subst e1
      have e7 := h7 d7
      subst e7
      have e9 := h9 d9
      subst e9
      unfold h1rAct; go_simp
      exact ⟨u13, u96, .bool false, u98, u99, u100, u101, u102, .int .i64 (s : Int), u104, .int .i64 (h : Int), .bool false, u107, u108, u109, u110, u111, u112, u113, u114, u115, u116, u117, u118, rfl, ⟨hB, fun e => hB3 (by rw [getD_set_ne false (by decide)] at e; exact e), fun e => lset_up (hB4 (lset_ne (by decide) e))⟩, fun e0 => h0 (lset_ne (by decide) e0), fun e1 => h1 (lset_ne (by decide) e1), fun e2 => h2 (lset_ne (by decide) e2), fun e3 => h3 (lset_ne (by decide) e3), fun e4 => h4 (lset_ne (by decide) e4), fun e5 => h5 (lset_ne (by decide) e5), fun e6 => h6 (lset_ne (by decide) e6), fun e7 => h7 (lset_ne (by decide) e7), fun e8 => h8 (lset_ne (by decide) e8), fun e9 => h9 (lset_ne (by decide) e9), fun _ => rfl, fun e11 => h11 (lset_ne (by decide) e11), fun e12 => h12 (lset_ne (by decide) e12), fun e13 => h13 (lset_ne (by decide) e13), fun e14 => h14 (lset_ne (by decide) e14), fun e15 => h15 (lset_ne (by decide) e15), fun e16 => h16 (lset_ne (by decide) e16), fun e17 => h17 (lset_ne (by decide) e17), fun e18 => h18 (lset_ne (by decide) e18), fun e19 => h19 (lset_ne (by decide) e19), fun e20 => h20 (lset_ne (by decide) e20), fun e21 => h21 (lset_ne (by decide) e21), fun e22 => h22 (lset_ne (by decide) e22), fun e23 => h23 (lset_ne (by decide) e23)⟩
    · have ho' : some _ = some o := ho
      cases ho'
      have d10 := hd { on := 10, ground := .data } (by simp) rfl
      have d1 := hd { on := 1, ground := .chain } (by simp) rfl
      have d1 := hd { on := 1, ground := .guard } (by simp) rfl
      have hbw : Below w.heap.size w w := Below.refl _ _
      obtain ⟨hB, hB3, hB4⟩ := hB
      have e1 := h1 d1
      subst e1
      have e10 := h10 d10
      subst e10
      unfold h1rAct; go_simp
      exact ⟨u13, u96, .bool false, u98, u99, u100, u101, u102, u103, u104, u105, .bool false, .bool false, u108, u109, u110, u111, u112, u113, u114, u115, u116, u117, u118, rfl, ⟨hB, fun e => hB3 (by rw [getD_set_ne false (by decide)] at e; exact e), fun e => lset_up (hB4 (lset_ne (by decide) e))⟩, fun e0 => h0 (lset_ne (by decide) e0), fun e1 => h1 (lset_ne (by decide) e1), fun e2 => h2 (lset_ne (by decide) e2), fun e3 => h3 (lset_ne (by decide) e3), fun e4 => h4 (lset_ne (by decide) e4), fun e5 => h5 (lset_ne (by decide) e5), fun e6 => h6 (lset_ne (by decide) e6), fun e7 => h7 (lset_ne (by decide) e7), fun e8 => h8 (lset_ne (by decide) e8), fun e9 => h9 (lset_ne (by decide) e9), fun e10 => h10 (lset_ne (by decide) e10), fun _ => rfl, fun e12 => h12 (lset_ne (by decide) e12), fun e13 => h13 (lset_ne (by decide) e13), fun e14 => h14 (lset_ne (by decide) e14), fun e15 => h15 (lset_ne (by decide) e15), fun e16 => h16 (lset_ne (by decide) e16), fun e17 => h17 (lset_ne (by decide) e17), fun e18 => h18 (lset_ne (by decide) e18), fun e19 => h19 (lset_ne (by decide) e19), fun e20 => h20 (lset_ne (by decide) e20), fun e21 => h21 (lset_ne (by decide) e21), fun e22 => h22 (lset_ne (by decide) e22), fun e23 => h23 (lset_ne (by decide) e23)⟩
    · have ho' : some _ = some o := ho
      cases ho'
      have d11 := hd { on := 11, ground := .guard } (by simp) rfl
      have hbw : Below w.heap.size w w := Below.refl _ _
      obtain ⟨hB, hB3, hB4⟩ := hB
      have e11 := h11 d11
      subst e11
      unfold h1rAct; go_simp
      exact ⟨u13, u96, u97, u98, u99, u100, u101, u102, u103, u104, u105, u106, .bool false, undef, u109, u110, u111, u112, u113, u114, u115, u116, u117, u118, rfl, ⟨hB, fun e => hB3 (by rw [getD_set_ne false (by decide)] at e; exact e), fun e => lset_up (hB4 (lset_ne (by decide) e))⟩, fun e0 => h0 (lset_ne (by decide) e0), fun e1 => h1 (lset_ne (by decide) e1), fun e2 => h2 (lset_ne (by decide) e2), fun e3 => h3 (lset_ne (by decide) e3), fun e4 => h4 (lset_ne (by decide) e4), fun e5 => h5 (lset_ne (by decide) e5), fun e6 => h6 (lset_ne (by decide) e6), fun e7 => h7 (lset_ne (by decide) e7), fun e8 => h8 (lset_ne (by decide) e8), fun e9 => h9 (lset_ne (by decide) e9), fun e10 => h10 (lset_ne (by decide) e10), fun e11 => h11 (lset_ne (by decide) e11), fun _ => rfl, fun e13 => h13 (lset_ne (by decide) e13), fun e14 => h14 (lset_ne (by decide) e14), fun e15 => h15 (lset_ne (by decide) e15), fun e16 => h16 (lset_ne (by decide) e16), fun e17 => h17 (lset_ne (by decide) e17), fun e18 => h18 (lset_ne (by decide) e18), fun e19 => h19 (lset_ne (by decide) e19), fun e20 => h20 (lset_ne (by decide) e20), fun e21 => h21 (lset_ne (by decide) e21), fun e22 => h22 (lset_ne (by decide) e22), fun e23 => h23 (lset_ne (by decide) e23)⟩
    · have ho' : some _ = some o := ho
      cases ho'
      have d12 := hd { on := 12, ground := .data } (by simp) rfl
      have d11 := hd { on := 11, ground := .guard } (by simp) rfl
      have hbw : Below w.heap.size w w := Below.refl _ _
      obtain ⟨hB, hB3, hB4⟩ := hB
      have e11 := h11 d11
      subst e11
      have e12 := h12 d12
      subst e12
      unfold h1rAct; go_simp
      exact ⟨u13, u96, u97, u98, u99, u100, u101, u102, u103, u104, u105, u106, .bool false, undef, undef, u110, u111, u112, u113, u114, u115, u116, u117, u118, rfl, ⟨hB, fun e => hB3 (by rw [getD_set_ne false (by decide)] at e; exact e), fun e => lset_up (hB4 (lset_ne (by decide) e))⟩, fun e0 => h0 (lset_ne (by decide) e0), fun e1 => h1 (lset_ne (by decide) e1), fun e2 => h2 (lset_ne (by decide) e2), fun e3 => h3 (lset_ne (by decide) e3), fun e4 => h4 (lset_ne (by decide) e4), fun e5 => h5 (lset_ne (by decide) e5), fun e6 => h6 (lset_ne (by decide) e6), fun e7 => h7 (lset_ne (by decide) e7), fun e8 => h8 (lset_ne (by decide) e8), fun e9 => h9 (lset_ne (by decide) e9), fun e10 => h10 (lset_ne (by decide) e10), fun e11 => h11 (lset_ne (by decide) e11), fun e12 => h12 (lset_ne (by decide) e12), fun _ => rfl, fun e14 => h14 (lset_ne (by decide) e14), fun e15 => h15 (lset_ne (by decide) e15), fun e16 => h16 (lset_ne (by decide) e16), fun e17 => h17 (lset_ne (by decide) e17), fun e18 => h18 (lset_ne (by decide) e18), fun e19 => h19 (lset_ne (by decide) e19), fun e20 => h20 (lset_ne (by decide) e20), fun e21 => h21 (lset_ne (by decide) e21), fun e22 => h22 (lset_ne (by decide) e22), fun e23 => h23 (lset_ne (by decide) e23)⟩
    · have ho' : some _ = some o := ho
      cases ho'
      have d11 := hd { on := 11, ground := .guard } (by simp) rfl
      have hbw : Below w.heap.size w w := Below.refl _ _
      obtain ⟨hB, hB3, hB4⟩ := hB
      have e11 := h11 d11
      subst e11
      unfold h1rAct; go_simp
      exact ⟨u13, u96, u97, u98, u99, u100, u101, u102, u103, u104, u105, u106, .bool false, u108, u109, undef, u111, u112, u113, u114, u115, u116, u117, u118, rfl, ⟨hB, fun e => hB3 (by rw [getD_set_ne false (by decide)] at e; exact e), fun e => lset_up (hB4 (lset_ne (by decide) e))⟩, fun e0 => h0 (lset_ne (by decide) e0), fun e1 => h1 (lset_ne (by decide) e1), fun e2 => h2 (lset_ne (by decide) e2), fun e3 => h3 (lset_ne (by decide) e3), fun e4 => h4 (lset_ne (by decide) e4), fun e5 => h5 (lset_ne (by decide) e5), fun e6 => h6 (lset_ne (by decide) e6), fun e7 => h7 (lset_ne (by decide) e7), fun e8 => h8 (lset_ne (by decide) e8), fun e9 => h9 (lset_ne (by decide) e9), fun e10 => h10 (lset_ne (by decide) e10), fun e11 => h11 (lset_ne (by decide) e11), fun e12 => h12 (lset_ne (by decide) e12), fun e13 => h13 (lset_ne (by decide) e13), fun _ => rfl, fun e15 => h15 (lset_ne (by decide) e15), fun e16 => h16 (lset_ne (by decide) e16), fun e17 => h17 (lset_ne (by decide) e17), fun e18 => h18 (lset_ne (by decide) e18), fun e19 => h19 (lset_ne (by decide) e19), fun e20 => h20 (lset_ne (by decide) e20), fun e21 => h21 (lset_ne (by decide) e21), fun e22 => h22 (lset_ne (by decide) e22), fun e23 => h23 (lset_ne (by decide) e23)⟩
    · have ho' : some _ = some o := ho
      cases ho'
      have d14 := hd { on := 14, ground := .data } (by simp) rfl
      have d11 := hd { on := 11, ground := .guard } (by simp) rfl
      have hbw : Below w.heap.size w w := Below.refl _ _
      obtain ⟨hB, hB3, hB4⟩ := hB
      have e11 := h11 d11
      subst e11
      have e14 := h14 d14
      subst e14
      unfold h1rAct; go_simp
      exact ⟨u13, u96, u97, u98, u99, u100, u101, u102, u103, u104, u105, u106, .bool false, u108, u109, undef, undef, u112, u113, u114, u115, u116, u117, u118, rfl, ⟨hB, fun e => hB3 (by rw [getD_set_ne false (by decide)] at e; exact e), fun e => lset_up (hB4 (lset_ne (by decide) e))⟩, fun e0 => h0 (lset_ne (by decide) e0), fun e1 => h1 (lset_ne (by decide) e1), fun e2 => h2 (lset_ne (by decide) e2), fun e3 => h3 (lset_ne (by decide) e3), fun e4 => h4 (lset_ne (by decide) e4), fun e5 => h5 (lset_ne (by decide) e5), fun e6 => h6 (lset_ne (by decide) e6), fun e7 => h7 (lset_ne (by decide) e7), fun e8 => h8 (lset_ne (by decide) e8), fun e9 => h9 (lset_ne (by decide) e9), fun e10 => h10 (lset_ne (by decide) e10), fun e11 => h11 (lset_ne (by decide) e11), fun e12 => h12 (lset_ne (by decide) e12), fun e13 => h13 (lset_ne (by decide) e13), fun e14 => h14 (lset_ne (by decide) e14), fun _ => rfl, fun e16 => h16 (lset_ne (by decide) e16), fun e17 => h17 (lset_ne (by decide) e17), fun e18 => h18 (lset_ne (by decide) e18), fun e19 => h19 (lset_ne (by decide) e19), fun e20 => h20 (lset_ne (by decide) e20), fun e21 => h21 (lset_ne (by decide) e21), fun e22 => h22 (lset_ne (by decide) e22), fun e23 => h23 (lset_ne (by decide) e23)⟩
    · have ho' : some _ = some o := ho
      cases ho'
      have d11 := hd { on := 11, ground := .guard } (by simp) rfl
      have hbw : Below w.heap.size w w := Below.refl _ _
      obtain ⟨hB, hB3, hB4⟩ := hB
      have e11 := h11 d11
      subst e11
      unfold h1rAct; go_simp
      exact ⟨u13, u96, u97, u98, u99, u100, u101, u102, u103, u104, u105, u106, .bool false, u108, u109, u110, u111, undef, u113, u114, u115, u116, u117, u118, rfl, ⟨hB, fun e => hB3 (by rw [getD_set_ne false (by decide)] at e; exact e), fun e => lset_up (hB4 (lset_ne (by decide) e))⟩, fun e0 => h0 (lset_ne (by decide) e0), fun e1 => h1 (lset_ne (by decide) e1), fun e2 => h2 (lset_ne (by decide) e2), fun e3 => h3 (lset_ne (by decide) e3), fun e4 => h4 (lset_ne (by decide) e4), fun e5 => h5 (lset_ne (by decide) e5), fun e6 => h6 (lset_ne (by decide) e6), fun e7 => h7 (lset_ne (by decide) e7), fun e8 => h8 (lset_ne (by decide) e8), fun e9 => h9 (lset_ne (by decide) e9), fun e10 => h10 (lset_ne (by decide) e10), fun e11 => h11 (lset_ne (by decide) e11), fun e12 => h12 (lset_ne (by decide) e12), fun e13 => h13 (lset_ne (by decide) e13), fun e14 => h14 (lset_ne (by decide) e14), fun e15 => h15 (lset_ne (by decide) e15), fun _ => rfl, fun e17 => h17 (lset_ne (by decide) e17), fun e18 => h18 (lset_ne (by decide) e18), fun e19 => h19 (lset_ne (by decide) e19), fun e20 => h20 (lset_ne (by decide) e20), fun e21 => h21 (lset_ne (by decide) e21), fun e22 => h22 (lset_ne (by decide) e22), fun e23 => h23 (lset_ne (by decide) e23)⟩
    · have ho' : some _ = some o := ho
      cases ho'
      have d15 := hd { on := 15, ground := .data } (by simp) rfl
      have d16 := hd { on := 16, ground := .data } (by simp) rfl
      have d11 := hd { on := 11, ground := .guard } (by simp) rfl
      have hbw : Below w.heap.size w w := Below.refl _ _
      obtain ⟨hB, hB3, hB4⟩ := hB
      have e11 := h11 d11
      subst e11
      have e15 := h15 d15
      subst e15
      have e16 := h16 d16
      subst e16
      unfold h1rAct; go_simp
      exact ⟨u13, u96, u97, u98, u99, u100, u101, u102, u103, u104, u105, u106, .bool false, u108, u109, u110, undef, undef, undef, u114, u115, u116, u117, u118, rfl, ⟨hB, fun e => hB3 (by rw [getD_set_ne false (by decide)] at e; exact e), fun e => lset_up (hB4 (lset_ne (by decide) e))⟩, fun e0 => h0 (lset_ne (by decide) e0), fun e1 => h1 (lset_ne (by decide) e1), fun e2 => h2 (lset_ne (by decide) e2), fun e3 => h3 (lset_ne (by decide) e3), fun e4 => h4 (lset_ne (by decide) e4), fun e5 => h5 (lset_ne (by decide) e5), fun e6 => h6 (lset_ne (by decide) e6), fun e7 => h7 (lset_ne (by decide) e7), fun e8 => h8 (lset_ne (by decide) e8), fun e9 => h9 (lset_ne (by decide) e9), fun e10 => h10 (lset_ne (by decide) e10), fun e11 => h11 (lset_ne (by decide) e11), fun e12 => h12 (lset_ne (by decide) e12), fun e13 => h13 (lset_ne (by decide) e13), fun e14 => h14 (lset_ne (by decide) e14), fun e15 => h15 (lset_ne (by decide) e15), fun e16 => h16 (lset_ne (by decide) e16), fun _ => rfl, fun e18 => h18 (lset_ne (by decide) e18), fun e19 => h19 (lset_ne (by decide) e19), fun e20 => h20 (lset_ne (by decide) e20), fun e21 => h21 (lset_ne (by decide) e21), fun e22 => h22 (lset_ne (by decide) e22), fun e23 => h23 (lset_ne (by decide) e23)⟩
    · have ho' : some _ = some o := ho
      cases ho'
      have d17 := hd { on := 17, ground := .data } (by simp) rfl
      have d11 := hd { on := 11, ground := .guard } (by simp) rfl
      have hbw : Below w.heap.size w w := Below.refl _ _
      obtain ⟨hB, hB3, hB4⟩ := hB
      have e11 := h11 d11
      subst e11
      have e17 := h17 d17
      subst e17
      unfold h1rAct; go_simp
      exact ⟨u13, u96, u97, u98, u99, u100, u101, u102, u103, u104, u105, u106, .bool false, u108, u109, u110, u111, u112, undef, undef, u115, u116, u117, u118, rfl, ⟨hB, fun e => hB3 (by rw [getD_set_ne false (by decide)] at e; exact e), fun e => lset_up (hB4 (lset_ne (by decide) e))⟩, fun e0 => h0 (lset_ne (by decide) e0), fun e1 => h1 (lset_ne (by decide) e1), fun e2 => h2 (lset_ne (by decide) e2), fun e3 => h3 (lset_ne (by decide) e3), fun e4 => h4 (lset_ne (by decide) e4), fun e5 => h5 (lset_ne (by decide) e5), fun e6 => h6 (lset_ne (by decide) e6), fun e7 => h7 (lset_ne (by decide) e7), fun e8 => h8 (lset_ne (by decide) e8), fun e9 => h9 (lset_ne (by decide) e9), fun e10 => h10 (lset_ne (by decide) e10), fun e11 => h11 (lset_ne (by decide) e11), fun e12 => h12 (lset_ne (by decide) e12), fun e13 => h13 (lset_ne (by decide) e13), fun e14 => h14 (lset_ne (by decide) e14), fun e15 => h15 (lset_ne (by decide) e15), fun e16 => h16 (lset_ne (by decide) e16), fun e17 => h17 (lset_ne (by decide) e17), fun _ => rfl, fun e19 => h19 (lset_ne (by decide) e19), fun e20 => h20 (lset_ne (by decide) e20), fun e21 => h21 (lset_ne (by decide) e21), fun e22 => h22 (lset_ne (by decide) e22), fun e23 => h23 (lset_ne (by decide) e23)⟩
    · have ho' : some _ = some o := ho
      cases ho'
      have d18 := hd { on := 18, ground := .data } (by simp) rfl
      have d11 := hd { on := 11, ground := .guard } (by simp) rfl
      have hbw : Below w.heap.size w w := Below.refl _ _
      obtain ⟨hB, hB3, hB4⟩ := hB
      have e11 := h11 d11
      subst e11
      have e18 := h18 d18
      subst e18
      unfold h1rAct; go_simp
      exact ⟨u13, u96, u97, u98, u99, u100, u101, u102, u103, u104, u105, u106, .bool false, u108, u109, u110, u111, u112, u113, undef, undef, u116, u117, u118, rfl, ⟨hB, fun e => hB3 (by rw [getD_set_ne false (by decide)] at e; exact e), fun e => lset_up (hB4 (lset_ne (by decide) e))⟩, fun e0 => h0 (lset_ne (by decide) e0), fun e1 => h1 (lset_ne (by decide) e1), fun e2 => h2 (lset_ne (by decide) e2), fun e3 => h3 (lset_ne (by decide) e3), fun e4 => h4 (lset_ne (by decide) e4), fun e5 => h5 (lset_ne (by decide) e5), fun e6 => h6 (lset_ne (by decide) e6), fun e7 => h7 (lset_ne (by decide) e7), fun e8 => h8 (lset_ne (by decide) e8), fun e9 => h9 (lset_ne (by decide) e9), fun e10 => h10 (lset_ne (by decide) e10), fun e11 => h11 (lset_ne (by decide) e11), fun e12 => h12 (lset_ne (by decide) e12), fun e13 => h13 (lset_ne (by decide) e13), fun e14 => h14 (lset_ne (by decide) e14), fun e15 => h15 (lset_ne (by decide) e15), fun e16 => h16 (lset_ne (by decide) e16), fun e17 => h17 (lset_ne (by decide) e17), fun e18 => h18 (lset_ne (by decide) e18), fun _ => rfl, fun e20 => h20 (lset_ne (by decide) e20), fun e21 => h21 (lset_ne (by decide) e21), fun e22 => h22 (lset_ne (by decide) e22), fun e23 => h23 (lset_ne (by decide) e23)⟩
    · have ho' : some _ = some o := ho
      cases ho'
      have d13 := hd { on := 13, ground := .data } (by simp) rfl
      have d19 := hd { on := 19, ground := .data } (by simp) rfl
      have d11 := hd { on := 11, ground := .chain } (by simp) rfl
      have d11 := hd { on := 11, ground := .guard } (by simp) rfl
      have hbw : Below w.heap.size w w := Below.refl _ _
      obtain ⟨hB, hB3, hB4⟩ := hB
      have e11 := h11 d11
      subst e11
      have e13 := h13 d13
      subst e13
      have e19 := h19 d19
      subst e19
      unfold h1rAct; go_simp
      exact ⟨u13, u96, u97, u98, u99, u100, u101, u102, u103, u104, u105, u106, .bool false, u108, undef, u110, u111, u112, u113, u114, undef, undef, u117, u118, rfl, ⟨hB, fun e => hB3 (by rw [getD_set_ne false (by decide)] at e; exact e), fun e => lset_up (hB4 (lset_ne (by decide) e))⟩, fun e0 => h0 (lset_ne (by decide) e0), fun e1 => h1 (lset_ne (by decide) e1), fun e2 => h2 (lset_ne (by decide) e2), fun e3 => h3 (lset_ne (by decide) e3), fun e4 => h4 (lset_ne (by decide) e4), fun e5 => h5 (lset_ne (by decide) e5), fun e6 => h6 (lset_ne (by decide) e6), fun e7 => h7 (lset_ne (by decide) e7), fun e8 => h8 (lset_ne (by decide) e8), fun e9 => h9 (lset_ne (by decide) e9), fun e10 => h10 (lset_ne (by decide) e10), fun e11 => h11 (lset_ne (by decide) e11), fun e12 => h12 (lset_ne (by decide) e12), fun e13 => h13 (lset_ne (by decide) e13), fun e14 => h14 (lset_ne (by decide) e14), fun e15 => h15 (lset_ne (by decide) e15), fun e16 => h16 (lset_ne (by decide) e16), fun e17 => h17 (lset_ne (by decide) e17), fun e18 => h18 (lset_ne (by decide) e18), fun e19 => h19 (lset_ne (by decide) e19), fun _ => rfl, fun e21 => h21 (lset_ne (by decide) e21), fun e22 => h22 (lset_ne (by decide) e22), fun e23 => h23 (lset_ne (by decide) e23)⟩
    · have ho' : some _ = some o := ho
      cases ho'
      have d11 := hd { on := 11, ground := .data } (by simp) rfl
      have d20 := hd { on := 20, ground := .data } (by simp) rfl
      have d1 := hd { on := 1, ground := .guard } (by simp) rfl
      have hbw : Below w.heap.size w w := Below.refl _ _
      obtain ⟨hB, hB3, hB4⟩ := hB
      have e1 := h1 d1
      subst e1
      have e11 := h11 d11
      subst e11
      have e20 := h20 d20
      subst e20
      unfold h1rAct; go_simp
      exact ⟨u13, u96, .bool false, u98, u99, u100, u101, u102, u103, u104, u105, u106, .bool false, u108, u109, u110, u111, u112, u113, u114, u115, undef, .bool false, u118, rfl, ⟨hB, fun e => hB3 (by rw [getD_set_ne false (by decide)] at e; exact e), fun e => lset_up (hB4 (lset_ne (by decide) e))⟩, fun e0 => h0 (lset_ne (by decide) e0), fun e1 => h1 (lset_ne (by decide) e1), fun e2 => h2 (lset_ne (by decide) e2), fun e3 => h3 (lset_ne (by decide) e3), fun e4 => h4 (lset_ne (by decide) e4), fun e5 => h5 (lset_ne (by decide) e5), fun e6 => h6 (lset_ne (by decide) e6), fun e7 => h7 (lset_ne (by decide) e7), fun e8 => h8 (lset_ne (by decide) e8), fun e9 => h9 (lset_ne (by decide) e9), fun e10 => h10 (lset_ne (by decide) e10), fun e11 => h11 (lset_ne (by decide) e11), fun e12 => h12 (lset_ne (by decide) e12), fun e13 => h13 (lset_ne (by decide) e13), fun e14 => h14 (lset_ne (by decide) e14), fun e15 => h15 (lset_ne (by decide) e15), fun e16 => h16 (lset_ne (by decide) e16), fun e17 => h17 (lset_ne (by decide) e17), fun e18 => h18 (lset_ne (by decide) e18), fun e19 => h19 (lset_ne (by decide) e19), fun e20 => h20 (lset_ne (by decide) e20), fun _ => rfl, fun e22 => h22 (lset_ne (by decide) e22), fun e23 => h23 (lset_ne (by decide) e23)⟩
    · have ho' : some _ = some o := ho
      cases ho'
      have d1 := hd { on := 1, ground := .data } (by simp) rfl
      have d21 := hd { on := 21, ground := .data } (by simp) rfl
      have hbw : Below w.heap.size w w := Below.refl _ _
      obtain ⟨hB, hB3, hB4⟩ := hB
      have e1 := h1 d1
      subst e1
      have e21 := h21 d21
      subst e21
      unfold h1rAct; go_simp
      exact ⟨u13, u96, .bool false, u98, u99, u100, u101, u102, u103, u104, u105, u106, u107, u108, u109, u110, u111, u112, u113, u114, u115, u116, .bool false, .bool false, rfl, ⟨hB, fun e => hB3 (by rw [getD_set_ne false (by decide)] at e; exact e), fun e => lset_up (hB4 (lset_ne (by decide) e))⟩, fun e0 => h0 (lset_ne (by decide) e0), fun e1 => h1 (lset_ne (by decide) e1), fun e2 => h2 (lset_ne (by decide) e2), fun e3 => h3 (lset_ne (by decide) e3), fun e4 => h4 (lset_ne (by decide) e4), fun e5 => h5 (lset_ne (by decide) e5), fun e6 => h6 (lset_ne (by decide) e6), fun e7 => h7 (lset_ne (by decide) e7), fun e8 => h8 (lset_ne (by decide) e8), fun e9 => h9 (lset_ne (by decide) e9), fun e10 => h10 (lset_ne (by decide) e10), fun e11 => h11 (lset_ne (by decide) e11), fun e12 => h12 (lset_ne (by decide) e12), fun e13 => h13 (lset_ne (by decide) e13), fun e14 => h14 (lset_ne (by decide) e14), fun e15 => h15 (lset_ne (by decide) e15), fun e16 => h16 (lset_ne (by decide) e16), fun e17 => h17 (lset_ne (by decide) e17), fun e18 => h18 (lset_ne (by decide) e18), fun e19 => h19 (lset_ne (by decide) e19), fun e20 => h20 (lset_ne (by decide) e20), fun e21 => h21 (lset_ne (by decide) e21), fun _ => rfl, fun e23 => h23 (lset_ne (by decide) e23)⟩
    · have ho' : some _ = some o := ho
      cases ho'
      have d22 := hd { on := 22, ground := .data } (by simp) rfl
      have d20 := hd { on := 20, ground := .chain } (by simp) rfl
      have d0 := hd { on := 0, ground := .phase } (by simp) rfl
      have d1 := hd { on := 1, ground := .phase } (by simp) rfl
      have d2 := hd { on := 2, ground := .phase } (by simp) rfl
      have d3 := hd { on := 3, ground := .phase } (by simp) rfl
      have d4 := hd { on := 4, ground := .phase } (by simp) rfl
      have d5 := hd { on := 5, ground := .phase } (by simp) rfl
      have d6 := hd { on := 6, ground := .phase } (by simp) rfl
      have d7 := hd { on := 7, ground := .phase } (by simp) rfl
      have d8 := hd { on := 8, ground := .phase } (by simp) rfl
      have d9 := hd { on := 9, ground := .phase } (by simp) rfl
      have d10 := hd { on := 10, ground := .phase } (by simp) rfl
      have d11 := hd { on := 11, ground := .phase } (by simp) rfl
      have d12 := hd { on := 12, ground := .phase } (by simp) rfl
      have d13 := hd { on := 13, ground := .phase } (by simp) rfl
      have d14 := hd { on := 14, ground := .phase } (by simp) rfl
      have d15 := hd { on := 15, ground := .phase } (by simp) rfl
      have d16 := hd { on := 16, ground := .phase } (by simp) rfl
      have d17 := hd { on := 17, ground := .phase } (by simp) rfl
      have d18 := hd { on := 18, ground := .phase } (by simp) rfl
      have d19 := hd { on := 19, ground := .phase } (by simp) rfl
      have d20 := hd { on := 20, ground := .phase } (by simp) rfl
      have d21 := hd { on := 21, ground := .phase } (by simp) rfl
      have d22 := hd { on := 22, ground := .phase } (by simp) rfl
      have hbw : Below w.heap.size w w := Below.refl _ _
      obtain ⟨hB, hB3, hB4⟩ := hB
      have e0 := h0 d0
      subst e0
      have e1 := h1 d1
      subst e1
      have e2 := h2 d2
      subst e2
      have e3 := h3 d3
      subst e3
      have e4 := h4 d4
      subst e4
      have e5 := h5 d5
      subst e5
      have e6 := h6 d6
      subst e6
      have e7 := h7 d7
      subst e7
      have e8 := h8 d8
      subst e8
      have e9 := h9 d9
      subst e9
      have e10 := h10 d10
      subst e10
      have e11 := h11 d11
      subst e11
      have e12 := h12 d12
      subst e12
      have e13 := h13 d13
      subst e13
      have e14 := h14 d14
      subst e14
      have e15 := h15 d15
      subst e15
      have e16 := h16 d16
      subst e16
      have e17 := h17 d17
      subst e17
      have e18 := h18 d18
      subst e18
      have e19 := h19 d19
      subst e19
      have e20 := h20 d20
      subst e20
      have e21 := h21 d21
      subst e21
      have e22 := h22 d22
      subst e22
      unfold h1rAct; go_simp
      exact ⟨.bool false, .bool false, .bool false, .pointer (some ⟨gb, 2, none⟩), .slice (some ⟨eb, eo, none⟩) en ec, .int .i64 (kk : Int), .pointer (some ⟨eb, eo + kk * 21, none⟩), .pointer (some ⟨eb, eo + kk * 21 + 1, none⟩), .int .i64 (s : Int), .pointer (some ⟨lb, 0, none⟩), .int .i64 (h : Int), .bool false, .bool false, undef, undef, undef, undef, undef, undef, undef, undef, undef, .bool false, .bool false, rfl, ⟨hB, fun (e : (listed.setIfInBounds 23 true).getD 23 false = false) => absurd (e.symm.trans (lset_eq (i := 23) hs (by decide))) (by decide), fun _ => lset_up d0⟩, fun e0 => h0 (lset_ne (by decide) e0), fun e1 => h1 (lset_ne (by decide) e1), fun e2 => h2 (lset_ne (by decide) e2), fun e3 => h3 (lset_ne (by decide) e3), fun e4 => h4 (lset_ne (by decide) e4), fun e5 => h5 (lset_ne (by decide) e5), fun e6 => h6 (lset_ne (by decide) e6), fun e7 => h7 (lset_ne (by decide) e7), fun e8 => h8 (lset_ne (by decide) e8), fun e9 => h9 (lset_ne (by decide) e9), fun e10 => h10 (lset_ne (by decide) e10), fun e11 => h11 (lset_ne (by decide) e11), fun e12 => h12 (lset_ne (by decide) e12), fun e13 => h13 (lset_ne (by decide) e13), fun e14 => h14 (lset_ne (by decide) e14), fun e15 => h15 (lset_ne (by decide) e15), fun e16 => h16 (lset_ne (by decide) e16), fun e17 => h17 (lset_ne (by decide) e17), fun e18 => h18 (lset_ne (by decide) e18), fun e19 => h19 (lset_ne (by decide) e19), fun e20 => h20 (lset_ne (by decide) e20), fun e21 => h21 (lset_ne (by decide) e21), fun e22 => h22 (lset_ne (by decide) e22), fun _ => rfl⟩
  · rintro listed a w ⟨u13, u96, u97, u98, u99, u100, u101, u102, u103, u104, u105, u106, u107, u108, u109, u110, u111, u112, u113, u114, u115, u116, u117, u118, rfl, hB, h0, h1, h2, h3, h4, h5, h6, h7, h8, h9, h10, h11, h12, h13, h14, h15, h16, h17, h18, h19, h20, h21, h22, h23⟩ hall
    exact hQ _ _ _ _ _ _ _ _ _ _ _ _ _ _ _ _ _ _ _ _ _ _ _ _ w hB.1 (h0 (hall 0 (by decide))) (h1 (hall 1 (by decide))) (h2 (hall 2 (by decide))) (h3 (hall 3 (by decide))) (h4 (hall 4 (by decide))) (h5 (hall 5 (by decide))) (h6 (hall 6 (by decide))) (h7 (hall 7 (by decide))) (h8 (hall 8 (by decide))) (h9 (hall 9 (by decide))) (h10 (hall 10 (by decide))) (h11 (hall 11 (by decide))) (h12 (hall 12 (by decide))) (h13 (hall 13 (by decide))) (h14 (hall 14 (by decide))) (h15 (hall 15 (by decide))) (h16 (hall 16 (by decide))) (h17 (hall 17 (by decide))) (h18 (hall 18 (by decide))) (h19 (hall 19 (by decide))) (h20 (hall 20 (by decide))) (h21 (hall 21 (by decide))) (h22 (hall 22 (by decide))) (h23 (hall 23 (by decide)))
end Go.Proofs.Ytjjkabgbcflipaa
