import Derived.Test.YtjjkabgbcflipaaCo1
set_option linter.unusedSimpArgs false
set_option linter.unusedVariables false
namespace Go.Proofs.Ytjjkabgbcflipaa
open Go Go.Proofs Go.RowKit Go.Shelf GM

def e2Act (tb tc P p eb ob co : Nat) (q0 q4 q5 q6 q7 q8 q9 q12 q13 q14 q15 q16 q17 q18 q19 q20 q21 q22 q23 q24 q25 q26 q27 q28 q29 q30 q31 q32 q33 q34 q35 q36 q37 q38 q39 q40 q41 u42 u43 u44 u45 u46 u47 u48 u49 u50 u51 u52 u53 u54 u55 u56 u57 u58 u59 u60 u61 u62 u63 u64 u65 u66 u67 u68 u69 u70 u71 : Value) : Act :=
  { tmps := #[q0, .slice (some ⟨tb, 0, none⟩) P tc, .slice (some ⟨ob, 0, none⟩) P co, .int .i64 (p : Int), q4, q5, q6, q7, q8, q9, .pointer (some ⟨eb, 0, none⟩), .bool true, q12, q13, q14, q15, q16, q17, q18, q19, q20, q21, q22, q23, q24, q25, q26, q27, q28, q29, q30, q31, q32, q33, q34, q35, q36, q37, q38, q39, q40, q41, u42, u43, u44, u45, u46, u47, u48, u49, u50, u51, u52, u53, u54, u55, u56, u57, u58, u59, u60, u61, u62, u63, u64, u65, u66, u67, u68, u69, u70, u71], defers := [] }
def e2I (tb tc P p eb s rp rs ob co : Nat) (ns : Int) (z : Bool) (q0 q4 q5 q6 q7 q8 q9 q12 q13 q14 q15 q16 q17 q18 q19 q20 q21 q22 q23 q24 q25 q26 q27 q28 q29 q30 q31 q32 q33 q34 q35 q36 q37 q38 q39 q40 q41 : Value) (W0 : World) (listed : Array Bool) (a : Act) (w : World) : Prop :=
  ∃ u42 u43 u44 u45 u46 u47 u48 u49 u50 u51 u52 u53 u54 u55 u56 u57 u58 u59 u60 u61 u62 u63 u64 u65 u66 u67 u68 u69 u70 u71, a = e2Act tb tc P p eb ob co q0 q4 q5 q6 q7 q8 q9 q12 q13 q14 q15 q16 q17 q18 q19 q20 q21 q22 q23 q24 q25 q26 q27 q28 q29 q30 q31 q32 q33 q34 q35 q36 q37 q38 q39 q40 q41 u42 u43 u44 u45 u46 u47 u48 u49 u50 u51 u52 u53 u54 u55 u56 u57 u58 u59 u60 u61 u62 u63 u64 u65 u66 u67 u68 u69 u70 u71 ∧ Below W0.heap.size W0 w ∧
    (listed.getD 0 false = true → u42 = .bool true) ∧
    (listed.getD 1 false = true → u43 = .bool true) ∧
    (listed.getD 2 false = true → u44 = .slice (some ⟨tb, 0, none⟩) P tc) ∧
    (listed.getD 3 false = true → u45 = .int .i64 (p : Int)) ∧
    (listed.getD 4 false = true → u46 = .pointer (some ⟨tb, p, none⟩)) ∧
    (listed.getD 5 false = true → u47 = .slice (some ⟨rp, 0, none⟩) P P) ∧
    (listed.getD 6 false = true → u48 = .pointer (some ⟨eb, 1, none⟩)) ∧
    (listed.getD 7 false = true → u49 = .int .i64 (s : Int)) ∧
    (listed.getD 8 false = true → u50 = .pointer (some ⟨rp, s, none⟩)) ∧
    (listed.getD 9 false = true → u51 = .bool true) ∧
    (listed.getD 10 false = true → u52 = .bool true) ∧
    (listed.getD 11 false = true → u53 = .slice (some ⟨tb, 0, none⟩) P tc) ∧
    (listed.getD 12 false = true → u54 = .pointer (some ⟨eb, 1, none⟩)) ∧
    (listed.getD 13 false = true → u55 = .int .i64 (s : Int)) ∧
    (listed.getD 14 false = true → u56 = .pointer (some ⟨tb, s, none⟩)) ∧
    (listed.getD 15 false = true → u57 = .slice (some ⟨rs, 0, none⟩) P P) ∧
    (listed.getD 16 false = true → u58 = .int .i64 (p : Int)) ∧
    (listed.getD 17 false = true → u59 = .pointer (some ⟨rs, p, none⟩)) ∧
    (listed.getD 18 false = true → u60 = .bool true) ∧
    (listed.getD 19 false = true → u61 = .bool true) ∧
    (listed.getD 20 false = true → u62 = .bool false) ∧
    (listed.getD 21 false = true → u63 = .bool false) ∧
    (listed.getD 22 false = true → u64 = .bool false) ∧
    (listed.getD 23 false = true → u65 = undef) ∧
    (listed.getD 24 false = true → u66 = undef) ∧
    (listed.getD 25 false = true → u67 = undef) ∧
    (listed.getD 26 false = true → u68 = undef) ∧
    (listed.getD 27 false = true → u69 = undef) ∧
    (listed.getD 28 false = true → u70 = undef) ∧
    (listed.getD 29 false = true → u71 = .bool false)
set_option maxRecDepth 20000 in
set_option maxHeartbeats 4000000 in
theorem e2_region (tb tc P p eb s rp rs ob co : Nat) (ns : Int) (z : Bool) (q0 q4 q5 q6 q7 q8 q9 q12 q13 q14 q15 q16 q17 q18 q19 q20 q21 q22 q23 q24 q25 q26 q27 q28 q29 q30 q31 q32 q33 q34 q35 q36 q37 q38 q39 q40 q41 : Value) (W0 : World) (i42 i43 i44 i45 i46 i47 i48 i49 i50 i51 i52 i53 i54 i55 i56 i57 i58 i59 i60 i61 i62 i63 i64 i65 i66 i67 i68 i69 i70 i71 : Value) (hp : p < P) (hs : s < P) (hP : P ≤ 1000) (ht : tb < W0.heap.size) (he : eb < W0.heap.size) (hrp : rp < W0.heap.size) (hrs : rs < W0.heap.size) (hob : ob < W0.heap.size) (htp : W0.cell? ⟨tb, p, none⟩ = some (.slice (some ⟨rp, 0, none⟩) P P)) (hts : W0.cell? ⟨tb, s, none⟩ = some (.slice (some ⟨rs, 0, none⟩) P P)) (hes : W0.cell? ⟨eb, 1, none⟩ = some (.int .i64 (s : Int))) (hc1 : W0.cell? ⟨rp, s, none⟩ = some (.bool true)) (hc2 : W0.cell? ⟨rs, p, none⟩ = some (.bool true))  {Q : Exit → Act → World → Prop}
    (hQ : ∀ u42 u43 u44 u45 u46 u47 u48 u49 u50 u51 u52 u53 u54 u55 u56 u57 u58 u59 u60 u61 u62 u63 u64 u65 u66 u67 u68 u69 u70 u71 w, Below W0.heap.size W0 w → (u42 = .bool true) → (u43 = .bool true) → (u44 = .slice (some ⟨tb, 0, none⟩) P tc) → (u45 = .int .i64 (p : Int)) → (u46 = .pointer (some ⟨tb, p, none⟩)) → (u47 = .slice (some ⟨rp, 0, none⟩) P P) → (u48 = .pointer (some ⟨eb, 1, none⟩)) → (u49 = .int .i64 (s : Int)) → (u50 = .pointer (some ⟨rp, s, none⟩)) → (u51 = .bool true) → (u52 = .bool true) → (u53 = .slice (some ⟨tb, 0, none⟩) P tc) → (u54 = .pointer (some ⟨eb, 1, none⟩)) → (u55 = .int .i64 (s : Int)) → (u56 = .pointer (some ⟨tb, s, none⟩)) → (u57 = .slice (some ⟨rs, 0, none⟩) P P) → (u58 = .int .i64 (p : Int)) → (u59 = .pointer (some ⟨rs, p, none⟩)) → (u60 = .bool true) → (u61 = .bool true) → (u62 = .bool false) → (u63 = .bool false) → (u64 = .bool false) → (u65 = undef) → (u66 = undef) → (u67 = undef) → (u68 = undef) → (u69 = undef) → (u70 = undef) → (u71 = .bool false) → Q .normal (e2Act tb tc P p eb ob co q0 q4 q5 q6 q7 q8 q9 q12 q13 q14 q15 q16 q17 q18 q19 q20 q21 q22 q23 q24 q25 q26 q27 q28 q29 q30 q31 q32 q33 q34 q35 q36 q37 q38 q39 q40 q41 u42 u43 u44 u45 u46 u47 u48 u49 u50 u51 u52 u53 u54 u55 u56 u57 u58 u59 u60 u61 u62 u63 u64 u65 u66 u67 u68 u69 u70 u71) w) :
    (Code.region 6 #[{ dst := some 42, op := Op.move (Operand.tmp 11), type := 4, pos := "ref.go:100", after := #[], guard := none }, { dst := some 43, op := Op.move (Operand.tmp 42), type := 4, pos := "ref.go:100", after := #[{ on := 0, ground := Ground.data }], guard := none }, { dst := some 44, op := Op.move (Operand.tmp 1), type := 116, pos := "ref.go:100", after := #[{ on := 1, ground := Ground.guard }], guard := some (1, true) }, { dst := some 45, op := Op.move (Operand.tmp 3), type := 3, pos := "ref.go:100", after := #[{ on := 1, ground := Ground.guard }], guard := some (1, true) }, { dst := some 46, op := Op.indexAddr 116 (Operand.tmp 44) (Operand.tmp 45), type := 0, pos := "ref.go:100", after := #[{ on := 2, ground := Ground.data }, { on := 3, ground := Ground.data }, { on := 1, ground := Ground.guard }], guard := some (1, true) }, { dst := some 47, op := Op.load 33 (Operand.tmp 46), type := 33, pos := "ref.go:100", after := #[{ on := 4, ground := Ground.data }, { on := 1, ground := Ground.guard }], guard := some (1, true) }, { dst := some 48, op := Op.fieldAddr 55 (Operand.tmp 10) 1, type := 0, pos := "ref.go:100", after := #[{ on := 1, ground := Ground.guard }], guard := some (1, true) }, { dst := some 49, op := Op.load 3 (Operand.tmp 48), type := 3, pos := "ref.go:100", after := #[{ on := 6, ground := Ground.data }, { on := 1, ground := Ground.guard }], guard := some (1, true) }, { dst := some 50, op := Op.indexAddr 33 (Operand.tmp 47) (Operand.tmp 49), type := 0, pos := "ref.go:100", after := #[{ on := 5, ground := Ground.data }, { on := 7, ground := Ground.data }, { on := 1, ground := Ground.guard }], guard := some (1, true) }, { dst := some 51, op := Op.load 4 (Operand.tmp 50), type := 4, pos := "ref.go:100", after := #[{ on := 8, ground := Ground.data }, { on := 1, ground := Ground.guard }], guard := some (1, true) }, { dst := some 52, op := Op.move (Operand.tmp 51), type := 4, pos := "ref.go:100", after := #[{ on := 9, ground := Ground.data }, { on := 1, ground := Ground.chain }, { on := 1, ground := Ground.guard }], guard := some (1, true) }, { dst := some 53, op := Op.move (Operand.tmp 1), type := 116, pos := "ref.go:100", after := #[{ on := 10, ground := Ground.guard }], guard := some (10, true) }, { dst := some 54, op := Op.fieldAddr 55 (Operand.tmp 10) 1, type := 0, pos := "ref.go:100", after := #[{ on := 10, ground := Ground.guard }], guard := some (10, true) }, { dst := some 55, op := Op.load 3 (Operand.tmp 54), type := 3, pos := "ref.go:100", after := #[{ on := 12, ground := Ground.data }, { on := 10, ground := Ground.guard }], guard := some (10, true) }, { dst := some 56, op := Op.indexAddr 116 (Operand.tmp 53) (Operand.tmp 55), type := 0, pos := "ref.go:100", after := #[{ on := 11, ground := Ground.data }, { on := 13, ground := Ground.data }, { on := 10, ground := Ground.guard }], guard := some (10, true) }, { dst := some 57, op := Op.load 33 (Operand.tmp 56), type := 33, pos := "ref.go:100", after := #[{ on := 14, ground := Ground.data }, { on := 10, ground := Ground.guard }], guard := some (10, true) }, { dst := some 58, op := Op.move (Operand.tmp 3), type := 3, pos := "ref.go:100", after := #[{ on := 10, ground := Ground.guard }], guard := some (10, true) }, { dst := some 59, op := Op.indexAddr 33 (Operand.tmp 57) (Operand.tmp 58), type := 0, pos := "ref.go:100", after := #[{ on := 15, ground := Ground.data }, { on := 16, ground := Ground.data }, { on := 10, ground := Ground.guard }], guard := some (10, true) }, { dst := some 60, op := Op.load 4 (Operand.tmp 59), type := 4, pos := "ref.go:100", after := #[{ on := 17, ground := Ground.data }, { on := 10, ground := Ground.guard }], guard := some (10, true) }, { dst := some 61, op := Op.pick (Operand.tmp 52) (Operand.tmp 60) (Operand.const (Value.bool false)), type := 4, pos := "ref.go:100", after := #[{ on := 10, ground := Ground.data }, { on := 18, ground := Ground.data }, { on := 1, ground := Ground.guard }], guard := some (1, true) }, { dst := some 62, op := Op.unOp UnOp.not 4 (Operand.tmp 61), type := 4, pos := "ref.go:100", after := #[{ on := 19, ground := Ground.data }, { on := 1, ground := Ground.guard }], guard := some (1, true) }, { dst := some 63, op := Op.pick (Operand.tmp 43) (Operand.tmp 62) (Operand.const (Value.bool false)), type := 4, pos := "ref.go:100", after := #[{ on := 1, ground := Ground.data }, { on := 20, ground := Ground.data }], guard := none }, { dst := some 64, op := Op.move (Operand.tmp 63), type := 4, pos := "ref.go:100", after := #[{ on := 21, ground := Ground.data }, { on := 10, ground := Ground.chain }], guard := none }, { dst := some 65, op := Op.move (Operand.tmp 2), type := 51, pos := "ref.go:100", after := #[{ on := 22, ground := Ground.guard }], guard := some (22, true) }, { dst := some 66, op := Op.fieldAddr 55 (Operand.tmp 10) 1, type := 0, pos := "ref.go:100", after := #[{ on := 22, ground := Ground.guard }], guard := some (22, true) }, { dst := some 67, op := Op.load 3 (Operand.tmp 66), type := 3, pos := "ref.go:100", after := #[{ on := 24, ground := Ground.data }, { on := 22, ground := Ground.guard }], guard := some (22, true) }, { dst := some 68, op := Op.indexAddr 51 (Operand.tmp 65) (Operand.tmp 67), type := 0, pos := "ref.go:100", after := #[{ on := 23, ground := Ground.data }, { on := 25, ground := Ground.data }, { on := 22, ground := Ground.guard }], guard := some (22, true) }, { dst := some 69, op := Op.load 3 (Operand.tmp 68), type := 3, pos := "ref.go:100", after := #[{ on := 26, ground := Ground.data }, { on := 22, ground := Ground.guard }], guard := some (22, true) }, { dst := some 70, op := Op.binOp BinOp.lss 3 (Operand.tmp 69) (Operand.const (Value.int IntKind.i64 0)) 3, type := 4, pos := "ref.go:100", after := #[{ on := 27, ground := Ground.data }, { on := 22, ground := Ground.guard }], guard := some (22, true) }, { dst := some 71, op := Op.pick (Operand.tmp 64) (Operand.tmp 70) (Operand.const (Value.bool false)), type := 4, pos := "ref.go:100", after := #[{ on := 22, ground := Ground.data }, { on := 28, ground := Ground.data }], guard := none }] true).wp Try.prog Q (e2Act tb tc P p eb ob co q0 q4 q5 q6 q7 q8 q9 q12 q13 q14 q15 q16 q17 q18 q19 q20 q21 q22 q23 q24 q25 q26 q27 q28 q29 q30 q31 q32 q33 q34 q35 q36 q37 q38 q39 q40 q41 (i42) (i43) (i44) (i45) (i46) (i47) (i48) (i49) (i50) (i51) (i52) (i53) (i54) (i55) (i56) (i57) (i58) (i59) (i60) (i61) (i62) (i63) (i64) (i65) (i66) (i67) (i68) (i69) (i70) (i71)) W0 := by
  refine wp_region_inv (by kernel_rfl) (by kernel_rfl) (e2I tb tc P p eb s rp rs ob co ns z q0 q4 q5 q6 q7 q8 q9 q12 q13 q14 q15 q16 q17 q18 q19 q20 q21 q22 q23 q24 q25 q26 q27 q28 q29 q30 q31 q32 q33 q34 q35 q36 q37 q38 q39 q40 q41 W0) ?_ ?_ ?_
  · refine ⟨_, _, _, _, _, _, _, _, _, _, _, _, _, _, _, _, _, _, _, _, _, _, _, _, _, _, _, _, _, _, rfl, (Below.refl _ _).drew, ?_, ?_, ?_, ?_, ?_, ?_, ?_, ?_, ?_, ?_, ?_, ?_, ?_, ?_, ?_, ?_, ?_, ?_, ?_, ?_, ?_, ?_, ?_, ?_, ?_, ?_, ?_, ?_, ?_, ?_⟩ <;> (intro e; simp at e)
  · intro listed a w i o hI hs ho hl hd
    have hi9 : i < 30 := (Array.getElem?_eq_some_iff.1 ho).1
    obtain ⟨u42, u43, u44, u45, u46, u47, u48, u49, u50, u51, u52, u53, u54, u55, u56, u57, u58, u59, u60, u61, u62, u63, u64, u65, u66, u67, u68, u69, u70, u71, rfl, hB, h0, h1, h2, h3, h4, h5, h6, h7, h8, h9, h10, h11, h12, h13, h14, h15, h16, h17, h18, h19, h20, h21, h22, h23, h24, h25, h26, h27, h28, h29⟩ := hI
    have hlB := hB.size
    rcases (show i = 0 ∨ i = 1 ∨ i = 2 ∨ i = 3 ∨ i = 4 ∨ i = 5 ∨ i = 6 ∨ i = 7 ∨ i = 8 ∨ i = 9 ∨ i = 10 ∨ i = 11 ∨ i = 12 ∨ i = 13 ∨ i = 14 ∨ i = 15 ∨ i = 16 ∨ i = 17 ∨ i = 18 ∨ i = 19 ∨ i = 20 ∨ i = 21 ∨ i = 22 ∨ i = 23 ∨ i = 24 ∨ i = 25 ∨ i = 26 ∨ i = 27 ∨ i = 28 ∨ i = 29 by omega) with rfl | rfl | rfl | rfl | rfl | rfl | rfl | rfl | rfl | rfl | rfl | rfl | rfl | rfl | rfl | rfl | rfl | rfl | rfl | rfl | rfl | rfl | rfl | rfl | rfl | rfl | rfl | rfl | rfl | rfl
    · have ho' : some _ = some o := ho
      cases ho'
      have hbw : Below w.heap.size w w := Below.refl _ _
      unfold e2Act; go_simp
      exact ⟨.bool true, u43, u44, u45, u46, u47, u48, u49, u50, u51, u52, u53, u54, u55, u56, u57, u58, u59, u60, u61, u62, u63, u64, u65, u66, u67, u68, u69, u70, u71, rfl, hB, fun _ => rfl, fun e1 => h1 (lset_ne (by decide) e1), fun e2 => h2 (lset_ne (by decide) e2), fun e3 => h3 (lset_ne (by decide) e3), fun e4 => h4 (lset_ne (by decide) e4), fun e5 => h5 (lset_ne (by decide) e5), fun e6 => h6 (lset_ne (by decide) e6), fun e7 => h7 (lset_ne (by decide) e7), fun e8 => h8 (lset_ne (by decide) e8), fun e9 => h9 (lset_ne (by decide) e9), fun e10 => h10 (lset_ne (by decide) e10), fun e11 => h11 (lset_ne (by decide) e11), fun e12 => h12 (lset_ne (by decide) e12), fun e13 => h13 (lset_ne (by decide) e13), fun e14 => h14 (lset_ne (by decide) e14), fun e15 => h15 (lset_ne (by decide) e15), fun e16 => h16 (lset_ne (by decide) e16), fun e17 => h17 (lset_ne (by decide) e17), fun e18 => h18 (lset_ne (by decide) e18), fun e19 => h19 (lset_ne (by decide) e19), fun e20 => h20 (lset_ne (by decide) e20), fun e21 => h21 (lset_ne (by decide) e21), fun e22 => h22 (lset_ne (by decide) e22), fun e23 => h23 (lset_ne (by decide) e23), fun e24 => h24 (lset_ne (by decide) e24), fun e25 => h25 (lset_ne (by decide) e25), fun e26 => h26 (lset_ne (by decide) e26), fun e27 => h27 (lset_ne (by decide) e27), fun e28 => h28 (lset_ne (by decide) e28), fun e29 => h29 (lset_ne (by decide) e29)⟩
    · have ho' : some _ = some o := ho
      cases ho'
      have d0 := hd { on := 0, ground := .data } (by simp) rfl
      have hbw : Below w.heap.size w w := Below.refl _ _
      have e0 := h0 d0
      subst e0
      unfold e2Act; go_simp
      exact ⟨.bool true, .bool true, u44, u45, u46, u47, u48, u49, u50, u51, u52, u53, u54, u55, u56, u57, u58, u59, u60, u61, u62, u63, u64, u65, u66, u67, u68, u69, u70, u71, rfl, hB, fun e0 => h0 (lset_ne (by decide) e0), fun _ => rfl, fun e2 => h2 (lset_ne (by decide) e2), fun e3 => h3 (lset_ne (by decide) e3), fun e4 => h4 (lset_ne (by decide) e4), fun e5 => h5 (lset_ne (by decide) e5), fun e6 => h6 (lset_ne (by decide) e6), fun e7 => h7 (lset_ne (by decide) e7), fun e8 => h8 (lset_ne (by decide) e8), fun e9 => h9 (lset_ne (by decide) e9), fun e10 => h10 (lset_ne (by decide) e10), fun e11 => h11 (lset_ne (by decide) e11), fun e12 => h12 (lset_ne (by decide) e12), fun e13 => h13 (lset_ne (by decide) e13), fun e14 => h14 (lset_ne (by decide) e14), fun e15 => h15 (lset_ne (by decide) e15), fun e16 => h16 (lset_ne (by decide) e16), fun e17 => h17 (lset_ne (by decide) e17), fun e18 => h18 (lset_ne (by decide) e18), fun e19 => h19 (lset_ne (by decide) e19), fun e20 => h20 (lset_ne (by decide) e20), fun e21 => h21 (lset_ne (by decide) e21), fun e22 => h22 (lset_ne (by decide) e22), fun e23 => h23 (lset_ne (by decide) e23), fun e24 => h24 (lset_ne (by decide) e24), fun e25 => h25 (lset_ne (by decide) e25), fun e26 => h26 (lset_ne (by decide) e26), fun e27 => h27 (lset_ne (by decide) e27), fun e28 => h28 (lset_ne (by decide) e28), fun e29 => h29 (lset_ne (by decide) e29)⟩
    · have ho' : some _ = some o := ho
      cases ho'
      have d1 := hd { on := 1, ground := .guard } (by simp) rfl
      have hbw : Below w.heap.size w w := Below.refl _ _
      have e1 := h1 d1
      subst e1
      unfold e2Act; go_simp
      exact ⟨u42, .bool true, .slice (some ⟨tb, 0, none⟩) P tc, u45, u46, u47, u48, u49, u50, u51, u52, u53, u54, u55, u56, u57, u58, u59, u60, u61, u62, u63, u64, u65, u66, u67, u68, u69, u70, u71, rfl, hB, fun e0 => h0 (lset_ne (by decide) e0), fun e1 => h1 (lset_ne (by decide) e1), fun _ => rfl, fun e3 => h3 (lset_ne (by decide) e3), fun e4 => h4 (lset_ne (by decide) e4), fun e5 => h5 (lset_ne (by decide) e5), fun e6 => h6 (lset_ne (by decide) e6), fun e7 => h7 (lset_ne (by decide) e7), fun e8 => h8 (lset_ne (by decide) e8), fun e9 => h9 (lset_ne (by decide) e9), fun e10 => h10 (lset_ne (by decide) e10), fun e11 => h11 (lset_ne (by decide) e11), fun e12 => h12 (lset_ne (by decide) e12), fun e13 => h13 (lset_ne (by decide) e13), fun e14 => h14 (lset_ne (by decide) e14), fun e15 => h15 (lset_ne (by decide) e15), fun e16 => h16 (lset_ne (by decide) e16), fun e17 => h17 (lset_ne (by decide) e17), fun e18 => h18 (lset_ne (by decide) e18), fun e19 => h19 (lset_ne (by decide) e19), fun e20 => h20 (lset_ne (by decide) e20), fun e21 => h21 (lset_ne (by decide) e21), fun e22 => h22 (lset_ne (by decide) e22), fun e23 => h23 (lset_ne (by decide) e23), fun e24 => h24 (lset_ne (by decide) e24), fun e25 => h25 (lset_ne (by decide) e25), fun e26 => h26 (lset_ne (by decide) e26), fun e27 => h27 (lset_ne (by decide) e27), fun e28 => h28 (lset_ne (by decide) e28), fun e29 => h29 (lset_ne (by decide) e29)⟩
    · have ho' : some _ = some o := ho
      cases ho'
      have d1 := hd { on := 1, ground := .guard } (by simp) rfl
      have hbw : Below w.heap.size w w := Below.refl _ _
      have e1 := h1 d1
      subst e1
      unfold e2Act; go_simp
      exact ⟨u42, .bool true, u44, .int .i64 (p : Int), u46, u47, u48, u49, u50, u51, u52, u53, u54, u55, u56, u57, u58, u59, u60, u61, u62, u63, u64, u65, u66, u67, u68, u69, u70, u71, rfl, hB, fun e0 => h0 (lset_ne (by decide) e0), fun e1 => h1 (lset_ne (by decide) e1), fun e2 => h2 (lset_ne (by decide) e2), fun _ => rfl, fun e4 => h4 (lset_ne (by decide) e4), fun e5 => h5 (lset_ne (by decide) e5), fun e6 => h6 (lset_ne (by decide) e6), fun e7 => h7 (lset_ne (by decide) e7), fun e8 => h8 (lset_ne (by decide) e8), fun e9 => h9 (lset_ne (by decide) e9), fun e10 => h10 (lset_ne (by decide) e10), fun e11 => h11 (lset_ne (by decide) e11), fun e12 => h12 (lset_ne (by decide) e12), fun e13 => h13 (lset_ne (by decide) e13), fun e14 => h14 (lset_ne (by decide) e14), fun e15 => h15 (lset_ne (by decide) e15), fun e16 => h16 (lset_ne (by decide) e16), fun e17 => h17 (lset_ne (by decide) e17), fun e18 => h18 (lset_ne (by decide) e18), fun e19 => h19 (lset_ne (by decide) e19), fun e20 => h20 (lset_ne (by decide) e20), fun e21 => h21 (lset_ne (by decide) e21), fun e22 => h22 (lset_ne (by decide) e22), fun e23 => h23 (lset_ne (by decide) e23), fun e24 => h24 (lset_ne (by decide) e24), fun e25 => h25 (lset_ne (by decide) e25), fun e26 => h26 (lset_ne (by decide) e26), fun e27 => h27 (lset_ne (by decide) e27), fun e28 => h28 (lset_ne (by decide) e28), fun e29 => h29 (lset_ne (by decide) e29)⟩
    · have ho' : some _ = some o := ho
      cases ho'
      have d2 := hd { on := 2, ground := .data } (by simp) rfl
      have d3 := hd { on := 3, ground := .data } (by simp) rfl
      have d1 := hd { on := 1, ground := .guard } (by simp) rfl
      have hbw : Below w.heap.size w w := Below.refl _ _
      have p0 : (0 : Int) ≤ (p : Int) := by omega
      have p1 : (p : Int) < (P : Int) := by omega
      have e1 := h1 d1
      subst e1
      have e2 := h2 d2
      subst e2
      have e3 := h3 d3
      subst e3
      unfold e2Act; go_simp
      exact ⟨u42, .bool true, .slice (some ⟨tb, 0, none⟩) P tc, .int .i64 (p : Int), .pointer (some ⟨tb, p, none⟩), u47, u48, u49, u50, u51, u52, u53, u54, u55, u56, u57, u58, u59, u60, u61, u62, u63, u64, u65, u66, u67, u68, u69, u70, u71, rfl, hB, fun e0 => h0 (lset_ne (by decide) e0), fun e1 => h1 (lset_ne (by decide) e1), fun e2 => h2 (lset_ne (by decide) e2), fun e3 => h3 (lset_ne (by decide) e3), fun _ => rfl, fun e5 => h5 (lset_ne (by decide) e5), fun e6 => h6 (lset_ne (by decide) e6), fun e7 => h7 (lset_ne (by decide) e7), fun e8 => h8 (lset_ne (by decide) e8), fun e9 => h9 (lset_ne (by decide) e9), fun e10 => h10 (lset_ne (by decide) e10), fun e11 => h11 (lset_ne (by decide) e11), fun e12 => h12 (lset_ne (by decide) e12), fun e13 => h13 (lset_ne (by decide) e13), fun e14 => h14 (lset_ne (by decide) e14), fun e15 => h15 (lset_ne (by decide) e15), fun e16 => h16 (lset_ne (by decide) e16), fun e17 => h17 (lset_ne (by decide) e17), fun e18 => h18 (lset_ne (by decide) e18), fun e19 => h19 (lset_ne (by decide) e19), fun e20 => h20 (lset_ne (by decide) e20), fun e21 => h21 (lset_ne (by decide) e21), fun e22 => h22 (lset_ne (by decide) e22), fun e23 => h23 (lset_ne (by decide) e23), fun e24 => h24 (lset_ne (by decide) e24), fun e25 => h25 (lset_ne (by decide) e25), fun e26 => h26 (lset_ne (by decide) e26), fun e27 => h27 (lset_ne (by decide) e27), fun e28 => h28 (lset_ne (by decide) e28), fun e29 => h29 (lset_ne (by decide) e29)⟩
    · have ho' : some _ = some o := ho
      cases ho'
      have d4 := hd { on := 4, ground := .data } (by simp) rfl
      have d1 := hd { on := 1, ground := .guard } (by simp) rfl
      have hbw : Below w.heap.size w w := Below.refl _ _
      have c0 := (hB.cell (p := ⟨tb, p, none⟩) ht).trans htp
      have e1 := h1 d1
      subst e1
      have e4 := h4 d4
      subst e4
      unfold e2Act; go_simp
      exact ⟨u42, .bool true, u44, u45, .pointer (some ⟨tb, p, none⟩), .slice (some ⟨rp, 0, none⟩) P P, u48, u49, u50, u51, u52, u53, u54, u55, u56, u57, u58, u59, u60, u61, u62, u63, u64, u65, u66, u67, u68, u69, u70, u71, rfl, hB, fun e0 => h0 (lset_ne (by decide) e0), fun e1 => h1 (lset_ne (by decide) e1), fun e2 => h2 (lset_ne (by decide) e2), fun e3 => h3 (lset_ne (by decide) e3), fun e4 => h4 (lset_ne (by decide) e4), fun _ => rfl, fun e6 => h6 (lset_ne (by decide) e6), fun e7 => h7 (lset_ne (by decide) e7), fun e8 => h8 (lset_ne (by decide) e8), fun e9 => h9 (lset_ne (by decide) e9), fun e10 => h10 (lset_ne (by decide) e10), fun e11 => h11 (lset_ne (by decide) e11), fun e12 => h12 (lset_ne (by decide) e12), fun e13 => h13 (lset_ne (by decide) e13), fun e14 => h14 (lset_ne (by decide) e14), fun e15 => h15 (lset_ne (by decide) e15), fun e16 => h16 (lset_ne (by decide) e16), fun e17 => h17 (lset_ne (by decide) e17), fun e18 => h18 (lset_ne (by decide) e18), fun e19 => h19 (lset_ne (by decide) e19), fun e20 => h20 (lset_ne (by decide) e20), fun e21 => h21 (lset_ne (by decide) e21), fun e22 => h22 (lset_ne (by decide) e22), fun e23 => h23 (lset_ne (by decide) e23), fun e24 => h24 (lset_ne (by decide) e24), fun e25 => h25 (lset_ne (by decide) e25), fun e26 => h26 (lset_ne (by decide) e26), fun e27 => h27 (lset_ne (by decide) e27), fun e28 => h28 (lset_ne (by decide) e28), fun e29 => h29 (lset_ne (by decide) e29)⟩
    · have ho' : some _ = some o := ho
      cases ho'
      have d1 := hd { on := 1, ground := .guard } (by simp) rfl
      have hbw : Below w.heap.size w w := Below.refl _ _
      have e1 := h1 d1
      subst e1
      unfold e2Act; go_simp
      exact ⟨u42, .bool true, u44, u45, u46, u47, .pointer (some ⟨eb, 1, none⟩), u49, u50, u51, u52, u53, u54, u55, u56, u57, u58, u59, u60, u61, u62, u63, u64, u65, u66, u67, u68, u69, u70, u71, rfl, hB, fun e0 => h0 (lset_ne (by decide) e0), fun e1 => h1 (lset_ne (by decide) e1), fun e2 => h2 (lset_ne (by decide) e2), fun e3 => h3 (lset_ne (by decide) e3), fun e4 => h4 (lset_ne (by decide) e4), fun e5 => h5 (lset_ne (by decide) e5), fun _ => rfl, fun e7 => h7 (lset_ne (by decide) e7), fun e8 => h8 (lset_ne (by decide) e8), fun e9 => h9 (lset_ne (by decide) e9), fun e10 => h10 (lset_ne (by decide) e10), fun e11 => h11 (lset_ne (by decide) e11), fun e12 => h12 (lset_ne (by decide) e12), fun e13 => h13 (lset_ne (by decide) e13), fun e14 => h14 (lset_ne (by decide) e14), fun e15 => h15 (lset_ne (by decide) e15), fun e16 => h16 (lset_ne (by decide) e16), fun e17 => h17 (lset_ne (by decide) e17), fun e18 => h18 (lset_ne (by decide) e18), fun e19 => h19 (lset_ne (by decide) e19), fun e20 => h20 (lset_ne (by decide) e20), fun e21 => h21 (lset_ne (by decide) e21), fun e22 => h22 (lset_ne (by decide) e22), fun e23 => h23 (lset_ne (by decide) e23), fun e24 => h24 (lset_ne (by decide) e24), fun e25 => h25 (lset_ne (by decide) e25), fun e26 => h26 (lset_ne (by decide) e26), fun e27 => h27 (lset_ne (by decide) e27), fun e28 => h28 (lset_ne (by decide) e28), fun e29 => h29 (lset_ne (by decide) e29)⟩
    · have ho' : some _ = some o := ho
      cases ho'
      have d6 := hd { on := 6, ground := .data } (by simp) rfl
      have d1 := hd { on := 1, ground := .guard } (by simp) rfl
      have hbw : Below w.heap.size w w := Below.refl _ _
      have c0 := (hB.cell (p := ⟨eb, 1, none⟩) he).trans hes
      have e1 := h1 d1
      subst e1
      have e6 := h6 d6
      subst e6
      unfold e2Act; go_simp
      exact ⟨u42, .bool true, u44, u45, u46, u47, .pointer (some ⟨eb, 1, none⟩), .int .i64 (s : Int), u50, u51, u52, u53, u54, u55, u56, u57, u58, u59, u60, u61, u62, u63, u64, u65, u66, u67, u68, u69, u70, u71, rfl, hB, fun e0 => h0 (lset_ne (by decide) e0), fun e1 => h1 (lset_ne (by decide) e1), fun e2 => h2 (lset_ne (by decide) e2), fun e3 => h3 (lset_ne (by decide) e3), fun e4 => h4 (lset_ne (by decide) e4), fun e5 => h5 (lset_ne (by decide) e5), fun e6 => h6 (lset_ne (by decide) e6), fun _ => rfl, fun e8 => h8 (lset_ne (by decide) e8), fun e9 => h9 (lset_ne (by decide) e9), fun e10 => h10 (lset_ne (by decide) e10), fun e11 => h11 (lset_ne (by decide) e11), fun e12 => h12 (lset_ne (by decide) e12), fun e13 => h13 (lset_ne (by decide) e13), fun e14 => h14 (lset_ne (by decide) e14), fun e15 => h15 (lset_ne (by decide) e15), fun e16 => h16 (lset_ne (by decide) e16), fun e17 => h17 (lset_ne (by decide) e17), fun e18 => h18 (lset_ne (by decide) e18), fun e19 => h19 (lset_ne (by decide) e19), fun e20 => h20 (lset_ne (by decide) e20), fun e21 => h21 (lset_ne (by decide) e21), fun e22 => h22 (lset_ne (by decide) e22), fun e23 => h23 (lset_ne (by decide) e23), fun e24 => h24 (lset_ne (by decide) e24), fun e25 => h25 (lset_ne (by decide) e25), fun e26 => h26 (lset_ne (by decide) e26), fun e27 => h27 (lset_ne (by decide) e27), fun e28 => h28 (lset_ne (by decide) e28), fun e29 => h29 (lset_ne (by decide) e29)⟩
    · have ho' : some _ = some o := ho
      cases ho'
      have d5 := hd { on := 5, ground := .data } (by simp) rfl
      have d7 := hd { on := 7, ground := .data } (by simp) rfl
      have d1 := hd { on := 1, ground := .guard } (by simp) rfl
      have hbw : Below w.heap.size w w := Below.refl _ _
      have p0 : (0 : Int) ≤ (s : Int) := by omega
      have p1 : (s : Int) < (P : Int) := by omega
      have e1 := h1 d1
      subst e1
      have e5 := h5 d5
      subst e5
      have e7 := h7 d7
      subst e7
      unfold e2Act; go_simp
      exact ⟨u42, .bool true, u44, u45, u46, .slice (some ⟨rp, 0, none⟩) P P, u48, .int .i64 (s : Int), .pointer (some ⟨rp, s, none⟩), u51, u52, u53, u54, u55, u56, u57, u58, u59, u60, u61, u62, u63, u64, u65, u66, u67, u68, u69, u70, u71, rfl, hB, fun e0 => h0 (lset_ne (by decide) e0), fun e1 => h1 (lset_ne (by decide) e1), fun e2 => h2 (lset_ne (by decide) e2), fun e3 => h3 (lset_ne (by decide) e3), fun e4 => h4 (lset_ne (by decide) e4), fun e5 => h5 (lset_ne (by decide) e5), fun e6 => h6 (lset_ne (by decide) e6), fun e7 => h7 (lset_ne (by decide) e7), fun _ => rfl, fun e9 => h9 (lset_ne (by decide) e9), fun e10 => h10 (lset_ne (by decide) e10), fun e11 => h11 (lset_ne (by decide) e11), fun e12 => h12 (lset_ne (by decide) e12), fun e13 => h13 (lset_ne (by decide) e13), fun e14 => h14 (lset_ne (by decide) e14), fun e15 => h15 (lset_ne (by decide) e15), fun e16 => h16 (lset_ne (by decide) e16), fun e17 => h17 (lset_ne (by decide) e17), fun e18 => h18 (lset_ne (by decide) e18), fun e19 => h19 (lset_ne (by decide) e19), fun e20 => h20 (lset_ne (by decide) e20), fun e21 => h21 (lset_ne (by decide) e21), fun e22 => h22 (lset_ne (by decide) e22), fun e23 => h23 (lset_ne (by decide) e23), fun e24 => h24 (lset_ne (by decide) e24), fun e25 => h25 (lset_ne (by decide) e25), fun e26 => h26 (lset_ne (by decide) e26), fun e27 => h27 (lset_ne (by decide) e27), fun e28 => h28 (lset_ne (by decide) e28), fun e29 => h29 (lset_ne (by decide) e29)⟩
    · have ho' : some _ = some o := ho
      cases ho'
      have d8 := hd { on := 8, ground := .data } (by simp) rfl
      have d1 := hd { on := 1, ground := .guard } (by simp) rfl
      have hbw : Below w.heap.size w w := Below.refl _ _
      have c0 := (hB.cell (p := ⟨rp, s, none⟩) hrp).trans hc1
      have e1 := h1 d1
      subst e1
      have e8 := h8 d8
      subst e8
      unfold e2Act; go_simp
      exact ⟨u42, .bool true, u44, u45, u46, u47, u48, u49, .pointer (some ⟨rp, s, none⟩), .bool true, u52, u53, u54, u55, u56, u57, u58, u59, u60, u61, u62, u63, u64, u65, u66, u67, u68, u69, u70, u71, rfl, hB, fun e0 => h0 (lset_ne (by decide) e0), fun e1 => h1 (lset_ne (by decide) e1), fun e2 => h2 (lset_ne (by decide) e2), fun e3 => h3 (lset_ne (by decide) e3), fun e4 => h4 (lset_ne (by decide) e4), fun e5 => h5 (lset_ne (by decide) e5), fun e6 => h6 (lset_ne (by decide) e6), fun e7 => h7 (lset_ne (by decide) e7), fun e8 => h8 (lset_ne (by decide) e8), fun _ => rfl, fun e10 => h10 (lset_ne (by decide) e10), fun e11 => h11 (lset_ne (by decide) e11), fun e12 => h12 (lset_ne (by decide) e12), fun e13 => h13 (lset_ne (by decide) e13), fun e14 => h14 (lset_ne (by decide) e14), fun e15 => h15 (lset_ne (by decide) e15), fun e16 => h16 (lset_ne (by decide) e16), fun e17 => h17 (lset_ne (by decide) e17), fun e18 => h18 (lset_ne (by decide) e18), fun e19 => h19 (lset_ne (by decide) e19), fun e20 => h20 (lset_ne (by decide) e20), fun e21 => h21 (lset_ne (by decide) e21), fun e22 => h22 (lset_ne (by decide) e22), fun e23 => h23 (lset_ne (by decide) e23), fun e24 => h24 (lset_ne (by decide) e24), fun e25 => h25 (lset_ne (by decide) e25), fun e26 => h26 (lset_ne (by decide) e26), fun e27 => h27 (lset_ne (by decide) e27), fun e28 => h28 (lset_ne (by decide) e28), fun e29 => h29 (lset_ne (by decide) e29)⟩
    · have ho' : some _ = some o := ho
      cases ho'
      have d9 := hd { on := 9, ground := .data } (by simp) rfl
      have d1 := hd { on := 1, ground := .chain } (by simp) rfl
      have d1 := hd { on := 1, ground := .guard } (by simp) rfl
      have hbw : Below w.heap.size w w := Below.refl _ _
      have e1 := h1 d1
      subst e1
      have e9 := h9 d9
      subst e9
      unfold e2Act; go_simp
      exact ⟨u42, .bool true, u44, u45, u46, u47, u48, u49, u50, .bool true, .bool true, u53, u54, u55, u56, u57, u58, u59, u60, u61, u62, u63, u64, u65, u66, u67, u68, u69, u70, u71, rfl, hB, fun e0 => h0 (lset_ne (by decide) e0), fun e1 => h1 (lset_ne (by decide) e1), fun e2 => h2 (lset_ne (by decide) e2), fun e3 => h3 (lset_ne (by decide) e3), fun e4 => h4 (lset_ne (by decide) e4), fun e5 => h5 (lset_ne (by decide) e5), fun e6 => h6 (lset_ne (by decide) e6), fun e7 => h7 (lset_ne (by decide) e7), fun e8 => h8 (lset_ne (by decide) e8), fun e9 => h9 (lset_ne (by decide) e9), fun _ => rfl, fun e11 => h11 (lset_ne (by decide) e11), fun e12 => h12 (lset_ne (by decide) e12), fun e13 => h13 (lset_ne (by decide) e13), fun e14 => h14 (lset_ne (by decide) e14), fun e15 => h15 (lset_ne (by decide) e15), fun e16 => h16 (lset_ne (by decide) e16), fun e17 => h17 (lset_ne (by decide) e17), fun e18 => h18 (lset_ne (by decide) e18), fun e19 => h19 (lset_ne (by decide) e19), fun e20 => h20 (lset_ne (by decide) e20), fun e21 => h21 (lset_ne (by decide) e21), fun e22 => h22 (lset_ne (by decide) e22), fun e23 => h23 (lset_ne (by decide) e23), fun e24 => h24 (lset_ne (by decide) e24), fun e25 => h25 (lset_ne (by decide) e25), fun e26 => h26 (lset_ne (by decide) e26), fun e27 => h27 (lset_ne (by decide) e27), fun e28 => h28 (lset_ne (by decide) e28), fun e29 => h29 (lset_ne (by decide) e29)⟩
    · have ho' : some _ = some o := ho
      cases ho'
      have d10 := hd { on := 10, ground := .guard } (by simp) rfl
      have hbw : Below w.heap.size w w := Below.refl _ _
      have e10 := h10 d10
      subst e10
      unfold e2Act; go_simp
      exact ⟨u42, u43, u44, u45, u46, u47, u48, u49, u50, u51, .bool true, .slice (some ⟨tb, 0, none⟩) P tc, u54, u55, u56, u57, u58, u59, u60, u61, u62, u63, u64, u65, u66, u67, u68, u69, u70, u71, rfl, hB, fun e0 => h0 (lset_ne (by decide) e0), fun e1 => h1 (lset_ne (by decide) e1), fun e2 => h2 (lset_ne (by decide) e2), fun e3 => h3 (lset_ne (by decide) e3), fun e4 => h4 (lset_ne (by decide) e4), fun e5 => h5 (lset_ne (by decide) e5), fun e6 => h6 (lset_ne (by decide) e6), fun e7 => h7 (lset_ne (by decide) e7), fun e8 => h8 (lset_ne (by decide) e8), fun e9 => h9 (lset_ne (by decide) e9), fun e10 => h10 (lset_ne (by decide) e10), fun _ => rfl, fun e12 => h12 (lset_ne (by decide) e12), fun e13 => h13 (lset_ne (by decide) e13), fun e14 => h14 (lset_ne (by decide) e14), fun e15 => h15 (lset_ne (by decide) e15), fun e16 => h16 (lset_ne (by decide) e16), fun e17 => h17 (lset_ne (by decide) e17), fun e18 => h18 (lset_ne (by decide) e18), fun e19 => h19 (lset_ne (by decide) e19), fun e20 => h20 (lset_ne (by decide) e20), fun e21 => h21 (lset_ne (by decide) e21), fun e22 => h22 (lset_ne (by decide) e22), fun e23 => h23 (lset_ne (by decide) e23), fun e24 => h24 (lset_ne (by decide) e24), fun e25 => h25 (lset_ne (by decide) e25), fun e26 => h26 (lset_ne (by decide) e26), fun e27 => h27 (lset_ne (by decide) e27), fun e28 => h28 (lset_ne (by decide) e28), fun e29 => h29 (lset_ne (by decide) e29)⟩
    · have ho' : some _ = some o := ho
      cases ho'
      have d10 := hd { on := 10, ground := .guard } (by simp) rfl
      have hbw : Below w.heap.size w w := Below.refl _ _
      have e10 := h10 d10
      subst e10
      unfold e2Act; go_simp
      exact ⟨u42, u43, u44, u45, u46, u47, u48, u49, u50, u51, .bool true, u53, .pointer (some ⟨eb, 1, none⟩), u55, u56, u57, u58, u59, u60, u61, u62, u63, u64, u65, u66, u67, u68, u69, u70, u71, rfl, hB, fun e0 => h0 (lset_ne (by decide) e0), fun e1 => h1 (lset_ne (by decide) e1), fun e2 => h2 (lset_ne (by decide) e2), fun e3 => h3 (lset_ne (by decide) e3), fun e4 => h4 (lset_ne (by decide) e4), fun e5 => h5 (lset_ne (by decide) e5), fun e6 => h6 (lset_ne (by decide) e6), fun e7 => h7 (lset_ne (by decide) e7), fun e8 => h8 (lset_ne (by decide) e8), fun e9 => h9 (lset_ne (by decide) e9), fun e10 => h10 (lset_ne (by decide) e10), fun e11 => h11 (lset_ne (by decide) e11), fun _ => rfl, fun e13 => h13 (lset_ne (by decide) e13), fun e14 => h14 (lset_ne (by decide) e14), fun e15 => h15 (lset_ne (by decide) e15), fun e16 => h16 (lset_ne (by decide) e16), fun e17 => h17 (lset_ne (by decide) e17), fun e18 => h18 (lset_ne (by decide) e18), fun e19 => h19 (lset_ne (by decide) e19), fun e20 => h20 (lset_ne (by decide) e20), fun e21 => h21 (lset_ne (by decide) e21), fun e22 => h22 (lset_ne (by decide) e22), fun e23 => h23 (lset_ne (by decide) e23), fun e24 => h24 (lset_ne (by decide) e24), fun e25 => h25 (lset_ne (by decide) e25), fun e26 => h26 (lset_ne (by decide) e26), fun e27 => h27 (lset_ne (by decide) e27), fun e28 => h28 (lset_ne (by decide) e28), fun e29 => h29 (lset_ne (by decide) e29)⟩
    · have ho' : some _ = some o := ho
      cases ho'
      have d12 := hd { on := 12, ground := .data } (by simp) rfl
      have d10 := hd { on := 10, ground := .guard } (by simp) rfl
      have hbw : Below w.heap.size w w := Below.refl _ _
      have c0 := (hB.cell (p := ⟨eb, 1, none⟩) he).trans hes
      have e10 := h10 d10
      subst e10
      have e12 := h12 d12
      subst e12
      unfold e2Act; go_simp
      exact ⟨u42, u43, u44, u45, u46, u47, u48, u49, u50, u51, .bool true, u53, .pointer (some ⟨eb, 1, none⟩), .int .i64 (s : Int), u56, u57, u58, u59, u60, u61, u62, u63, u64, u65, u66, u67, u68, u69, u70, u71, rfl, hB, fun e0 => h0 (lset_ne (by decide) e0), fun e1 => h1 (lset_ne (by decide) e1), fun e2 => h2 (lset_ne (by decide) e2), fun e3 => h3 (lset_ne (by decide) e3), fun e4 => h4 (lset_ne (by decide) e4), fun e5 => h5 (lset_ne (by decide) e5), fun e6 => h6 (lset_ne (by decide) e6), fun e7 => h7 (lset_ne (by decide) e7), fun e8 => h8 (lset_ne (by decide) e8), fun e9 => h9 (lset_ne (by decide) e9), fun e10 => h10 (lset_ne (by decide) e10), fun e11 => h11 (lset_ne (by decide) e11), fun e12 => h12 (lset_ne (by decide) e12), fun _ => rfl, fun e14 => h14 (lset_ne (by decide) e14), fun e15 => h15 (lset_ne (by decide) e15), fun e16 => h16 (lset_ne (by decide) e16), fun e17 => h17 (lset_ne (by decide) e17), fun e18 => h18 (lset_ne (by decide) e18), fun e19 => h19 (lset_ne (by decide) e19), fun e20 => h20 (lset_ne (by decide) e20), fun e21 => h21 (lset_ne (by decide) e21), fun e22 => h22 (lset_ne (by decide) e22), fun e23 => h23 (lset_ne (by decide) e23), fun e24 => h24 (lset_ne (by decide) e24), fun e25 => h25 (lset_ne (by decide) e25), fun e26 => h26 (lset_ne (by decide) e26), fun e27 => h27 (lset_ne (by decide) e27), fun e28 => h28 (lset_ne (by decide) e28), fun e29 => h29 (lset_ne (by decide) e29)⟩
    · have ho' : some _ = some o := ho
      cases ho'
      have d11 := hd { on := 11, ground := .data } (by simp) rfl
      have d13 := hd { on := 13, ground := .data } (by simp) rfl
      have d10 := hd { on := 10, ground := .guard } (by simp) rfl
      have hbw : Below w.heap.size w w := Below.refl _ _
      have p0 : (0 : Int) ≤ (s : Int) := by omega
      have p1 : (s : Int) < (P : Int) := by omega
      have e10 := h10 d10
      subst e10
      have e11 := h11 d11
      subst e11
      have e13 := h13 d13
      subst e13
      unfold e2Act; go_simp
      exact ⟨u42, u43, u44, u45, u46, u47, u48, u49, u50, u51, .bool true, .slice (some ⟨tb, 0, none⟩) P tc, u54, .int .i64 (s : Int), .pointer (some ⟨tb, s, none⟩), u57, u58, u59, u60, u61, u62, u63, u64, u65, u66, u67, u68, u69, u70, u71, rfl, hB, fun e0 => h0 (lset_ne (by decide) e0), fun e1 => h1 (lset_ne (by decide) e1), fun e2 => h2 (lset_ne (by decide) e2), fun e3 => h3 (lset_ne (by decide) e3), fun e4 => h4 (lset_ne (by decide) e4), fun e5 => h5 (lset_ne (by decide) e5), fun e6 => h6 (lset_ne (by decide) e6), fun e7 => h7 (lset_ne (by decide) e7), fun e8 => h8 (lset_ne (by decide) e8), fun e9 => h9 (lset_ne (by decide) e9), fun e10 => h10 (lset_ne (by decide) e10), fun e11 => h11 (lset_ne (by decide) e11), fun e12 => h12 (lset_ne (by decide) e12), fun e13 => h13 (lset_ne (by decide) e13), fun _ => rfl, fun e15 => h15 (lset_ne (by decide) e15), fun e16 => h16 (lset_ne (by decide) e16), fun e17 => h17 (lset_ne (by decide) e17), fun e18 => h18 (lset_ne (by decide) e18), fun e19 => h19 (lset_ne (by decide) e19), fun e20 => h20 (lset_ne (by decide) e20), fun e21 => h21 (lset_ne (by decide) e21), fun e22 => h22 (lset_ne (by decide) e22), fun e23 => h23 (lset_ne (by decide) e23), fun e24 => h24 (lset_ne (by decide) e24), fun e25 => h25 (lset_ne (by decide) e25), fun e26 => h26 (lset_ne (by decide) e26), fun e27 => h27 (lset_ne (by decide) e27), fun e28 => h28 (lset_ne (by decide) e28), fun e29 => h29 (lset_ne (by decide) e29)⟩
    · have ho' : some _ = some o := ho
      cases ho'
      have d14 := hd { on := 14, ground := .data } (by simp) rfl
      have d10 := hd { on := 10, ground := .guard } (by simp) rfl
      have hbw : Below w.heap.size w w := Below.refl _ _
      have c0 := (hB.cell (p := ⟨tb, s, none⟩) ht).trans hts
      have e10 := h10 d10
      subst e10
      have e14 := h14 d14
      subst e14
      unfold e2Act; go_simp
      exact ⟨u42, u43, u44, u45, u46, u47, u48, u49, u50, u51, .bool true, u53, u54, u55, .pointer (some ⟨tb, s, none⟩), .slice (some ⟨rs, 0, none⟩) P P, u58, u59, u60, u61, u62, u63, u64, u65, u66, u67, u68, u69, u70, u71, rfl, hB, fun e0 => h0 (lset_ne (by decide) e0), fun e1 => h1 (lset_ne (by decide) e1), fun e2 => h2 (lset_ne (by decide) e2), fun e3 => h3 (lset_ne (by decide) e3), fun e4 => h4 (lset_ne (by decide) e4), fun e5 => h5 (lset_ne (by decide) e5), fun e6 => h6 (lset_ne (by decide) e6), fun e7 => h7 (lset_ne (by decide) e7), fun e8 => h8 (lset_ne (by decide) e8), fun e9 => h9 (lset_ne (by decide) e9), fun e10 => h10 (lset_ne (by decide) e10), fun e11 => h11 (lset_ne (by decide) e11), fun e12 => h12 (lset_ne (by decide) e12), fun e13 => h13 (lset_ne (by decide) e13), fun e14 => h14 (lset_ne (by decide) e14), fun _ => rfl, fun e16 => h16 (lset_ne (by decide) e16), fun e17 => h17 (lset_ne (by decide) e17), fun e18 => h18 (lset_ne (by decide) e18), fun e19 => h19 (lset_ne (by decide) e19), fun e20 => h20 (lset_ne (by decide) e20), fun e21 => h21 (lset_ne (by decide) e21), fun e22 => h22 (lset_ne (by decide) e22), fun e23 => h23 (lset_ne (by decide) e23), fun e24 => h24 (lset_ne (by decide) e24), fun e25 => h25 (lset_ne (by decide) e25), fun e26 => h26 (lset_ne (by decide) e26), fun e27 => h27 (lset_ne (by decide) e27), fun e28 => h28 (lset_ne (by decide) e28), fun e29 => h29 (lset_ne (by decide) e29)⟩
    · have ho' : some _ = some o := ho
      cases ho'
      have d10 := hd { on := 10, ground := .guard } (by simp) rfl
      have hbw : Below w.heap.size w w := Below.refl _ _
      have e10 := h10 d10
      subst e10
      unfold e2Act; go_simp
      exact ⟨u42, u43, u44, u45, u46, u47, u48, u49, u50, u51, .bool true, u53, u54, u55, u56, u57, .int .i64 (p : Int), u59, u60, u61, u62, u63, u64, u65, u66, u67, u68, u69, u70, u71, rfl, hB, fun e0 => h0 (lset_ne (by decide) e0), fun e1 => h1 (lset_ne (by decide) e1), fun e2 => h2 (lset_ne (by decide) e2), fun e3 => h3 (lset_ne (by decide) e3), fun e4 => h4 (lset_ne (by decide) e4), fun e5 => h5 (lset_ne (by decide) e5), fun e6 => h6 (lset_ne (by decide) e6), fun e7 => h7 (lset_ne (by decide) e7), fun e8 => h8 (lset_ne (by decide) e8), fun e9 => h9 (lset_ne (by decide) e9), fun e10 => h10 (lset_ne (by decide) e10), fun e11 => h11 (lset_ne (by decide) e11), fun e12 => h12 (lset_ne (by decide) e12), fun e13 => h13 (lset_ne (by decide) e13), fun e14 => h14 (lset_ne (by decide) e14), fun e15 => h15 (lset_ne (by decide) e15), fun _ => rfl, fun e17 => h17 (lset_ne (by decide) e17), fun e18 => h18 (lset_ne (by decide) e18), fun e19 => h19 (lset_ne (by decide) e19), fun e20 => h20 (lset_ne (by decide) e20), fun e21 => h21 (lset_ne (by decide) e21), fun e22 => h22 (lset_ne (by decide) e22), fun e23 => h23 (lset_ne (by decide) e23), fun e24 => h24 (lset_ne (by decide) e24), fun e25 => h25 (lset_ne (by decide) e25), fun e26 => h26 (lset_ne (by decide) e26), fun e27 => h27 (lset_ne (by decide) e27), fun e28 => h28 (lset_ne (by decide) e28), fun e29 => h29 (lset_ne (by decide) e29)⟩
    · have ho' : some _ = some o := ho
      cases ho'
      have d15 := hd { on := 15, ground := .data } (by simp) rfl
      have d16 := hd { on := 16, ground := .data } (by simp) rfl
      have d10 := hd { on := 10, ground := .guard } (by simp) rfl
      have hbw : Below w.heap.size w w := Below.refl _ _
      have p0 : (0 : Int) ≤ (p : Int) := by omega
      have p1 : (p : Int) < (P : Int) := by omega
      have e10 := h10 d10
      subst e10
      have e15 := h15 d15
      subst e15
      have e16 := h16 d16
      subst e16
      unfold e2Act; go_simp
      exact ⟨u42, u43, u44, u45, u46, u47, u48, u49, u50, u51, .bool true, u53, u54, u55, u56, .slice (some ⟨rs, 0, none⟩) P P, .int .i64 (p : Int), .pointer (some ⟨rs, p, none⟩), u60, u61, u62, u63, u64, u65, u66, u67, u68, u69, u70, u71, rfl, hB, fun e0 => h0 (lset_ne (by decide) e0), fun e1 => h1 (lset_ne (by decide) e1), fun e2 => h2 (lset_ne (by decide) e2), fun e3 => h3 (lset_ne (by decide) e3), fun e4 => h4 (lset_ne (by decide) e4), fun e5 => h5 (lset_ne (by decide) e5), fun e6 => h6 (lset_ne (by decide) e6), fun e7 => h7 (lset_ne (by decide) e7), fun e8 => h8 (lset_ne (by decide) e8), fun e9 => h9 (lset_ne (by decide) e9), fun e10 => h10 (lset_ne (by decide) e10), fun e11 => h11 (lset_ne (by decide) e11), fun e12 => h12 (lset_ne (by decide) e12), fun e13 => h13 (lset_ne (by decide) e13), fun e14 => h14 (lset_ne (by decide) e14), fun e15 => h15 (lset_ne (by decide) e15), fun e16 => h16 (lset_ne (by decide) e16), fun _ => rfl, fun e18 => h18 (lset_ne (by decide) e18), fun e19 => h19 (lset_ne (by decide) e19), fun e20 => h20 (lset_ne (by decide) e20), fun e21 => h21 (lset_ne (by decide) e21), fun e22 => h22 (lset_ne (by decide) e22), fun e23 => h23 (lset_ne (by decide) e23), fun e24 => h24 (lset_ne (by decide) e24), fun e25 => h25 (lset_ne (by decide) e25), fun e26 => h26 (lset_ne (by decide) e26), fun e27 => h27 (lset_ne (by decide) e27), fun e28 => h28 (lset_ne (by decide) e28), fun e29 => h29 (lset_ne (by decide) e29)⟩
    · have ho' : some _ = some o := ho
      cases ho'
      have d17 := hd { on := 17, ground := .data } (by simp) rfl
      have d10 := hd { on := 10, ground := .guard } (by simp) rfl
      have hbw : Below w.heap.size w w := Below.refl _ _
      have c0 := (hB.cell (p := ⟨rs, p, none⟩) hrs).trans hc2
      have e10 := h10 d10
      subst e10
      have e17 := h17 d17
      subst e17
      unfold e2Act; go_simp
      exact ⟨u42, u43, u44, u45, u46, u47, u48, u49, u50, u51, .bool true, u53, u54, u55, u56, u57, u58, .pointer (some ⟨rs, p, none⟩), .bool true, u61, u62, u63, u64, u65, u66, u67, u68, u69, u70, u71, rfl, hB, fun e0 => h0 (lset_ne (by decide) e0), fun e1 => h1 (lset_ne (by decide) e1), fun e2 => h2 (lset_ne (by decide) e2), fun e3 => h3 (lset_ne (by decide) e3), fun e4 => h4 (lset_ne (by decide) e4), fun e5 => h5 (lset_ne (by decide) e5), fun e6 => h6 (lset_ne (by decide) e6), fun e7 => h7 (lset_ne (by decide) e7), fun e8 => h8 (lset_ne (by decide) e8), fun e9 => h9 (lset_ne (by decide) e9), fun e10 => h10 (lset_ne (by decide) e10), fun e11 => h11 (lset_ne (by decide) e11), fun e12 => h12 (lset_ne (by decide) e12), fun e13 => h13 (lset_ne (by decide) e13), fun e14 => h14 (lset_ne (by decide) e14), fun e15 => h15 (lset_ne (by decide) e15), fun e16 => h16 (lset_ne (by decide) e16), fun e17 => h17 (lset_ne (by decide) e17), fun _ => rfl, fun e19 => h19 (lset_ne (by decide) e19), fun e20 => h20 (lset_ne (by decide) e20), fun e21 => h21 (lset_ne (by decide) e21), fun e22 => h22 (lset_ne (by decide) e22), fun e23 => h23 (lset_ne (by decide) e23), fun e24 => h24 (lset_ne (by decide) e24), fun e25 => h25 (lset_ne (by decide) e25), fun e26 => h26 (lset_ne (by decide) e26), fun e27 => h27 (lset_ne (by decide) e27), fun e28 => h28 (lset_ne (by decide) e28), fun e29 => h29 (lset_ne (by decide) e29)⟩
    · have ho' : some _ = some o := ho
      cases ho'
      have d10 := hd { on := 10, ground := .data } (by simp) rfl
      have d18 := hd { on := 18, ground := .data } (by simp) rfl
      have d1 := hd { on := 1, ground := .guard } (by simp) rfl
      have hbw : Below w.heap.size w w := Below.refl _ _
      have e1 := h1 d1
      subst e1
      have e10 := h10 d10
      subst e10
      have e18 := h18 d18
      subst e18
      unfold e2Act; go_simp
      exact ⟨u42, .bool true, u44, u45, u46, u47, u48, u49, u50, u51, .bool true, u53, u54, u55, u56, u57, u58, u59, .bool true, .bool true, u62, u63, u64, u65, u66, u67, u68, u69, u70, u71, rfl, hB, fun e0 => h0 (lset_ne (by decide) e0), fun e1 => h1 (lset_ne (by decide) e1), fun e2 => h2 (lset_ne (by decide) e2), fun e3 => h3 (lset_ne (by decide) e3), fun e4 => h4 (lset_ne (by decide) e4), fun e5 => h5 (lset_ne (by decide) e5), fun e6 => h6 (lset_ne (by decide) e6), fun e7 => h7 (lset_ne (by decide) e7), fun e8 => h8 (lset_ne (by decide) e8), fun e9 => h9 (lset_ne (by decide) e9), fun e10 => h10 (lset_ne (by decide) e10), fun e11 => h11 (lset_ne (by decide) e11), fun e12 => h12 (lset_ne (by decide) e12), fun e13 => h13 (lset_ne (by decide) e13), fun e14 => h14 (lset_ne (by decide) e14), fun e15 => h15 (lset_ne (by decide) e15), fun e16 => h16 (lset_ne (by decide) e16), fun e17 => h17 (lset_ne (by decide) e17), fun e18 => h18 (lset_ne (by decide) e18), fun _ => rfl, fun e20 => h20 (lset_ne (by decide) e20), fun e21 => h21 (lset_ne (by decide) e21), fun e22 => h22 (lset_ne (by decide) e22), fun e23 => h23 (lset_ne (by decide) e23), fun e24 => h24 (lset_ne (by decide) e24), fun e25 => h25 (lset_ne (by decide) e25), fun e26 => h26 (lset_ne (by decide) e26), fun e27 => h27 (lset_ne (by decide) e27), fun e28 => h28 (lset_ne (by decide) e28), fun e29 => h29 (lset_ne (by decide) e29)⟩
    · have ho' : some _ = some o := ho
      cases ho'
      have d19 := hd { on := 19, ground := .data } (by simp) rfl
      have d1 := hd { on := 1, ground := .guard } (by simp) rfl
      have hbw : Below w.heap.size w w := Below.refl _ _
      have e1 := h1 d1
      subst e1
      have e19 := h19 d19
      subst e19
      unfold e2Act; go_simp
      exact ⟨u42, .bool true, u44, u45, u46, u47, u48, u49, u50, u51, u52, u53, u54, u55, u56, u57, u58, u59, u60, .bool true, .bool false, u63, u64, u65, u66, u67, u68, u69, u70, u71, rfl, hB, fun e0 => h0 (lset_ne (by decide) e0), fun e1 => h1 (lset_ne (by decide) e1), fun e2 => h2 (lset_ne (by decide) e2), fun e3 => h3 (lset_ne (by decide) e3), fun e4 => h4 (lset_ne (by decide) e4), fun e5 => h5 (lset_ne (by decide) e5), fun e6 => h6 (lset_ne (by decide) e6), fun e7 => h7 (lset_ne (by decide) e7), fun e8 => h8 (lset_ne (by decide) e8), fun e9 => h9 (lset_ne (by decide) e9), fun e10 => h10 (lset_ne (by decide) e10), fun e11 => h11 (lset_ne (by decide) e11), fun e12 => h12 (lset_ne (by decide) e12), fun e13 => h13 (lset_ne (by decide) e13), fun e14 => h14 (lset_ne (by decide) e14), fun e15 => h15 (lset_ne (by decide) e15), fun e16 => h16 (lset_ne (by decide) e16), fun e17 => h17 (lset_ne (by decide) e17), fun e18 => h18 (lset_ne (by decide) e18), fun e19 => h19 (lset_ne (by decide) e19), fun _ => rfl, fun e21 => h21 (lset_ne (by decide) e21), fun e22 => h22 (lset_ne (by decide) e22), fun e23 => h23 (lset_ne (by decide) e23), fun e24 => h24 (lset_ne (by decide) e24), fun e25 => h25 (lset_ne (by decide) e25), fun e26 => h26 (lset_ne (by decide) e26), fun e27 => h27 (lset_ne (by decide) e27), fun e28 => h28 (lset_ne (by decide) e28), fun e29 => h29 (lset_ne (by decide) e29)⟩
    · have ho' : some _ = some o := ho
      cases ho'
      have d1 := hd { on := 1, ground := .data } (by simp) rfl
      have d20 := hd { on := 20, ground := .data } (by simp) rfl
      have hbw : Below w.heap.size w w := Below.refl _ _
      have e1 := h1 d1
      subst e1
      have e20 := h20 d20
      subst e20
      unfold e2Act; go_simp
      exact ⟨u42, .bool true, u44, u45, u46, u47, u48, u49, u50, u51, u52, u53, u54, u55, u56, u57, u58, u59, u60, u61, .bool false, .bool false, u64, u65, u66, u67, u68, u69, u70, u71, rfl, hB, fun e0 => h0 (lset_ne (by decide) e0), fun e1 => h1 (lset_ne (by decide) e1), fun e2 => h2 (lset_ne (by decide) e2), fun e3 => h3 (lset_ne (by decide) e3), fun e4 => h4 (lset_ne (by decide) e4), fun e5 => h5 (lset_ne (by decide) e5), fun e6 => h6 (lset_ne (by decide) e6), fun e7 => h7 (lset_ne (by decide) e7), fun e8 => h8 (lset_ne (by decide) e8), fun e9 => h9 (lset_ne (by decide) e9), fun e10 => h10 (lset_ne (by decide) e10), fun e11 => h11 (lset_ne (by decide) e11), fun e12 => h12 (lset_ne (by decide) e12), fun e13 => h13 (lset_ne (by decide) e13), fun e14 => h14 (lset_ne (by decide) e14), fun e15 => h15 (lset_ne (by decide) e15), fun e16 => h16 (lset_ne (by decide) e16), fun e17 => h17 (lset_ne (by decide) e17), fun e18 => h18 (lset_ne (by decide) e18), fun e19 => h19 (lset_ne (by decide) e19), fun e20 => h20 (lset_ne (by decide) e20), fun _ => rfl, fun e22 => h22 (lset_ne (by decide) e22), fun e23 => h23 (lset_ne (by decide) e23), fun e24 => h24 (lset_ne (by decide) e24), fun e25 => h25 (lset_ne (by decide) e25), fun e26 => h26 (lset_ne (by decide) e26), fun e27 => h27 (lset_ne (by decide) e27), fun e28 => h28 (lset_ne (by decide) e28), fun e29 => h29 (lset_ne (by decide) e29)⟩
    · have ho' : some _ = some o := ho
      cases ho'
      have d21 := hd { on := 21, ground := .data } (by simp) rfl
      have d10 := hd { on := 10, ground := .chain } (by simp) rfl
      have hbw : Below w.heap.size w w := Below.refl _ _
      have e10 := h10 d10
      subst e10
      have e21 := h21 d21
      subst e21
      unfold e2Act; go_simp
      exact ⟨u42, u43, u44, u45, u46, u47, u48, u49, u50, u51, .bool true, u53, u54, u55, u56, u57, u58, u59, u60, u61, u62, .bool false, .bool false, u65, u66, u67, u68, u69, u70, u71, rfl, hB, fun e0 => h0 (lset_ne (by decide) e0), fun e1 => h1 (lset_ne (by decide) e1), fun e2 => h2 (lset_ne (by decide) e2), fun e3 => h3 (lset_ne (by decide) e3), fun e4 => h4 (lset_ne (by decide) e4), fun e5 => h5 (lset_ne (by decide) e5), fun e6 => h6 (lset_ne (by decide) e6), fun e7 => h7 (lset_ne (by decide) e7), fun e8 => h8 (lset_ne (by decide) e8), fun e9 => h9 (lset_ne (by decide) e9), fun e10 => h10 (lset_ne (by decide) e10), fun e11 => h11 (lset_ne (by decide) e11), fun e12 => h12 (lset_ne (by decide) e12), fun e13 => h13 (lset_ne (by decide) e13), fun e14 => h14 (lset_ne (by decide) e14), fun e15 => h15 (lset_ne (by decide) e15), fun e16 => h16 (lset_ne (by decide) e16), fun e17 => h17 (lset_ne (by decide) e17), fun e18 => h18 (lset_ne (by decide) e18), fun e19 => h19 (lset_ne (by decide) e19), fun e20 => h20 (lset_ne (by decide) e20), fun e21 => h21 (lset_ne (by decide) e21), fun _ => rfl, fun e23 => h23 (lset_ne (by decide) e23), fun e24 => h24 (lset_ne (by decide) e24), fun e25 => h25 (lset_ne (by decide) e25), fun e26 => h26 (lset_ne (by decide) e26), fun e27 => h27 (lset_ne (by decide) e27), fun e28 => h28 (lset_ne (by decide) e28), fun e29 => h29 (lset_ne (by decide) e29)⟩
    · have ho' : some _ = some o := ho
      cases ho'
      have d22 := hd { on := 22, ground := .guard } (by simp) rfl
      have hbw : Below w.heap.size w w := Below.refl _ _
      have e22 := h22 d22
      subst e22
      unfold e2Act; go_simp
      exact ⟨u42, u43, u44, u45, u46, u47, u48, u49, u50, u51, u52, u53, u54, u55, u56, u57, u58, u59, u60, u61, u62, u63, .bool false, undef, u66, u67, u68, u69, u70, u71, rfl, hB, fun e0 => h0 (lset_ne (by decide) e0), fun e1 => h1 (lset_ne (by decide) e1), fun e2 => h2 (lset_ne (by decide) e2), fun e3 => h3 (lset_ne (by decide) e3), fun e4 => h4 (lset_ne (by decide) e4), fun e5 => h5 (lset_ne (by decide) e5), fun e6 => h6 (lset_ne (by decide) e6), fun e7 => h7 (lset_ne (by decide) e7), fun e8 => h8 (lset_ne (by decide) e8), fun e9 => h9 (lset_ne (by decide) e9), fun e10 => h10 (lset_ne (by decide) e10), fun e11 => h11 (lset_ne (by decide) e11), fun e12 => h12 (lset_ne (by decide) e12), fun e13 => h13 (lset_ne (by decide) e13), fun e14 => h14 (lset_ne (by decide) e14), fun e15 => h15 (lset_ne (by decide) e15), fun e16 => h16 (lset_ne (by decide) e16), fun e17 => h17 (lset_ne (by decide) e17), fun e18 => h18 (lset_ne (by decide) e18), fun e19 => h19 (lset_ne (by decide) e19), fun e20 => h20 (lset_ne (by decide) e20), fun e21 => h21 (lset_ne (by decide) e21), fun e22 => h22 (lset_ne (by decide) e22), fun _ => rfl, fun e24 => h24 (lset_ne (by decide) e24), fun e25 => h25 (lset_ne (by decide) e25), fun e26 => h26 (lset_ne (by decide) e26), fun e27 => h27 (lset_ne (by decide) e27), fun e28 => h28 (lset_ne (by decide) e28), fun e29 => h29 (lset_ne (by decide) e29)⟩
    · have ho' : some _ = some o := ho
      cases ho'
      have d22 := hd { on := 22, ground := .guard } (by simp) rfl
      have hbw : Below w.heap.size w w := Below.refl _ _
      have e22 := h22 d22
      subst e22
      unfold e2Act; go_simp
      exact ⟨u42, u43, u44, u45, u46, u47, u48, u49, u50, u51, u52, u53, u54, u55, u56, u57, u58, u59, u60, u61, u62, u63, .bool false, u65, undef, u67, u68, u69, u70, u71, rfl, hB, fun e0 => h0 (lset_ne (by decide) e0), fun e1 => h1 (lset_ne (by decide) e1), fun e2 => h2 (lset_ne (by decide) e2), fun e3 => h3 (lset_ne (by decide) e3), fun e4 => h4 (lset_ne (by decide) e4), fun e5 => h5 (lset_ne (by decide) e5), fun e6 => h6 (lset_ne (by decide) e6), fun e7 => h7 (lset_ne (by decide) e7), fun e8 => h8 (lset_ne (by decide) e8), fun e9 => h9 (lset_ne (by decide) e9), fun e10 => h10 (lset_ne (by decide) e10), fun e11 => h11 (lset_ne (by decide) e11), fun e12 => h12 (lset_ne (by decide) e12), fun e13 => h13 (lset_ne (by decide) e13), fun e14 => h14 (lset_ne (by decide) e14), fun e15 => h15 (lset_ne (by decide) e15), fun e16 => h16 (lset_ne (by decide) e16), fun e17 => h17 (lset_ne (by decide) e17), fun e18 => h18 (lset_ne (by decide) e18), fun e19 => h19 (lset_ne (by decide) e19), fun e20 => h20 (lset_ne (by decide) e20), fun e21 => h21 (lset_ne (by decide) e21), fun e22 => h22 (lset_ne (by decide) e22), fun e23 => h23 (lset_ne (by decide) e23), fun _ => rfl, fun e25 => h25 (lset_ne (by decide) e25), fun e26 => h26 (lset_ne (by decide) e26), fun e27 => h27 (lset_ne (by decide) e27), fun e28 => h28 (lset_ne (by decide) e28), fun e29 => h29 (lset_ne (by decide) e29)⟩
    · have ho' : some _ = some o := ho
      cases ho'
      have d24 := hd { on := 24, ground := .data } (by simp) rfl
      have d22 := hd { on := 22, ground := .guard } (by simp) rfl
      have hbw : Below w.heap.size w w := Below.refl _ _
      have e22 := h22 d22
      subst e22
      have e24 := h24 d24
      subst e24
      unfold e2Act; go_simp
      exact ⟨u42, u43, u44, u45, u46, u47, u48, u49, u50, u51, u52, u53, u54, u55, u56, u57, u58, u59, u60, u61, u62, u63, .bool false, u65, undef, undef, u68, u69, u70, u71, rfl, hB, fun e0 => h0 (lset_ne (by decide) e0), fun e1 => h1 (lset_ne (by decide) e1), fun e2 => h2 (lset_ne (by decide) e2), fun e3 => h3 (lset_ne (by decide) e3), fun e4 => h4 (lset_ne (by decide) e4), fun e5 => h5 (lset_ne (by decide) e5), fun e6 => h6 (lset_ne (by decide) e6), fun e7 => h7 (lset_ne (by decide) e7), fun e8 => h8 (lset_ne (by decide) e8), fun e9 => h9 (lset_ne (by decide) e9), fun e10 => h10 (lset_ne (by decide) e10), fun e11 => h11 (lset_ne (by decide) e11), fun e12 => h12 (lset_ne (by decide) e12), fun e13 => h13 (lset_ne (by decide) e13), fun e14 => h14 (lset_ne (by decide) e14), fun e15 => h15 (lset_ne (by decide) e15), fun e16 => h16 (lset_ne (by decide) e16), fun e17 => h17 (lset_ne (by decide) e17), fun e18 => h18 (lset_ne (by decide) e18), fun e19 => h19 (lset_ne (by decide) e19), fun e20 => h20 (lset_ne (by decide) e20), fun e21 => h21 (lset_ne (by decide) e21), fun e22 => h22 (lset_ne (by decide) e22), fun e23 => h23 (lset_ne (by decide) e23), fun e24 => h24 (lset_ne (by decide) e24), fun _ => rfl, fun e26 => h26 (lset_ne (by decide) e26), fun e27 => h27 (lset_ne (by decide) e27), fun e28 => h28 (lset_ne (by decide) e28), fun e29 => h29 (lset_ne (by decide) e29)⟩
    · have ho' : some _ = some o := ho
      cases ho'
      have d23 := hd { on := 23, ground := .data } (by simp) rfl
      have d25 := hd { on := 25, ground := .data } (by simp) rfl
      have d22 := hd { on := 22, ground := .guard } (by simp) rfl
      have hbw : Below w.heap.size w w := Below.refl _ _
      have e22 := h22 d22
      subst e22
      have e23 := h23 d23
      subst e23
      have e25 := h25 d25
      subst e25
      unfold e2Act; go_simp
      exact ⟨u42, u43, u44, u45, u46, u47, u48, u49, u50, u51, u52, u53, u54, u55, u56, u57, u58, u59, u60, u61, u62, u63, .bool false, undef, u66, undef, undef, u69, u70, u71, rfl, hB, fun e0 => h0 (lset_ne (by decide) e0), fun e1 => h1 (lset_ne (by decide) e1), fun e2 => h2 (lset_ne (by decide) e2), fun e3 => h3 (lset_ne (by decide) e3), fun e4 => h4 (lset_ne (by decide) e4), fun e5 => h5 (lset_ne (by decide) e5), fun e6 => h6 (lset_ne (by decide) e6), fun e7 => h7 (lset_ne (by decide) e7), fun e8 => h8 (lset_ne (by decide) e8), fun e9 => h9 (lset_ne (by decide) e9), fun e10 => h10 (lset_ne (by decide) e10), fun e11 => h11 (lset_ne (by decide) e11), fun e12 => h12 (lset_ne (by decide) e12), fun e13 => h13 (lset_ne (by decide) e13), fun e14 => h14 (lset_ne (by decide) e14), fun e15 => h15 (lset_ne (by decide) e15), fun e16 => h16 (lset_ne (by decide) e16), fun e17 => h17 (lset_ne (by decide) e17), fun e18 => h18 (lset_ne (by decide) e18), fun e19 => h19 (lset_ne (by decide) e19), fun e20 => h20 (lset_ne (by decide) e20), fun e21 => h21 (lset_ne (by decide) e21), fun e22 => h22 (lset_ne (by decide) e22), fun e23 => h23 (lset_ne (by decide) e23), fun e24 => h24 (lset_ne (by decide) e24), fun e25 => h25 (lset_ne (by decide) e25), fun _ => rfl, fun e27 => h27 (lset_ne (by decide) e27), fun e28 => h28 (lset_ne (by decide) e28), fun e29 => h29 (lset_ne (by decide) e29)⟩
    · have ho' : some _ = some o := ho
      cases ho'
      have d26 := hd { on := 26, ground := .data } (by simp) rfl
      have d22 := hd { on := 22, ground := .guard } (by simp) rfl
      have hbw : Below w.heap.size w w := Below.refl _ _
      have e22 := h22 d22
      subst e22
      have e26 := h26 d26
      subst e26
      unfold e2Act; go_simp
      exact ⟨u42, u43, u44, u45, u46, u47, u48, u49, u50, u51, u52, u53, u54, u55, u56, u57, u58, u59, u60, u61, u62, u63, .bool false, u65, u66, u67, undef, undef, u70, u71, rfl, hB, fun e0 => h0 (lset_ne (by decide) e0), fun e1 => h1 (lset_ne (by decide) e1), fun e2 => h2 (lset_ne (by decide) e2), fun e3 => h3 (lset_ne (by decide) e3), fun e4 => h4 (lset_ne (by decide) e4), fun e5 => h5 (lset_ne (by decide) e5), fun e6 => h6 (lset_ne (by decide) e6), fun e7 => h7 (lset_ne (by decide) e7), fun e8 => h8 (lset_ne (by decide) e8), fun e9 => h9 (lset_ne (by decide) e9), fun e10 => h10 (lset_ne (by decide) e10), fun e11 => h11 (lset_ne (by decide) e11), fun e12 => h12 (lset_ne (by decide) e12), fun e13 => h13 (lset_ne (by decide) e13), fun e14 => h14 (lset_ne (by decide) e14), fun e15 => h15 (lset_ne (by decide) e15), fun e16 => h16 (lset_ne (by decide) e16), fun e17 => h17 (lset_ne (by decide) e17), fun e18 => h18 (lset_ne (by decide) e18), fun e19 => h19 (lset_ne (by decide) e19), fun e20 => h20 (lset_ne (by decide) e20), fun e21 => h21 (lset_ne (by decide) e21), fun e22 => h22 (lset_ne (by decide) e22), fun e23 => h23 (lset_ne (by decide) e23), fun e24 => h24 (lset_ne (by decide) e24), fun e25 => h25 (lset_ne (by decide) e25), fun e26 => h26 (lset_ne (by decide) e26), fun _ => rfl, fun e28 => h28 (lset_ne (by decide) e28), fun e29 => h29 (lset_ne (by decide) e29)⟩
    · have ho' : some _ = some o := ho
      cases ho'
      have d27 := hd { on := 27, ground := .data } (by simp) rfl
      have d22 := hd { on := 22, ground := .guard } (by simp) rfl
      have hbw : Below w.heap.size w w := Below.refl _ _
      have e22 := h22 d22
      subst e22
      have e27 := h27 d27
      subst e27
      unfold e2Act; go_simp
      exact ⟨u42, u43, u44, u45, u46, u47, u48, u49, u50, u51, u52, u53, u54, u55, u56, u57, u58, u59, u60, u61, u62, u63, .bool false, u65, u66, u67, u68, undef, undef, u71, rfl, hB, fun e0 => h0 (lset_ne (by decide) e0), fun e1 => h1 (lset_ne (by decide) e1), fun e2 => h2 (lset_ne (by decide) e2), fun e3 => h3 (lset_ne (by decide) e3), fun e4 => h4 (lset_ne (by decide) e4), fun e5 => h5 (lset_ne (by decide) e5), fun e6 => h6 (lset_ne (by decide) e6), fun e7 => h7 (lset_ne (by decide) e7), fun e8 => h8 (lset_ne (by decide) e8), fun e9 => h9 (lset_ne (by decide) e9), fun e10 => h10 (lset_ne (by decide) e10), fun e11 => h11 (lset_ne (by decide) e11), fun e12 => h12 (lset_ne (by decide) e12), fun e13 => h13 (lset_ne (by decide) e13), fun e14 => h14 (lset_ne (by decide) e14), fun e15 => h15 (lset_ne (by decide) e15), fun e16 => h16 (lset_ne (by decide) e16), fun e17 => h17 (lset_ne (by decide) e17), fun e18 => h18 (lset_ne (by decide) e18), fun e19 => h19 (lset_ne (by decide) e19), fun e20 => h20 (lset_ne (by decide) e20), fun e21 => h21 (lset_ne (by decide) e21), fun e22 => h22 (lset_ne (by decide) e22), fun e23 => h23 (lset_ne (by decide) e23), fun e24 => h24 (lset_ne (by decide) e24), fun e25 => h25 (lset_ne (by decide) e25), fun e26 => h26 (lset_ne (by decide) e26), fun e27 => h27 (lset_ne (by decide) e27), fun _ => rfl, fun e29 => h29 (lset_ne (by decide) e29)⟩
    · have ho' : some _ = some o := ho
      cases ho'
      have d22 := hd { on := 22, ground := .data } (by simp) rfl
      have d28 := hd { on := 28, ground := .data } (by simp) rfl
      have hbw : Below w.heap.size w w := Below.refl _ _
      have e22 := h22 d22
      subst e22
      have e28 := h28 d28
      subst e28
      unfold e2Act; go_simp
      exact ⟨u42, u43, u44, u45, u46, u47, u48, u49, u50, u51, u52, u53, u54, u55, u56, u57, u58, u59, u60, u61, u62, u63, .bool false, u65, u66, u67, u68, u69, undef, .bool false, rfl, hB, fun e0 => h0 (lset_ne (by decide) e0), fun e1 => h1 (lset_ne (by decide) e1), fun e2 => h2 (lset_ne (by decide) e2), fun e3 => h3 (lset_ne (by decide) e3), fun e4 => h4 (lset_ne (by decide) e4), fun e5 => h5 (lset_ne (by decide) e5), fun e6 => h6 (lset_ne (by decide) e6), fun e7 => h7 (lset_ne (by decide) e7), fun e8 => h8 (lset_ne (by decide) e8), fun e9 => h9 (lset_ne (by decide) e9), fun e10 => h10 (lset_ne (by decide) e10), fun e11 => h11 (lset_ne (by decide) e11), fun e12 => h12 (lset_ne (by decide) e12), fun e13 => h13 (lset_ne (by decide) e13), fun e14 => h14 (lset_ne (by decide) e14), fun e15 => h15 (lset_ne (by decide) e15), fun e16 => h16 (lset_ne (by decide) e16), fun e17 => h17 (lset_ne (by decide) e17), fun e18 => h18 (lset_ne (by decide) e18), fun e19 => h19 (lset_ne (by decide) e19), fun e20 => h20 (lset_ne (by decide) e20), fun e21 => h21 (lset_ne (by decide) e21), fun e22 => h22 (lset_ne (by decide) e22), fun e23 => h23 (lset_ne (by decide) e23), fun e24 => h24 (lset_ne (by decide) e24), fun e25 => h25 (lset_ne (by decide) e25), fun e26 => h26 (lset_ne (by decide) e26), fun e27 => h27 (lset_ne (by decide) e27), fun e28 => h28 (lset_ne (by decide) e28), fun _ => rfl⟩
  · rintro listed a w ⟨u42, u43, u44, u45, u46, u47, u48, u49, u50, u51, u52, u53, u54, u55, u56, u57, u58, u59, u60, u61, u62, u63, u64, u65, u66, u67, u68, u69, u70, u71, rfl, hB, h0, h1, h2, h3, h4, h5, h6, h7, h8, h9, h10, h11, h12, h13, h14, h15, h16, h17, h18, h19, h20, h21, h22, h23, h24, h25, h26, h27, h28, h29⟩ hall
    exact hQ _ _ _ _ _ _ _ _ _ _ _ _ _ _ _ _ _ _ _ _ _ _ _ _ _ _ _ _ _ _ w hB (h0 (hall 0 (by decide))) (h1 (hall 1 (by decide))) (h2 (hall 2 (by decide))) (h3 (hall 3 (by decide))) (h4 (hall 4 (by decide))) (h5 (hall 5 (by decide))) (h6 (hall 6 (by decide))) (h7 (hall 7 (by decide))) (h8 (hall 8 (by decide))) (h9 (hall 9 (by decide))) (h10 (hall 10 (by decide))) (h11 (hall 11 (by decide))) (h12 (hall 12 (by decide))) (h13 (hall 13 (by decide))) (h14 (hall 14 (by decide))) (h15 (hall 15 (by decide))) (h16 (hall 16 (by decide))) (h17 (hall 17 (by decide))) (h18 (hall 18 (by decide))) (h19 (hall 19 (by decide))) (h20 (hall 20 (by decide))) (h21 (hall 21 (by decide))) (h22 (hall 22 (by decide))) (h23 (hall 23 (by decide))) (h24 (hall 24 (by decide))) (h25 (hall 25 (by decide))) (h26 (hall 26 (by decide))) (h27 (hall 27 (by decide))) (h28 (hall 28 (by decide))) (h29 (hall 29 (by decide)))
end Go.Proofs.Ytjjkabgbcflipaa
