import Derived.Test.YtjjkabgbcflipaaCu12
set_option linter.unusedSimpArgs false
set_option linter.unusedVariables false
namespace Go.Proofs.Ytjjkabgbcflipaa
open Go Go.Proofs Go.RowKit GM

theorem EdAt.below' {W W' : World} {b o : Nat} {x : Ed} {n : Nat} (h : EdAt W b o x) (hb : Below n W W') (hlt : b < n) : EdAt W' b o x := fun j u hu => (hb.cell (p := ⟨b, o + j, none⟩) hlt).trans (h j u hu)
def rdAct (D bx : Nat) (q0 q1 q2 q4 q6 q7 q8 q9 q10 q11 q12 q13 q14 q15 q41 u16 u17 u18 u19 u20 u21 u22 u23 u24 u25 u26 u27 u28 u29 u30 u31 u32 u33 u34 u35 u36 u37 u38 u39 u40 : Value) : Act :=
  { tmps := #[q0, q1, q2, .pointer (some ⟨D, 0, none⟩), q4, .pointer (some ⟨bx, 0, none⟩), q6, q7, q8, q9, q10, q11, q12, q13, q14, q15, u16, u17, u18, u19, u20, u21, u22, u23, u24, u25, u26, u27, u28, u29, u30, u31, u32, u33, u34, u35, u36, u37, u38, u39, u40, q41], defers := [] }
def rdI (D bx g h P f s : Nat) (kf ks : Int) (d : Ed) (R C B : Bool) (q0 q1 q2 q4 q6 q7 q8 q9 q10 q11 q12 q13 q14 q15 q41 : Value) (W0 : World) (listed : Array Bool) (a : Act) (w : World) : Prop :=
  ∃ u16 u17 u18 u19 u20 u21 u22 u23 u24 u25 u26 u27 u28 u29 u30 u31 u32 u33 u34 u35 u36 u37 u38 u39 u40, a = rdAct D bx q0 q1 q2 q4 q6 q7 q8 q9 q10 q11 q12 q13 q14 q15 q41 u16 u17 u18 u19 u20 u21 u22 u23 u24 u25 u26 u27 u28 u29 u30 u31 u32 u33 u34 u35 u36 u37 u38 u39 u40 ∧ Below W0.heap.size W0 w ∧
    (listed.getD 0 false = true → u16 = .agg #[.slice (some ⟨g, 0, none⟩) P P, .slice (some ⟨h, 0, none⟩) P P]) ∧
    (listed.getD 1 false = true → u17 = .pointer (some ⟨bx, 0, none⟩)) ∧
    (listed.getD 2 false = true → u18 = .int .i64 (f : Int)) ∧
    (listed.getD 3 false = true → u19 = .bool R) ∧
    (listed.getD 4 false = true → u20 = .bool R) ∧
    (listed.getD 5 false = true → R = true → u21 = .pointer (some ⟨D, 1, none⟩)) ∧
    (listed.getD 6 false = true → R = true → u22 = .slice (some ⟨h, 0, none⟩) P P) ∧
    (listed.getD 7 false = true → R = true → u23 = .pointer (some ⟨bx, 1, none⟩)) ∧
    (listed.getD 8 false = true → R = true → u24 = .int .i64 (s : Int)) ∧
    (listed.getD 9 false = true → R = true → u25 = .pointer (some ⟨h, s, none⟩)) ∧
    (listed.getD 10 false = true → R = true → u26 = .int .i64 ks) ∧
    (listed.getD 11 false = true → R = true → u27 = .pointer (some ⟨D, 1, none⟩)) ∧
    (listed.getD 12 false = true → R = true → u28 = .slice (some ⟨h, 0, none⟩) P P) ∧
    (listed.getD 13 false = true → R = true → u29 = .pointer (some ⟨bx, 0, none⟩)) ∧
    (listed.getD 14 false = true → R = true → u30 = .int .i64 (f : Int)) ∧
    (listed.getD 15 false = true → R = true → u31 = .pointer (some ⟨h, f, none⟩)) ∧
    (listed.getD 16 false = true → R = true → u32 = .int .i64 kf) ∧
    (listed.getD 17 false = true → R = true → u33 = .bool (decide (kf ≤ ks))) ∧
    (listed.getD 18 false = true → u34 = .bool C) ∧
    (listed.getD 19 false = true → u35 = .bool C) ∧
    (listed.getD 20 false = true → C = true → u36 = .agg #[.slice (some ⟨g, 0, none⟩) P P, .slice (some ⟨h, 0, none⟩) P P]) ∧
    (listed.getD 21 false = true → C = true → u37 = .agg d.cs) ∧
    (listed.getD 22 false = true → C = true → u38 = .bool B) ∧
    (listed.getD 23 false = true → C = true → u39 = .bool (!B)) ∧
    (listed.getD 24 false = true → u40 = .bool (C && !B))
set_option maxRecDepth 20000 in
set_option maxHeartbeats 4000000 in
theorem rd_region (D bx g h P f s : Nat) (kf ks : Int) (d : Ed) (R C B : Bool) (q0 q1 q2 q4 q6 q7 q8 q9 q10 q11 q12 q13 q14 q15 q41 : Value) (W0 : World) (i16 i17 i18 i19 i20 i21 i22 i23 i24 i25 i26 i27 i28 i29 i30 i31 i32 i33 i34 i35 i36 i37 i38 i39 i40 : Value) (hC : Hid (C = (R && decide (kf ≤ ks)))) (hf : f < P) (hsP : s < P) (hP : P ≤ 512) (hlt3 : D < W0.heap.size ∧ bx < W0.heap.size ∧ h < W0.heap.size) (hd0 : W0.cell? ⟨D, 0, none⟩ = some (.slice (some ⟨g, 0, none⟩) P P)) (hd1 : W0.cell? ⟨D, 1, none⟩ = some (.slice (some ⟨h, 0, none⟩) P P)) (hkf : W0.cell? ⟨h, f, none⟩ = some (.int .i64 kf)) (hks : W0.cell? ⟨h, s, none⟩ = some (.int .i64 ks)) (hd9 : EdAt W0 bx 0 d) (hdf : d.f = (f : Int)) (hds : d.t = (s : Int))
    (cr : ∀ W, Below W0.heap.size W0 W → Calls Try.prog 78 #[.agg #[.slice (some ⟨g, 0, none⟩) P P, .slice (some ⟨h, 0, none⟩) P P], .int .i64 (f : Int)] W fun e w' => e = .returned (.bool R) ∧ Below W.heap.size W w')
    (cb : ∀ W, Below W0.heap.size W0 W → Calls Try.prog 59 #[.agg #[.slice (some ⟨g, 0, none⟩) P P, .slice (some ⟨h, 0, none⟩) P P], .agg d.cs] W fun e w' => e = .returned (.bool B) ∧ Below W.heap.size W w') {Q : Exit → Act → World → Prop}
    (hQ : ∀ u16 u17 u18 u19 u20 u21 u22 u23 u24 u25 u26 u27 u28 u29 u30 u31 u32 u33 u34 u35 u36 u37 u38 u39 u40 w, Below W0.heap.size W0 w → (u16 = .agg #[.slice (some ⟨g, 0, none⟩) P P, .slice (some ⟨h, 0, none⟩) P P]) → (u17 = .pointer (some ⟨bx, 0, none⟩)) → (u18 = .int .i64 (f : Int)) → (u19 = .bool R) → (u20 = .bool R) → (R = true → u21 = .pointer (some ⟨D, 1, none⟩)) → (R = true → u22 = .slice (some ⟨h, 0, none⟩) P P) → (R = true → u23 = .pointer (some ⟨bx, 1, none⟩)) → (R = true → u24 = .int .i64 (s : Int)) → (R = true → u25 = .pointer (some ⟨h, s, none⟩)) → (R = true → u26 = .int .i64 ks) → (R = true → u27 = .pointer (some ⟨D, 1, none⟩)) → (R = true → u28 = .slice (some ⟨h, 0, none⟩) P P) → (R = true → u29 = .pointer (some ⟨bx, 0, none⟩)) → (R = true → u30 = .int .i64 (f : Int)) → (R = true → u31 = .pointer (some ⟨h, f, none⟩)) → (R = true → u32 = .int .i64 kf) → (R = true → u33 = .bool (decide (kf ≤ ks))) → (u34 = .bool C) → (u35 = .bool C) → (C = true → u36 = .agg #[.slice (some ⟨g, 0, none⟩) P P, .slice (some ⟨h, 0, none⟩) P P]) → (C = true → u37 = .agg d.cs) → (C = true → u38 = .bool B) → (C = true → u39 = .bool (!B)) → (u40 = .bool (C && !B)) → Q .normal (rdAct D bx q0 q1 q2 q4 q6 q7 q8 q9 q10 q11 q12 q13 q14 q15 q41 u16 u17 u18 u19 u20 u21 u22 u23 u24 u25 u26 u27 u28 u29 u30 u31 u32 u33 u34 u35 u36 u37 u38 u39 u40) w) :
    (Code.region 5 #[{ dst := some 16, op := Op.load 97 (Operand.tmp 3), type := 97, pos := "loop.go:46", after := #[], guard := none }, { dst := some 17, op := Op.fieldAddr 55 (Operand.tmp 5) 0, type := 0, pos := "loop.go:46", after := #[], guard := none }, { dst := some 18, op := Op.load 3 (Operand.tmp 17), type := 3, pos := "loop.go:46", after := #[{ on := 1, ground := Ground.data }], guard := none }, { dst := some 19, op := Op.call { callee := Callee.value (Operand.func 78), args := #[Operand.tmp 16, Operand.tmp 18], argTypes := #[97, 3] }, type := 4, pos := "loop.go:46", after := #[{ on := 0, ground := Ground.data }, { on := 2, ground := Ground.data }], guard := none }, { dst := some 20, op := Op.move (Operand.tmp 19), type := 4, pos := "loop.go:46", after := #[{ on := 3, ground := Ground.data }, { on := 3, ground := Ground.chain }], guard := none }, { dst := some 21, op := Op.fieldAddr 97 (Operand.tmp 3) 1, type := 0, pos := "loop.go:46", after := #[{ on := 4, ground := Ground.guard }], guard := some (4, true) }, { dst := some 22, op := Op.load 51 (Operand.tmp 21), type := 51, pos := "loop.go:46", after := #[{ on := 5, ground := Ground.data }, { on := 4, ground := Ground.guard }], guard := some (4, true) }, { dst := some 23, op := Op.fieldAddr 55 (Operand.tmp 5) 1, type := 0, pos := "loop.go:46", after := #[{ on := 4, ground := Ground.guard }], guard := some (4, true) }, { dst := some 24, op := Op.load 3 (Operand.tmp 23), type := 3, pos := "loop.go:46", after := #[{ on := 7, ground := Ground.data }, { on := 4, ground := Ground.guard }], guard := some (4, true) }, { dst := some 25, op := Op.indexAddr 51 (Operand.tmp 22) (Operand.tmp 24), type := 0, pos := "loop.go:46", after := #[{ on := 6, ground := Ground.data }, { on := 8, ground := Ground.data }, { on := 4, ground := Ground.guard }], guard := some (4, true) }, { dst := some 26, op := Op.load 3 (Operand.tmp 25), type := 3, pos := "loop.go:46", after := #[{ on := 9, ground := Ground.data }, { on := 4, ground := Ground.guard }], guard := some (4, true) }, { dst := some 27, op := Op.fieldAddr 97 (Operand.tmp 3) 1, type := 0, pos := "loop.go:46", after := #[{ on := 4, ground := Ground.guard }], guard := some (4, true) }, { dst := some 28, op := Op.load 51 (Operand.tmp 27), type := 51, pos := "loop.go:46", after := #[{ on := 11, ground := Ground.data }, { on := 4, ground := Ground.guard }], guard := some (4, true) }, { dst := some 29, op := Op.fieldAddr 55 (Operand.tmp 5) 0, type := 0, pos := "loop.go:46", after := #[{ on := 4, ground := Ground.guard }], guard := some (4, true) }, { dst := some 30, op := Op.load 3 (Operand.tmp 29), type := 3, pos := "loop.go:46", after := #[{ on := 13, ground := Ground.data }, { on := 4, ground := Ground.guard }], guard := some (4, true) }, { dst := some 31, op := Op.indexAddr 51 (Operand.tmp 28) (Operand.tmp 30), type := 0, pos := "loop.go:46", after := #[{ on := 12, ground := Ground.data }, { on := 14, ground := Ground.data }, { on := 4, ground := Ground.guard }], guard := some (4, true) }, { dst := some 32, op := Op.load 3 (Operand.tmp 31), type := 3, pos := "loop.go:46", after := #[{ on := 15, ground := Ground.data }, { on := 4, ground := Ground.guard }], guard := some (4, true) }, { dst := some 33, op := Op.binOp BinOp.geq 3 (Operand.tmp 26) (Operand.tmp 32) 3, type := 4, pos := "loop.go:46", after := #[{ on := 10, ground := Ground.data }, { on := 16, ground := Ground.data }, { on := 4, ground := Ground.guard }], guard := some (4, true) }, { dst := some 34, op := Op.pick (Operand.tmp 20) (Operand.tmp 33) (Operand.const (Value.bool false)), type := 4, pos := "loop.go:46", after := #[{ on := 4, ground := Ground.data }, { on := 17, ground := Ground.data }], guard := none }, { dst := some 35, op := Op.move (Operand.tmp 34), type := 4, pos := "loop.go:46", after := #[{ on := 18, ground := Ground.data }, { on := 4, ground := Ground.chain }], guard := none }, { dst := some 36, op := Op.load 97 (Operand.tmp 3), type := 97, pos := "loop.go:46", after := #[{ on := 19, ground := Ground.guard }], guard := some (19, true) }, { dst := some 37, op := Op.load 55 (Operand.tmp 5), type := 55, pos := "loop.go:46", after := #[{ on := 19, ground := Ground.guard }], guard := some (19, true) }, { dst := some 38, op := Op.call { callee := Callee.value (Operand.func 59), args := #[Operand.tmp 36, Operand.tmp 37], argTypes := #[97, 55] }, type := 4, pos := "loop.go:46", after := #[{ on := 20, ground := Ground.data }, { on := 21, ground := Ground.data }, { on := 19, ground := Ground.chain }, { on := 19, ground := Ground.guard }], guard := some (19, true) }, { dst := some 39, op := Op.unOp UnOp.not 4 (Operand.tmp 38), type := 4, pos := "loop.go:46", after := #[{ on := 22, ground := Ground.data }, { on := 19, ground := Ground.guard }], guard := some (19, true) }, { dst := some 40, op := Op.pick (Operand.tmp 35) (Operand.tmp 39) (Operand.const (Value.bool false)), type := 4, pos := "loop.go:46", after := #[{ on := 19, ground := Ground.data }, { on := 23, ground := Ground.data }], guard := none }] true).wp Try.prog Q (rdAct D bx q0 q1 q2 q4 q6 q7 q8 q9 q10 q11 q12 q13 q14 q15 q41 (i16) (i17) (i18) (i19) (i20) (i21) (i22) (i23) (i24) (i25) (i26) (i27) (i28) (i29) (i30) (i31) (i32) (i33) (i34) (i35) (i36) (i37) (i38) (i39) (i40)) W0 := by
  refine wp_region_inv (by kernel_rfl) (by kernel_rfl) (rdI D bx g h P f s kf ks d R C B q0 q1 q2 q4 q6 q7 q8 q9 q10 q11 q12 q13 q14 q15 q41 W0) ?_ ?_ ?_
  · refine ⟨_, _, _, _, _, _, _, _, _, _, _, _, _, _, _, _, _, _, _, _, _, _, _, _, _, rfl, (Below.refl _ _).drew, ?_, ?_, ?_, ?_, ?_, ?_, ?_, ?_, ?_, ?_, ?_, ?_, ?_, ?_, ?_, ?_, ?_, ?_, ?_, ?_, ?_, ?_, ?_, ?_, ?_⟩ <;> (intro e; simp at e)
  · intro listed a w i o hI hs ho hl hd
    have hi9 : i < 25 := (Array.getElem?_eq_some_iff.1 ho).1
    obtain ⟨u16, u17, u18, u19, u20, u21, u22, u23, u24, u25, u26, u27, u28, u29, u30, u31, u32, u33, u34, u35, u36, u37, u38, u39, u40, rfl, hB, h0, h1, h2, h3, h4, h5, h6, h7, h8, h9, h10, h11, h12, h13, h14, h15, h16, h17, h18, h19, h20, h21, h22, h23, h24⟩ := hI
    have hlB := hB.size
    rcases (show i = 0 ∨ i = 1 ∨ i = 2 ∨ i = 3 ∨ i = 4 ∨ i = 5 ∨ i = 6 ∨ i = 7 ∨ i = 8 ∨ i = 9 ∨ i = 10 ∨ i = 11 ∨ i = 12 ∨ i = 13 ∨ i = 14 ∨ i = 15 ∨ i = 16 ∨ i = 17 ∨ i = 18 ∨ i = 19 ∨ i = 20 ∨ i = 21 ∨ i = 22 ∨ i = 23 ∨ i = 24 by omega) with rfl | rfl | rfl | rfl | rfl | rfl | rfl | rfl | rfl | rfl | rfl | rfl | rfl | rfl | rfl | rfl | rfl | rfl | rfl | rfl | rfl | rfl | rfl | rfl | rfl
    · have ho' : some _ = some o := ho
      cases ho'
      obtain ⟨l1, l2, l3⟩ := hlt3
      have c0 := (hB.cell (p := ⟨D, 0, none⟩) l1).trans hd0
      have c1 := (hB.cell (p := ⟨D, 1, none⟩) l1).trans hd1
      have hbw : Below w.heap.size w w := Below.refl _ _
      unfold rdAct; go_simp
      exact ⟨.agg #[.slice (some ⟨g, 0, none⟩) P P, .slice (some ⟨h, 0, none⟩) P P], u17, u18, u19, u20, u21, u22, u23, u24, u25, u26, u27, u28, u29, u30, u31, u32, u33, u34, u35, u36, u37, u38, u39, u40, rfl, hB, fun _ => rfl, fun e1 => h1 (lset_ne (by decide) e1), fun e2 => h2 (lset_ne (by decide) e2), fun e3 => h3 (lset_ne (by decide) e3), fun e4 => h4 (lset_ne (by decide) e4), fun e5 => h5 (lset_ne (by decide) e5), fun e6 => h6 (lset_ne (by decide) e6), fun e7 => h7 (lset_ne (by decide) e7), fun e8 => h8 (lset_ne (by decide) e8), fun e9 => h9 (lset_ne (by decide) e9), fun e10 => h10 (lset_ne (by decide) e10), fun e11 => h11 (lset_ne (by decide) e11), fun e12 => h12 (lset_ne (by decide) e12), fun e13 => h13 (lset_ne (by decide) e13), fun e14 => h14 (lset_ne (by decide) e14), fun e15 => h15 (lset_ne (by decide) e15), fun e16 => h16 (lset_ne (by decide) e16), fun e17 => h17 (lset_ne (by decide) e17), fun e18 => h18 (lset_ne (by decide) e18), fun e19 => h19 (lset_ne (by decide) e19), fun e20 => h20 (lset_ne (by decide) e20), fun e21 => h21 (lset_ne (by decide) e21), fun e22 => h22 (lset_ne (by decide) e22), fun e23 => h23 (lset_ne (by decide) e23), fun e24 => h24 (lset_ne (by decide) e24)⟩
    · have ho' : some _ = some o := ho
      cases ho'
      have hbw : Below w.heap.size w w := Below.refl _ _
      unfold rdAct; go_simp
      exact ⟨u16, .pointer (some ⟨bx, 0, none⟩), u18, u19, u20, u21, u22, u23, u24, u25, u26, u27, u28, u29, u30, u31, u32, u33, u34, u35, u36, u37, u38, u39, u40, rfl, hB, fun e0 => h0 (lset_ne (by decide) e0), fun _ => rfl, fun e2 => h2 (lset_ne (by decide) e2), fun e3 => h3 (lset_ne (by decide) e3), fun e4 => h4 (lset_ne (by decide) e4), fun e5 => h5 (lset_ne (by decide) e5), fun e6 => h6 (lset_ne (by decide) e6), fun e7 => h7 (lset_ne (by decide) e7), fun e8 => h8 (lset_ne (by decide) e8), fun e9 => h9 (lset_ne (by decide) e9), fun e10 => h10 (lset_ne (by decide) e10), fun e11 => h11 (lset_ne (by decide) e11), fun e12 => h12 (lset_ne (by decide) e12), fun e13 => h13 (lset_ne (by decide) e13), fun e14 => h14 (lset_ne (by decide) e14), fun e15 => h15 (lset_ne (by decide) e15), fun e16 => h16 (lset_ne (by decide) e16), fun e17 => h17 (lset_ne (by decide) e17), fun e18 => h18 (lset_ne (by decide) e18), fun e19 => h19 (lset_ne (by decide) e19), fun e20 => h20 (lset_ne (by decide) e20), fun e21 => h21 (lset_ne (by decide) e21), fun e22 => h22 (lset_ne (by decide) e22), fun e23 => h23 (lset_ne (by decide) e23), fun e24 => h24 (lset_ne (by decide) e24)⟩
    · have ho' : some _ = some o := ho
      cases ho'
      have d1 := hd { on := 1, ground := .data } (by simp) rfl
      obtain ⟨l1, l2, l3⟩ := hlt3
      have c4 : w.cell? ⟨bx, 0, none⟩ = some (.int .i64 (f : Int)) := (hB.cell (p := ⟨bx, 0, none⟩) l2).trans (by have e9 : W0.cell? ⟨bx, 0, none⟩ = some (.int .i64 d.f) := hd9 0 _ rfl; rw [hdf] at e9; exact e9)
      have hbw : Below w.heap.size w w := Below.refl _ _
      have e1 := h1 d1
      subst e1
      unfold rdAct; go_simp
      exact ⟨u16, .pointer (some ⟨bx, 0, none⟩), .int .i64 (f : Int), u19, u20, u21, u22, u23, u24, u25, u26, u27, u28, u29, u30, u31, u32, u33, u34, u35, u36, u37, u38, u39, u40, rfl, hB, fun e0 => h0 (lset_ne (by decide) e0), fun e1 => h1 (lset_ne (by decide) e1), fun _ => rfl, fun e3 => h3 (lset_ne (by decide) e3), fun e4 => h4 (lset_ne (by decide) e4), fun e5 => h5 (lset_ne (by decide) e5), fun e6 => h6 (lset_ne (by decide) e6), fun e7 => h7 (lset_ne (by decide) e7), fun e8 => h8 (lset_ne (by decide) e8), fun e9 => h9 (lset_ne (by decide) e9), fun e10 => h10 (lset_ne (by decide) e10), fun e11 => h11 (lset_ne (by decide) e11), fun e12 => h12 (lset_ne (by decide) e12), fun e13 => h13 (lset_ne (by decide) e13), fun e14 => h14 (lset_ne (by decide) e14), fun e15 => h15 (lset_ne (by decide) e15), fun e16 => h16 (lset_ne (by decide) e16), fun e17 => h17 (lset_ne (by decide) e17), fun e18 => h18 (lset_ne (by decide) e18), fun e19 => h19 (lset_ne (by decide) e19), fun e20 => h20 (lset_ne (by decide) e20), fun e21 => h21 (lset_ne (by decide) e21), fun e22 => h22 (lset_ne (by decide) e22), fun e23 => h23 (lset_ne (by decide) e23), fun e24 => h24 (lset_ne (by decide) e24)⟩
    · have ho' : some _ = some o := ho
      cases ho'
      have d0 := hd { on := 0, ground := .data } (by simp) rfl
      have d2 := hd { on := 2, ground := .data } (by simp) rfl
      have e0 := h0 d0
      subst e0
      have e2 := h2 d2
      subst e2
      unfold rdAct; go_simp
      refine (cr w hB).mono ?_
      rintro e w' ⟨rfl, hbw⟩
      exact ⟨.agg #[.slice (some ⟨g, 0, none⟩) P P, .slice (some ⟨h, 0, none⟩) P P], u17, .int .i64 (f : Int), .bool R, u20, u21, u22, u23, u24, u25, u26, u27, u28, u29, u30, u31, u32, u33, u34, u35, u36, u37, u38, u39, u40, rfl, Below.chain hB hbw, fun e0 => h0 (lset_ne (by decide) e0), fun e1 => h1 (lset_ne (by decide) e1), fun e2 => h2 (lset_ne (by decide) e2), fun _ => rfl, fun e4 => h4 (lset_ne (by decide) e4), fun e5 => h5 (lset_ne (by decide) e5), fun e6 => h6 (lset_ne (by decide) e6), fun e7 => h7 (lset_ne (by decide) e7), fun e8 => h8 (lset_ne (by decide) e8), fun e9 => h9 (lset_ne (by decide) e9), fun e10 => h10 (lset_ne (by decide) e10), fun e11 => h11 (lset_ne (by decide) e11), fun e12 => h12 (lset_ne (by decide) e12), fun e13 => h13 (lset_ne (by decide) e13), fun e14 => h14 (lset_ne (by decide) e14), fun e15 => h15 (lset_ne (by decide) e15), fun e16 => h16 (lset_ne (by decide) e16), fun e17 => h17 (lset_ne (by decide) e17), fun e18 => h18 (lset_ne (by decide) e18), fun e19 => h19 (lset_ne (by decide) e19), fun e20 => h20 (lset_ne (by decide) e20), fun e21 => h21 (lset_ne (by decide) e21), fun e22 => h22 (lset_ne (by decide) e22), fun e23 => h23 (lset_ne (by decide) e23), fun e24 => h24 (lset_ne (by decide) e24)⟩
    · have ho' : some _ = some o := ho
      cases ho'
      have d3 := hd { on := 3, ground := .data } (by simp) rfl
      have d3 := hd { on := 3, ground := .chain } (by simp) rfl
      have hbw : Below w.heap.size w w := Below.refl _ _
      have e3 := h3 d3
      subst e3
      unfold rdAct; go_simp
      exact ⟨u16, u17, u18, .bool R, .bool R, u21, u22, u23, u24, u25, u26, u27, u28, u29, u30, u31, u32, u33, u34, u35, u36, u37, u38, u39, u40, rfl, hB, fun e0 => h0 (lset_ne (by decide) e0), fun e1 => h1 (lset_ne (by decide) e1), fun e2 => h2 (lset_ne (by decide) e2), fun e3 => h3 (lset_ne (by decide) e3), fun _ => rfl, fun e5 => h5 (lset_ne (by decide) e5), fun e6 => h6 (lset_ne (by decide) e6), fun e7 => h7 (lset_ne (by decide) e7), fun e8 => h8 (lset_ne (by decide) e8), fun e9 => h9 (lset_ne (by decide) e9), fun e10 => h10 (lset_ne (by decide) e10), fun e11 => h11 (lset_ne (by decide) e11), fun e12 => h12 (lset_ne (by decide) e12), fun e13 => h13 (lset_ne (by decide) e13), fun e14 => h14 (lset_ne (by decide) e14), fun e15 => h15 (lset_ne (by decide) e15), fun e16 => h16 (lset_ne (by decide) e16), fun e17 => h17 (lset_ne (by decide) e17), fun e18 => h18 (lset_ne (by decide) e18), fun e19 => h19 (lset_ne (by decide) e19), fun e20 => h20 (lset_ne (by decide) e20), fun e21 => h21 (lset_ne (by decide) e21), fun e22 => h22 (lset_ne (by decide) e22), fun e23 => h23 (lset_ne (by decide) e23), fun e24 => h24 (lset_ne (by decide) e24)⟩
    · have ho' : some _ = some o := ho
      cases ho'
      have d4 := hd { on := 4, ground := .guard } (by simp) rfl
      have hbw : Below w.heap.size w w := Below.refl _ _
      have eg := h4 d4
      subst eg
      cases R with
      | false =>
        unfold rdAct; go_simp
        exact ⟨u16, u17, u18, u19, .bool false, undef, u22, u23, u24, u25, u26, u27, u28, u29, u30, u31, u32, u33, u34, u35, u36, u37, u38, u39, u40, rfl, hB, fun e0 => h0 (lset_ne (by decide) e0), fun e1 => h1 (lset_ne (by decide) e1), fun e2 => h2 (lset_ne (by decide) e2), fun e3 => h3 (lset_ne (by decide) e3), fun e4 => h4 (lset_ne (by decide) e4), fun _ e => (by cases e), fun e6 => h6 (lset_ne (by decide) e6), fun e7 => h7 (lset_ne (by decide) e7), fun e8 => h8 (lset_ne (by decide) e8), fun e9 => h9 (lset_ne (by decide) e9), fun e10 => h10 (lset_ne (by decide) e10), fun e11 => h11 (lset_ne (by decide) e11), fun e12 => h12 (lset_ne (by decide) e12), fun e13 => h13 (lset_ne (by decide) e13), fun e14 => h14 (lset_ne (by decide) e14), fun e15 => h15 (lset_ne (by decide) e15), fun e16 => h16 (lset_ne (by decide) e16), fun e17 => h17 (lset_ne (by decide) e17), fun e18 => h18 (lset_ne (by decide) e18), fun e19 => h19 (lset_ne (by decide) e19), fun e20 => h20 (lset_ne (by decide) e20), fun e21 => h21 (lset_ne (by decide) e21), fun e22 => h22 (lset_ne (by decide) e22), fun e23 => h23 (lset_ne (by decide) e23), fun e24 => h24 (lset_ne (by decide) e24)⟩
      | true =>
        unfold rdAct; go_simp
        exact ⟨u16, u17, u18, u19, .bool true, .pointer (some ⟨D, 1, none⟩), u22, u23, u24, u25, u26, u27, u28, u29, u30, u31, u32, u33, u34, u35, u36, u37, u38, u39, u40, rfl, hB, fun e0 => h0 (lset_ne (by decide) e0), fun e1 => h1 (lset_ne (by decide) e1), fun e2 => h2 (lset_ne (by decide) e2), fun e3 => h3 (lset_ne (by decide) e3), fun e4 => h4 (lset_ne (by decide) e4), fun _ _ => rfl, fun e6 => h6 (lset_ne (by decide) e6), fun e7 => h7 (lset_ne (by decide) e7), fun e8 => h8 (lset_ne (by decide) e8), fun e9 => h9 (lset_ne (by decide) e9), fun e10 => h10 (lset_ne (by decide) e10), fun e11 => h11 (lset_ne (by decide) e11), fun e12 => h12 (lset_ne (by decide) e12), fun e13 => h13 (lset_ne (by decide) e13), fun e14 => h14 (lset_ne (by decide) e14), fun e15 => h15 (lset_ne (by decide) e15), fun e16 => h16 (lset_ne (by decide) e16), fun e17 => h17 (lset_ne (by decide) e17), fun e18 => h18 (lset_ne (by decide) e18), fun e19 => h19 (lset_ne (by decide) e19), fun e20 => h20 (lset_ne (by decide) e20), fun e21 => h21 (lset_ne (by decide) e21), fun e22 => h22 (lset_ne (by decide) e22), fun e23 => h23 (lset_ne (by decide) e23), fun e24 => h24 (lset_ne (by decide) e24)⟩
    · have ho' : some _ = some o := ho
      cases ho'
      have d5 := hd { on := 5, ground := .data } (by simp) rfl
      have d4 := hd { on := 4, ground := .guard } (by simp) rfl
      obtain ⟨l1, l2, l3⟩ := hlt3
      have c0 := (hB.cell (p := ⟨D, 0, none⟩) l1).trans hd0
      have c1 := (hB.cell (p := ⟨D, 1, none⟩) l1).trans hd1
      have hbw : Below w.heap.size w w := Below.refl _ _
      have eg := h4 d4
      subst eg
      cases R with
      | false =>
        unfold rdAct; go_simp
        exact ⟨u16, u17, u18, u19, .bool false, u21, undef, u23, u24, u25, u26, u27, u28, u29, u30, u31, u32, u33, u34, u35, u36, u37, u38, u39, u40, rfl, hB, fun e0 => h0 (lset_ne (by decide) e0), fun e1 => h1 (lset_ne (by decide) e1), fun e2 => h2 (lset_ne (by decide) e2), fun e3 => h3 (lset_ne (by decide) e3), fun e4 => h4 (lset_ne (by decide) e4), fun e5 => h5 (lset_ne (by decide) e5), fun _ e => (by cases e), fun e7 => h7 (lset_ne (by decide) e7), fun e8 => h8 (lset_ne (by decide) e8), fun e9 => h9 (lset_ne (by decide) e9), fun e10 => h10 (lset_ne (by decide) e10), fun e11 => h11 (lset_ne (by decide) e11), fun e12 => h12 (lset_ne (by decide) e12), fun e13 => h13 (lset_ne (by decide) e13), fun e14 => h14 (lset_ne (by decide) e14), fun e15 => h15 (lset_ne (by decide) e15), fun e16 => h16 (lset_ne (by decide) e16), fun e17 => h17 (lset_ne (by decide) e17), fun e18 => h18 (lset_ne (by decide) e18), fun e19 => h19 (lset_ne (by decide) e19), fun e20 => h20 (lset_ne (by decide) e20), fun e21 => h21 (lset_ne (by decide) e21), fun e22 => h22 (lset_ne (by decide) e22), fun e23 => h23 (lset_ne (by decide) e23), fun e24 => h24 (lset_ne (by decide) e24)⟩
      | true =>
        have e5 := h5 d5 rfl
        subst e5
        unfold rdAct; go_simp
        exact ⟨u16, u17, u18, u19, .bool true, .pointer (some ⟨D, 1, none⟩), .slice (some ⟨h, 0, none⟩) P P, u23, u24, u25, u26, u27, u28, u29, u30, u31, u32, u33, u34, u35, u36, u37, u38, u39, u40, rfl, hB, fun e0 => h0 (lset_ne (by decide) e0), fun e1 => h1 (lset_ne (by decide) e1), fun e2 => h2 (lset_ne (by decide) e2), fun e3 => h3 (lset_ne (by decide) e3), fun e4 => h4 (lset_ne (by decide) e4), fun e5 => h5 (lset_ne (by decide) e5), fun _ _ => rfl, fun e7 => h7 (lset_ne (by decide) e7), fun e8 => h8 (lset_ne (by decide) e8), fun e9 => h9 (lset_ne (by decide) e9), fun e10 => h10 (lset_ne (by decide) e10), fun e11 => h11 (lset_ne (by decide) e11), fun e12 => h12 (lset_ne (by decide) e12), fun e13 => h13 (lset_ne (by decide) e13), fun e14 => h14 (lset_ne (by decide) e14), fun e15 => h15 (lset_ne (by decide) e15), fun e16 => h16 (lset_ne (by decide) e16), fun e17 => h17 (lset_ne (by decide) e17), fun e18 => h18 (lset_ne (by decide) e18), fun e19 => h19 (lset_ne (by decide) e19), fun e20 => h20 (lset_ne (by decide) e20), fun e21 => h21 (lset_ne (by decide) e21), fun e22 => h22 (lset_ne (by decide) e22), fun e23 => h23 (lset_ne (by decide) e23), fun e24 => h24 (lset_ne (by decide) e24)⟩
    · have ho' : some _ = some o := ho
      cases ho'
      have d4 := hd { on := 4, ground := .guard } (by simp) rfl
      have hbw : Below w.heap.size w w := Below.refl _ _
      have eg := h4 d4
      subst eg
      cases R with
      | false =>
        unfold rdAct; go_simp
        exact ⟨u16, u17, u18, u19, .bool false, u21, u22, undef, u24, u25, u26, u27, u28, u29, u30, u31, u32, u33, u34, u35, u36, u37, u38, u39, u40, rfl, hB, fun e0 => h0 (lset_ne (by decide) e0), fun e1 => h1 (lset_ne (by decide) e1), fun e2 => h2 (lset_ne (by decide) e2), fun e3 => h3 (lset_ne (by decide) e3), fun e4 => h4 (lset_ne (by decide) e4), fun e5 => h5 (lset_ne (by decide) e5), fun e6 => h6 (lset_ne (by decide) e6), fun _ e => (by cases e), fun e8 => h8 (lset_ne (by decide) e8), fun e9 => h9 (lset_ne (by decide) e9), fun e10 => h10 (lset_ne (by decide) e10), fun e11 => h11 (lset_ne (by decide) e11), fun e12 => h12 (lset_ne (by decide) e12), fun e13 => h13 (lset_ne (by decide) e13), fun e14 => h14 (lset_ne (by decide) e14), fun e15 => h15 (lset_ne (by decide) e15), fun e16 => h16 (lset_ne (by decide) e16), fun e17 => h17 (lset_ne (by decide) e17), fun e18 => h18 (lset_ne (by decide) e18), fun e19 => h19 (lset_ne (by decide) e19), fun e20 => h20 (lset_ne (by decide) e20), fun e21 => h21 (lset_ne (by decide) e21), fun e22 => h22 (lset_ne (by decide) e22), fun e23 => h23 (lset_ne (by decide) e23), fun e24 => h24 (lset_ne (by decide) e24)⟩
      | true =>
        unfold rdAct; go_simp
        exact ⟨u16, u17, u18, u19, .bool true, u21, u22, .pointer (some ⟨bx, 1, none⟩), u24, u25, u26, u27, u28, u29, u30, u31, u32, u33, u34, u35, u36, u37, u38, u39, u40, rfl, hB, fun e0 => h0 (lset_ne (by decide) e0), fun e1 => h1 (lset_ne (by decide) e1), fun e2 => h2 (lset_ne (by decide) e2), fun e3 => h3 (lset_ne (by decide) e3), fun e4 => h4 (lset_ne (by decide) e4), fun e5 => h5 (lset_ne (by decide) e5), fun e6 => h6 (lset_ne (by decide) e6), fun _ _ => rfl, fun e8 => h8 (lset_ne (by decide) e8), fun e9 => h9 (lset_ne (by decide) e9), fun e10 => h10 (lset_ne (by decide) e10), fun e11 => h11 (lset_ne (by decide) e11), fun e12 => h12 (lset_ne (by decide) e12), fun e13 => h13 (lset_ne (by decide) e13), fun e14 => h14 (lset_ne (by decide) e14), fun e15 => h15 (lset_ne (by decide) e15), fun e16 => h16 (lset_ne (by decide) e16), fun e17 => h17 (lset_ne (by decide) e17), fun e18 => h18 (lset_ne (by decide) e18), fun e19 => h19 (lset_ne (by decide) e19), fun e20 => h20 (lset_ne (by decide) e20), fun e21 => h21 (lset_ne (by decide) e21), fun e22 => h22 (lset_ne (by decide) e22), fun e23 => h23 (lset_ne (by decide) e23), fun e24 => h24 (lset_ne (by decide) e24)⟩
    · have ho' : some _ = some o := ho
      cases ho'
      have d7 := hd { on := 7, ground := .data } (by simp) rfl
      have d4 := hd { on := 4, ground := .guard } (by simp) rfl
      obtain ⟨l1, l2, l3⟩ := hlt3
      have c5 : w.cell? ⟨bx, 1, none⟩ = some (.int .i64 (s : Int)) := (hB.cell (p := ⟨bx, 1, none⟩) l2).trans (by have e9 : W0.cell? ⟨bx, 1, none⟩ = some (.int .i64 d.t) := (by have e8 := hd9 1 (.int .i64 d.t) rfl; rwa [Nat.zero_add] at e8); rw [hds] at e9; exact e9)
      have hbw : Below w.heap.size w w := Below.refl _ _
      have eg := h4 d4
      subst eg
      cases R with
      | false =>
        unfold rdAct; go_simp
        exact ⟨u16, u17, u18, u19, .bool false, u21, u22, u23, undef, u25, u26, u27, u28, u29, u30, u31, u32, u33, u34, u35, u36, u37, u38, u39, u40, rfl, hB, fun e0 => h0 (lset_ne (by decide) e0), fun e1 => h1 (lset_ne (by decide) e1), fun e2 => h2 (lset_ne (by decide) e2), fun e3 => h3 (lset_ne (by decide) e3), fun e4 => h4 (lset_ne (by decide) e4), fun e5 => h5 (lset_ne (by decide) e5), fun e6 => h6 (lset_ne (by decide) e6), fun e7 => h7 (lset_ne (by decide) e7), fun _ e => (by cases e), fun e9 => h9 (lset_ne (by decide) e9), fun e10 => h10 (lset_ne (by decide) e10), fun e11 => h11 (lset_ne (by decide) e11), fun e12 => h12 (lset_ne (by decide) e12), fun e13 => h13 (lset_ne (by decide) e13), fun e14 => h14 (lset_ne (by decide) e14), fun e15 => h15 (lset_ne (by decide) e15), fun e16 => h16 (lset_ne (by decide) e16), fun e17 => h17 (lset_ne (by decide) e17), fun e18 => h18 (lset_ne (by decide) e18), fun e19 => h19 (lset_ne (by decide) e19), fun e20 => h20 (lset_ne (by decide) e20), fun e21 => h21 (lset_ne (by decide) e21), fun e22 => h22 (lset_ne (by decide) e22), fun e23 => h23 (lset_ne (by decide) e23), fun e24 => h24 (lset_ne (by decide) e24)⟩
      | true =>
        have e7 := h7 d7 rfl
        subst e7
        unfold rdAct; go_simp
        exact ⟨u16, u17, u18, u19, .bool true, u21, u22, .pointer (some ⟨bx, 1, none⟩), .int .i64 (s : Int), u25, u26, u27, u28, u29, u30, u31, u32, u33, u34, u35, u36, u37, u38, u39, u40, rfl, hB, fun e0 => h0 (lset_ne (by decide) e0), fun e1 => h1 (lset_ne (by decide) e1), fun e2 => h2 (lset_ne (by decide) e2), fun e3 => h3 (lset_ne (by decide) e3), fun e4 => h4 (lset_ne (by decide) e4), fun e5 => h5 (lset_ne (by decide) e5), fun e6 => h6 (lset_ne (by decide) e6), fun e7 => h7 (lset_ne (by decide) e7), fun _ _ => rfl, fun e9 => h9 (lset_ne (by decide) e9), fun e10 => h10 (lset_ne (by decide) e10), fun e11 => h11 (lset_ne (by decide) e11), fun e12 => h12 (lset_ne (by decide) e12), fun e13 => h13 (lset_ne (by decide) e13), fun e14 => h14 (lset_ne (by decide) e14), fun e15 => h15 (lset_ne (by decide) e15), fun e16 => h16 (lset_ne (by decide) e16), fun e17 => h17 (lset_ne (by decide) e17), fun e18 => h18 (lset_ne (by decide) e18), fun e19 => h19 (lset_ne (by decide) e19), fun e20 => h20 (lset_ne (by decide) e20), fun e21 => h21 (lset_ne (by decide) e21), fun e22 => h22 (lset_ne (by decide) e22), fun e23 => h23 (lset_ne (by decide) e23), fun e24 => h24 (lset_ne (by decide) e24)⟩
    · have ho' : some _ = some o := ho
      cases ho'
      have d6 := hd { on := 6, ground := .data } (by simp) rfl
      have d8 := hd { on := 8, ground := .data } (by simp) rfl
      have d4 := hd { on := 4, ground := .guard } (by simp) rfl
      have p2 : (0 : Int) ≤ (s : Int) := by omega
      have p3 : (s : Int) < (P : Int) := by omega
      have hbw : Below w.heap.size w w := Below.refl _ _
      have eg := h4 d4
      subst eg
      cases R with
      | false =>
        unfold rdAct; go_simp
        exact ⟨u16, u17, u18, u19, .bool false, u21, u22, u23, u24, undef, u26, u27, u28, u29, u30, u31, u32, u33, u34, u35, u36, u37, u38, u39, u40, rfl, hB, fun e0 => h0 (lset_ne (by decide) e0), fun e1 => h1 (lset_ne (by decide) e1), fun e2 => h2 (lset_ne (by decide) e2), fun e3 => h3 (lset_ne (by decide) e3), fun e4 => h4 (lset_ne (by decide) e4), fun e5 => h5 (lset_ne (by decide) e5), fun e6 => h6 (lset_ne (by decide) e6), fun e7 => h7 (lset_ne (by decide) e7), fun e8 => h8 (lset_ne (by decide) e8), fun _ e => (by cases e), fun e10 => h10 (lset_ne (by decide) e10), fun e11 => h11 (lset_ne (by decide) e11), fun e12 => h12 (lset_ne (by decide) e12), fun e13 => h13 (lset_ne (by decide) e13), fun e14 => h14 (lset_ne (by decide) e14), fun e15 => h15 (lset_ne (by decide) e15), fun e16 => h16 (lset_ne (by decide) e16), fun e17 => h17 (lset_ne (by decide) e17), fun e18 => h18 (lset_ne (by decide) e18), fun e19 => h19 (lset_ne (by decide) e19), fun e20 => h20 (lset_ne (by decide) e20), fun e21 => h21 (lset_ne (by decide) e21), fun e22 => h22 (lset_ne (by decide) e22), fun e23 => h23 (lset_ne (by decide) e23), fun e24 => h24 (lset_ne (by decide) e24)⟩
      | true =>
        have e6 := h6 d6 rfl
        subst e6
        have e8 := h8 d8 rfl
        subst e8
        unfold rdAct; go_simp
        exact ⟨u16, u17, u18, u19, .bool true, u21, .slice (some ⟨h, 0, none⟩) P P, u23, .int .i64 (s : Int), .pointer (some ⟨h, s, none⟩), u26, u27, u28, u29, u30, u31, u32, u33, u34, u35, u36, u37, u38, u39, u40, rfl, hB, fun e0 => h0 (lset_ne (by decide) e0), fun e1 => h1 (lset_ne (by decide) e1), fun e2 => h2 (lset_ne (by decide) e2), fun e3 => h3 (lset_ne (by decide) e3), fun e4 => h4 (lset_ne (by decide) e4), fun e5 => h5 (lset_ne (by decide) e5), fun e6 => h6 (lset_ne (by decide) e6), fun e7 => h7 (lset_ne (by decide) e7), fun e8 => h8 (lset_ne (by decide) e8), fun _ _ => rfl, fun e10 => h10 (lset_ne (by decide) e10), fun e11 => h11 (lset_ne (by decide) e11), fun e12 => h12 (lset_ne (by decide) e12), fun e13 => h13 (lset_ne (by decide) e13), fun e14 => h14 (lset_ne (by decide) e14), fun e15 => h15 (lset_ne (by decide) e15), fun e16 => h16 (lset_ne (by decide) e16), fun e17 => h17 (lset_ne (by decide) e17), fun e18 => h18 (lset_ne (by decide) e18), fun e19 => h19 (lset_ne (by decide) e19), fun e20 => h20 (lset_ne (by decide) e20), fun e21 => h21 (lset_ne (by decide) e21), fun e22 => h22 (lset_ne (by decide) e22), fun e23 => h23 (lset_ne (by decide) e23), fun e24 => h24 (lset_ne (by decide) e24)⟩
    · have ho' : some _ = some o := ho
      cases ho'
      have d9 := hd { on := 9, ground := .data } (by simp) rfl
      have d4 := hd { on := 4, ground := .guard } (by simp) rfl
      obtain ⟨l1, l2, l3⟩ := hlt3
      have c3 := (hB.cell (p := ⟨h, s, none⟩) l3).trans hks
      have hbw : Below w.heap.size w w := Below.refl _ _
      have eg := h4 d4
      subst eg
      cases R with
      | false =>
        unfold rdAct; go_simp
        exact ⟨u16, u17, u18, u19, .bool false, u21, u22, u23, u24, u25, undef, u27, u28, u29, u30, u31, u32, u33, u34, u35, u36, u37, u38, u39, u40, rfl, hB, fun e0 => h0 (lset_ne (by decide) e0), fun e1 => h1 (lset_ne (by decide) e1), fun e2 => h2 (lset_ne (by decide) e2), fun e3 => h3 (lset_ne (by decide) e3), fun e4 => h4 (lset_ne (by decide) e4), fun e5 => h5 (lset_ne (by decide) e5), fun e6 => h6 (lset_ne (by decide) e6), fun e7 => h7 (lset_ne (by decide) e7), fun e8 => h8 (lset_ne (by decide) e8), fun e9 => h9 (lset_ne (by decide) e9), fun _ e => (by cases e), fun e11 => h11 (lset_ne (by decide) e11), fun e12 => h12 (lset_ne (by decide) e12), fun e13 => h13 (lset_ne (by decide) e13), fun e14 => h14 (lset_ne (by decide) e14), fun e15 => h15 (lset_ne (by decide) e15), fun e16 => h16 (lset_ne (by decide) e16), fun e17 => h17 (lset_ne (by decide) e17), fun e18 => h18 (lset_ne (by decide) e18), fun e19 => h19 (lset_ne (by decide) e19), fun e20 => h20 (lset_ne (by decide) e20), fun e21 => h21 (lset_ne (by decide) e21), fun e22 => h22 (lset_ne (by decide) e22), fun e23 => h23 (lset_ne (by decide) e23), fun e24 => h24 (lset_ne (by decide) e24)⟩
      | true =>
        have e9 := h9 d9 rfl
        subst e9
        unfold rdAct; go_simp
        exact ⟨u16, u17, u18, u19, .bool true, u21, u22, u23, u24, .pointer (some ⟨h, s, none⟩), .int .i64 ks, u27, u28, u29, u30, u31, u32, u33, u34, u35, u36, u37, u38, u39, u40, rfl, hB, fun e0 => h0 (lset_ne (by decide) e0), fun e1 => h1 (lset_ne (by decide) e1), fun e2 => h2 (lset_ne (by decide) e2), fun e3 => h3 (lset_ne (by decide) e3), fun e4 => h4 (lset_ne (by decide) e4), fun e5 => h5 (lset_ne (by decide) e5), fun e6 => h6 (lset_ne (by decide) e6), fun e7 => h7 (lset_ne (by decide) e7), fun e8 => h8 (lset_ne (by decide) e8), fun e9 => h9 (lset_ne (by decide) e9), fun _ _ => rfl, fun e11 => h11 (lset_ne (by decide) e11), fun e12 => h12 (lset_ne (by decide) e12), fun e13 => h13 (lset_ne (by decide) e13), fun e14 => h14 (lset_ne (by decide) e14), fun e15 => h15 (lset_ne (by decide) e15), fun e16 => h16 (lset_ne (by decide) e16), fun e17 => h17 (lset_ne (by decide) e17), fun e18 => h18 (lset_ne (by decide) e18), fun e19 => h19 (lset_ne (by decide) e19), fun e20 => h20 (lset_ne (by decide) e20), fun e21 => h21 (lset_ne (by decide) e21), fun e22 => h22 (lset_ne (by decide) e22), fun e23 => h23 (lset_ne (by decide) e23), fun e24 => h24 (lset_ne (by decide) e24)⟩
    · have ho' : some _ = some o := ho
      cases ho'
      have d4 := hd { on := 4, ground := .guard } (by simp) rfl
      have hbw : Below w.heap.size w w := Below.refl _ _
      have eg := h4 d4
      subst eg
      cases R with
      | false =>
        unfold rdAct; go_simp
        exact ⟨u16, u17, u18, u19, .bool false, u21, u22, u23, u24, u25, u26, undef, u28, u29, u30, u31, u32, u33, u34, u35, u36, u37, u38, u39, u40, rfl, hB, fun e0 => h0 (lset_ne (by decide) e0), fun e1 => h1 (lset_ne (by decide) e1), fun e2 => h2 (lset_ne (by decide) e2), fun e3 => h3 (lset_ne (by decide) e3), fun e4 => h4 (lset_ne (by decide) e4), fun e5 => h5 (lset_ne (by decide) e5), fun e6 => h6 (lset_ne (by decide) e6), fun e7 => h7 (lset_ne (by decide) e7), fun e8 => h8 (lset_ne (by decide) e8), fun e9 => h9 (lset_ne (by decide) e9), fun e10 => h10 (lset_ne (by decide) e10), fun _ e => (by cases e), fun e12 => h12 (lset_ne (by decide) e12), fun e13 => h13 (lset_ne (by decide) e13), fun e14 => h14 (lset_ne (by decide) e14), fun e15 => h15 (lset_ne (by decide) e15), fun e16 => h16 (lset_ne (by decide) e16), fun e17 => h17 (lset_ne (by decide) e17), fun e18 => h18 (lset_ne (by decide) e18), fun e19 => h19 (lset_ne (by decide) e19), fun e20 => h20 (lset_ne (by decide) e20), fun e21 => h21 (lset_ne (by decide) e21), fun e22 => h22 (lset_ne (by decide) e22), fun e23 => h23 (lset_ne (by decide) e23), fun e24 => h24 (lset_ne (by decide) e24)⟩
      | true =>
        unfold rdAct; go_simp
        exact ⟨u16, u17, u18, u19, .bool true, u21, u22, u23, u24, u25, u26, .pointer (some ⟨D, 1, none⟩), u28, u29, u30, u31, u32, u33, u34, u35, u36, u37, u38, u39, u40, rfl, hB, fun e0 => h0 (lset_ne (by decide) e0), fun e1 => h1 (lset_ne (by decide) e1), fun e2 => h2 (lset_ne (by decide) e2), fun e3 => h3 (lset_ne (by decide) e3), fun e4 => h4 (lset_ne (by decide) e4), fun e5 => h5 (lset_ne (by decide) e5), fun e6 => h6 (lset_ne (by decide) e6), fun e7 => h7 (lset_ne (by decide) e7), fun e8 => h8 (lset_ne (by decide) e8), fun e9 => h9 (lset_ne (by decide) e9), fun e10 => h10 (lset_ne (by decide) e10), fun _ _ => rfl, fun e12 => h12 (lset_ne (by decide) e12), fun e13 => h13 (lset_ne (by decide) e13), fun e14 => h14 (lset_ne (by decide) e14), fun e15 => h15 (lset_ne (by decide) e15), fun e16 => h16 (lset_ne (by decide) e16), fun e17 => h17 (lset_ne (by decide) e17), fun e18 => h18 (lset_ne (by decide) e18), fun e19 => h19 (lset_ne (by decide) e19), fun e20 => h20 (lset_ne (by decide) e20), fun e21 => h21 (lset_ne (by decide) e21), fun e22 => h22 (lset_ne (by decide) e22), fun e23 => h23 (lset_ne (by decide) e23), fun e24 => h24 (lset_ne (by decide) e24)⟩
    · have ho' : some _ = some o := ho
      cases ho'
      have d11 := hd { on := 11, ground := .data } (by simp) rfl
      have d4 := hd { on := 4, ground := .guard } (by simp) rfl
      obtain ⟨l1, l2, l3⟩ := hlt3
      have c0 := (hB.cell (p := ⟨D, 0, none⟩) l1).trans hd0
      have c1 := (hB.cell (p := ⟨D, 1, none⟩) l1).trans hd1
      have hbw : Below w.heap.size w w := Below.refl _ _
      have eg := h4 d4
      subst eg
      cases R with
      | false =>
        unfold rdAct; go_simp
        exact ⟨u16, u17, u18, u19, .bool false, u21, u22, u23, u24, u25, u26, u27, undef, u29, u30, u31, u32, u33, u34, u35, u36, u37, u38, u39, u40, rfl, hB, fun e0 => h0 (lset_ne (by decide) e0), fun e1 => h1 (lset_ne (by decide) e1), fun e2 => h2 (lset_ne (by decide) e2), fun e3 => h3 (lset_ne (by decide) e3), fun e4 => h4 (lset_ne (by decide) e4), fun e5 => h5 (lset_ne (by decide) e5), fun e6 => h6 (lset_ne (by decide) e6), fun e7 => h7 (lset_ne (by decide) e7), fun e8 => h8 (lset_ne (by decide) e8), fun e9 => h9 (lset_ne (by decide) e9), fun e10 => h10 (lset_ne (by decide) e10), fun e11 => h11 (lset_ne (by decide) e11), fun _ e => (by cases e), fun e13 => h13 (lset_ne (by decide) e13), fun e14 => h14 (lset_ne (by decide) e14), fun e15 => h15 (lset_ne (by decide) e15), fun e16 => h16 (lset_ne (by decide) e16), fun e17 => h17 (lset_ne (by decide) e17), fun e18 => h18 (lset_ne (by decide) e18), fun e19 => h19 (lset_ne (by decide) e19), fun e20 => h20 (lset_ne (by decide) e20), fun e21 => h21 (lset_ne (by decide) e21), fun e22 => h22 (lset_ne (by decide) e22), fun e23 => h23 (lset_ne (by decide) e23), fun e24 => h24 (lset_ne (by decide) e24)⟩
      | true =>
        have e11 := h11 d11 rfl
        subst e11
        unfold rdAct; go_simp
        exact ⟨u16, u17, u18, u19, .bool true, u21, u22, u23, u24, u25, u26, .pointer (some ⟨D, 1, none⟩), .slice (some ⟨h, 0, none⟩) P P, u29, u30, u31, u32, u33, u34, u35, u36, u37, u38, u39, u40, rfl, hB, fun e0 => h0 (lset_ne (by decide) e0), fun e1 => h1 (lset_ne (by decide) e1), fun e2 => h2 (lset_ne (by decide) e2), fun e3 => h3 (lset_ne (by decide) e3), fun e4 => h4 (lset_ne (by decide) e4), fun e5 => h5 (lset_ne (by decide) e5), fun e6 => h6 (lset_ne (by decide) e6), fun e7 => h7 (lset_ne (by decide) e7), fun e8 => h8 (lset_ne (by decide) e8), fun e9 => h9 (lset_ne (by decide) e9), fun e10 => h10 (lset_ne (by decide) e10), fun e11 => h11 (lset_ne (by decide) e11), fun _ _ => rfl, fun e13 => h13 (lset_ne (by decide) e13), fun e14 => h14 (lset_ne (by decide) e14), fun e15 => h15 (lset_ne (by decide) e15), fun e16 => h16 (lset_ne (by decide) e16), fun e17 => h17 (lset_ne (by decide) e17), fun e18 => h18 (lset_ne (by decide) e18), fun e19 => h19 (lset_ne (by decide) e19), fun e20 => h20 (lset_ne (by decide) e20), fun e21 => h21 (lset_ne (by decide) e21), fun e22 => h22 (lset_ne (by decide) e22), fun e23 => h23 (lset_ne (by decide) e23), fun e24 => h24 (lset_ne (by decide) e24)⟩
    · have ho' : some _ = some o := ho
      cases ho'
      have d4 := hd { on := 4, ground := .guard } (by simp) rfl
      have hbw : Below w.heap.size w w := Below.refl _ _
      have eg := h4 d4
      subst eg
      cases R with
      | false =>
        unfold rdAct; go_simp
        exact ⟨u16, u17, u18, u19, .bool false, u21, u22, u23, u24, u25, u26, u27, u28, undef, u30, u31, u32, u33, u34, u35, u36, u37, u38, u39, u40, rfl, hB, fun e0 => h0 (lset_ne (by decide) e0), fun e1 => h1 (lset_ne (by decide) e1), fun e2 => h2 (lset_ne (by decide) e2), fun e3 => h3 (lset_ne (by decide) e3), fun e4 => h4 (lset_ne (by decide) e4), fun e5 => h5 (lset_ne (by decide) e5), fun e6 => h6 (lset_ne (by decide) e6), fun e7 => h7 (lset_ne (by decide) e7), fun e8 => h8 (lset_ne (by decide) e8), fun e9 => h9 (lset_ne (by decide) e9), fun e10 => h10 (lset_ne (by decide) e10), fun e11 => h11 (lset_ne (by decide) e11), fun e12 => h12 (lset_ne (by decide) e12), fun _ e => (by cases e), fun e14 => h14 (lset_ne (by decide) e14), fun e15 => h15 (lset_ne (by decide) e15), fun e16 => h16 (lset_ne (by decide) e16), fun e17 => h17 (lset_ne (by decide) e17), fun e18 => h18 (lset_ne (by decide) e18), fun e19 => h19 (lset_ne (by decide) e19), fun e20 => h20 (lset_ne (by decide) e20), fun e21 => h21 (lset_ne (by decide) e21), fun e22 => h22 (lset_ne (by decide) e22), fun e23 => h23 (lset_ne (by decide) e23), fun e24 => h24 (lset_ne (by decide) e24)⟩
      | true =>
        unfold rdAct; go_simp
        exact ⟨u16, u17, u18, u19, .bool true, u21, u22, u23, u24, u25, u26, u27, u28, .pointer (some ⟨bx, 0, none⟩), u30, u31, u32, u33, u34, u35, u36, u37, u38, u39, u40, rfl, hB, fun e0 => h0 (lset_ne (by decide) e0), fun e1 => h1 (lset_ne (by decide) e1), fun e2 => h2 (lset_ne (by decide) e2), fun e3 => h3 (lset_ne (by decide) e3), fun e4 => h4 (lset_ne (by decide) e4), fun e5 => h5 (lset_ne (by decide) e5), fun e6 => h6 (lset_ne (by decide) e6), fun e7 => h7 (lset_ne (by decide) e7), fun e8 => h8 (lset_ne (by decide) e8), fun e9 => h9 (lset_ne (by decide) e9), fun e10 => h10 (lset_ne (by decide) e10), fun e11 => h11 (lset_ne (by decide) e11), fun e12 => h12 (lset_ne (by decide) e12), fun _ _ => rfl, fun e14 => h14 (lset_ne (by decide) e14), fun e15 => h15 (lset_ne (by decide) e15), fun e16 => h16 (lset_ne (by decide) e16), fun e17 => h17 (lset_ne (by decide) e17), fun e18 => h18 (lset_ne (by decide) e18), fun e19 => h19 (lset_ne (by decide) e19), fun e20 => h20 (lset_ne (by decide) e20), fun e21 => h21 (lset_ne (by decide) e21), fun e22 => h22 (lset_ne (by decide) e22), fun e23 => h23 (lset_ne (by decide) e23), fun e24 => h24 (lset_ne (by decide) e24)⟩
    · have ho' : some _ = some o := ho
      cases ho'
      have d13 := hd { on := 13, ground := .data } (by simp) rfl
      have d4 := hd { on := 4, ground := .guard } (by simp) rfl
      obtain ⟨l1, l2, l3⟩ := hlt3
      have c4 : w.cell? ⟨bx, 0, none⟩ = some (.int .i64 (f : Int)) := (hB.cell (p := ⟨bx, 0, none⟩) l2).trans (by have e9 : W0.cell? ⟨bx, 0, none⟩ = some (.int .i64 d.f) := hd9 0 _ rfl; rw [hdf] at e9; exact e9)
      have hbw : Below w.heap.size w w := Below.refl _ _
      have eg := h4 d4
      subst eg
      cases R with
      | false =>
        unfold rdAct; go_simp
        exact ⟨u16, u17, u18, u19, .bool false, u21, u22, u23, u24, u25, u26, u27, u28, u29, undef, u31, u32, u33, u34, u35, u36, u37, u38, u39, u40, rfl, hB, fun e0 => h0 (lset_ne (by decide) e0), fun e1 => h1 (lset_ne (by decide) e1), fun e2 => h2 (lset_ne (by decide) e2), fun e3 => h3 (lset_ne (by decide) e3), fun e4 => h4 (lset_ne (by decide) e4), fun e5 => h5 (lset_ne (by decide) e5), fun e6 => h6 (lset_ne (by decide) e6), fun e7 => h7 (lset_ne (by decide) e7), fun e8 => h8 (lset_ne (by decide) e8), fun e9 => h9 (lset_ne (by decide) e9), fun e10 => h10 (lset_ne (by decide) e10), fun e11 => h11 (lset_ne (by decide) e11), fun e12 => h12 (lset_ne (by decide) e12), fun e13 => h13 (lset_ne (by decide) e13), fun _ e => (by cases e), fun e15 => h15 (lset_ne (by decide) e15), fun e16 => h16 (lset_ne (by decide) e16), fun e17 => h17 (lset_ne (by decide) e17), fun e18 => h18 (lset_ne (by decide) e18), fun e19 => h19 (lset_ne (by decide) e19), fun e20 => h20 (lset_ne (by decide) e20), fun e21 => h21 (lset_ne (by decide) e21), fun e22 => h22 (lset_ne (by decide) e22), fun e23 => h23 (lset_ne (by decide) e23), fun e24 => h24 (lset_ne (by decide) e24)⟩
      | true =>
        have e13 := h13 d13 rfl
        subst e13
        unfold rdAct; go_simp
        exact ⟨u16, u17, u18, u19, .bool true, u21, u22, u23, u24, u25, u26, u27, u28, .pointer (some ⟨bx, 0, none⟩), .int .i64 (f : Int), u31, u32, u33, u34, u35, u36, u37, u38, u39, u40, rfl, hB, fun e0 => h0 (lset_ne (by decide) e0), fun e1 => h1 (lset_ne (by decide) e1), fun e2 => h2 (lset_ne (by decide) e2), fun e3 => h3 (lset_ne (by decide) e3), fun e4 => h4 (lset_ne (by decide) e4), fun e5 => h5 (lset_ne (by decide) e5), fun e6 => h6 (lset_ne (by decide) e6), fun e7 => h7 (lset_ne (by decide) e7), fun e8 => h8 (lset_ne (by decide) e8), fun e9 => h9 (lset_ne (by decide) e9), fun e10 => h10 (lset_ne (by decide) e10), fun e11 => h11 (lset_ne (by decide) e11), fun e12 => h12 (lset_ne (by decide) e12), fun e13 => h13 (lset_ne (by decide) e13), fun _ _ => rfl, fun e15 => h15 (lset_ne (by decide) e15), fun e16 => h16 (lset_ne (by decide) e16), fun e17 => h17 (lset_ne (by decide) e17), fun e18 => h18 (lset_ne (by decide) e18), fun e19 => h19 (lset_ne (by decide) e19), fun e20 => h20 (lset_ne (by decide) e20), fun e21 => h21 (lset_ne (by decide) e21), fun e22 => h22 (lset_ne (by decide) e22), fun e23 => h23 (lset_ne (by decide) e23), fun e24 => h24 (lset_ne (by decide) e24)⟩
    · have ho' : some _ = some o := ho
      cases ho'
      have d12 := hd { on := 12, ground := .data } (by simp) rfl
      have d14 := hd { on := 14, ground := .data } (by simp) rfl
      have d4 := hd { on := 4, ground := .guard } (by simp) rfl
      have p0 : (0 : Int) ≤ (f : Int) := by omega
      have p1 : (f : Int) < (P : Int) := by omega
      have hbw : Below w.heap.size w w := Below.refl _ _
      have eg := h4 d4
      subst eg
      cases R with
      | false =>
        unfold rdAct; go_simp
        exact ⟨u16, u17, u18, u19, .bool false, u21, u22, u23, u24, u25, u26, u27, u28, u29, u30, undef, u32, u33, u34, u35, u36, u37, u38, u39, u40, rfl, hB, fun e0 => h0 (lset_ne (by decide) e0), fun e1 => h1 (lset_ne (by decide) e1), fun e2 => h2 (lset_ne (by decide) e2), fun e3 => h3 (lset_ne (by decide) e3), fun e4 => h4 (lset_ne (by decide) e4), fun e5 => h5 (lset_ne (by decide) e5), fun e6 => h6 (lset_ne (by decide) e6), fun e7 => h7 (lset_ne (by decide) e7), fun e8 => h8 (lset_ne (by decide) e8), fun e9 => h9 (lset_ne (by decide) e9), fun e10 => h10 (lset_ne (by decide) e10), fun e11 => h11 (lset_ne (by decide) e11), fun e12 => h12 (lset_ne (by decide) e12), fun e13 => h13 (lset_ne (by decide) e13), fun e14 => h14 (lset_ne (by decide) e14), fun _ e => (by cases e), fun e16 => h16 (lset_ne (by decide) e16), fun e17 => h17 (lset_ne (by decide) e17), fun e18 => h18 (lset_ne (by decide) e18), fun e19 => h19 (lset_ne (by decide) e19), fun e20 => h20 (lset_ne (by decide) e20), fun e21 => h21 (lset_ne (by decide) e21), fun e22 => h22 (lset_ne (by decide) e22), fun e23 => h23 (lset_ne (by decide) e23), fun e24 => h24 (lset_ne (by decide) e24)⟩
      | true =>
        have e12 := h12 d12 rfl
        subst e12
        have e14 := h14 d14 rfl
        subst e14
        unfold rdAct; go_simp
        exact ⟨u16, u17, u18, u19, .bool true, u21, u22, u23, u24, u25, u26, u27, .slice (some ⟨h, 0, none⟩) P P, u29, .int .i64 (f : Int), .pointer (some ⟨h, f, none⟩), u32, u33, u34, u35, u36, u37, u38, u39, u40, rfl, hB, fun e0 => h0 (lset_ne (by decide) e0), fun e1 => h1 (lset_ne (by decide) e1), fun e2 => h2 (lset_ne (by decide) e2), fun e3 => h3 (lset_ne (by decide) e3), fun e4 => h4 (lset_ne (by decide) e4), fun e5 => h5 (lset_ne (by decide) e5), fun e6 => h6 (lset_ne (by decide) e6), fun e7 => h7 (lset_ne (by decide) e7), fun e8 => h8 (lset_ne (by decide) e8), fun e9 => h9 (lset_ne (by decide) e9), fun e10 => h10 (lset_ne (by decide) e10), fun e11 => h11 (lset_ne (by decide) e11), fun e12 => h12 (lset_ne (by decide) e12), fun e13 => h13 (lset_ne (by decide) e13), fun e14 => h14 (lset_ne (by decide) e14), fun _ _ => rfl, fun e16 => h16 (lset_ne (by decide) e16), fun e17 => h17 (lset_ne (by decide) e17), fun e18 => h18 (lset_ne (by decide) e18), fun e19 => h19 (lset_ne (by decide) e19), fun e20 => h20 (lset_ne (by decide) e20), fun e21 => h21 (lset_ne (by decide) e21), fun e22 => h22 (lset_ne (by decide) e22), fun e23 => h23 (lset_ne (by decide) e23), fun e24 => h24 (lset_ne (by decide) e24)⟩
    · have ho' : some _ = some o := ho
      cases ho'
      have d15 := hd { on := 15, ground := .data } (by simp) rfl
      have d4 := hd { on := 4, ground := .guard } (by simp) rfl
      obtain ⟨l1, l2, l3⟩ := hlt3
      have c2 := (hB.cell (p := ⟨h, f, none⟩) l3).trans hkf
      have hbw : Below w.heap.size w w := Below.refl _ _
      have eg := h4 d4
      subst eg
      cases R with
      | false =>
        unfold rdAct; go_simp
        exact ⟨u16, u17, u18, u19, .bool false, u21, u22, u23, u24, u25, u26, u27, u28, u29, u30, u31, undef, u33, u34, u35, u36, u37, u38, u39, u40, rfl, hB, fun e0 => h0 (lset_ne (by decide) e0), fun e1 => h1 (lset_ne (by decide) e1), fun e2 => h2 (lset_ne (by decide) e2), fun e3 => h3 (lset_ne (by decide) e3), fun e4 => h4 (lset_ne (by decide) e4), fun e5 => h5 (lset_ne (by decide) e5), fun e6 => h6 (lset_ne (by decide) e6), fun e7 => h7 (lset_ne (by decide) e7), fun e8 => h8 (lset_ne (by decide) e8), fun e9 => h9 (lset_ne (by decide) e9), fun e10 => h10 (lset_ne (by decide) e10), fun e11 => h11 (lset_ne (by decide) e11), fun e12 => h12 (lset_ne (by decide) e12), fun e13 => h13 (lset_ne (by decide) e13), fun e14 => h14 (lset_ne (by decide) e14), fun e15 => h15 (lset_ne (by decide) e15), fun _ e => (by cases e), fun e17 => h17 (lset_ne (by decide) e17), fun e18 => h18 (lset_ne (by decide) e18), fun e19 => h19 (lset_ne (by decide) e19), fun e20 => h20 (lset_ne (by decide) e20), fun e21 => h21 (lset_ne (by decide) e21), fun e22 => h22 (lset_ne (by decide) e22), fun e23 => h23 (lset_ne (by decide) e23), fun e24 => h24 (lset_ne (by decide) e24)⟩
      | true =>
        have e15 := h15 d15 rfl
        subst e15
        unfold rdAct; go_simp
        exact ⟨u16, u17, u18, u19, .bool true, u21, u22, u23, u24, u25, u26, u27, u28, u29, u30, .pointer (some ⟨h, f, none⟩), .int .i64 kf, u33, u34, u35, u36, u37, u38, u39, u40, rfl, hB, fun e0 => h0 (lset_ne (by decide) e0), fun e1 => h1 (lset_ne (by decide) e1), fun e2 => h2 (lset_ne (by decide) e2), fun e3 => h3 (lset_ne (by decide) e3), fun e4 => h4 (lset_ne (by decide) e4), fun e5 => h5 (lset_ne (by decide) e5), fun e6 => h6 (lset_ne (by decide) e6), fun e7 => h7 (lset_ne (by decide) e7), fun e8 => h8 (lset_ne (by decide) e8), fun e9 => h9 (lset_ne (by decide) e9), fun e10 => h10 (lset_ne (by decide) e10), fun e11 => h11 (lset_ne (by decide) e11), fun e12 => h12 (lset_ne (by decide) e12), fun e13 => h13 (lset_ne (by decide) e13), fun e14 => h14 (lset_ne (by decide) e14), fun e15 => h15 (lset_ne (by decide) e15), fun _ _ => rfl, fun e17 => h17 (lset_ne (by decide) e17), fun e18 => h18 (lset_ne (by decide) e18), fun e19 => h19 (lset_ne (by decide) e19), fun e20 => h20 (lset_ne (by decide) e20), fun e21 => h21 (lset_ne (by decide) e21), fun e22 => h22 (lset_ne (by decide) e22), fun e23 => h23 (lset_ne (by decide) e23), fun e24 => h24 (lset_ne (by decide) e24)⟩
    · have ho' : some _ = some o := ho
      cases ho'
      have d10 := hd { on := 10, ground := .data } (by simp) rfl
      have d16 := hd { on := 16, ground := .data } (by simp) rfl
      have d4 := hd { on := 4, ground := .guard } (by simp) rfl
      have hbw : Below w.heap.size w w := Below.refl _ _
      have eg := h4 d4
      subst eg
      cases R with
      | false =>
        unfold rdAct; go_simp
        exact ⟨u16, u17, u18, u19, .bool false, u21, u22, u23, u24, u25, u26, u27, u28, u29, u30, u31, u32, undef, u34, u35, u36, u37, u38, u39, u40, rfl, hB, fun e0 => h0 (lset_ne (by decide) e0), fun e1 => h1 (lset_ne (by decide) e1), fun e2 => h2 (lset_ne (by decide) e2), fun e3 => h3 (lset_ne (by decide) e3), fun e4 => h4 (lset_ne (by decide) e4), fun e5 => h5 (lset_ne (by decide) e5), fun e6 => h6 (lset_ne (by decide) e6), fun e7 => h7 (lset_ne (by decide) e7), fun e8 => h8 (lset_ne (by decide) e8), fun e9 => h9 (lset_ne (by decide) e9), fun e10 => h10 (lset_ne (by decide) e10), fun e11 => h11 (lset_ne (by decide) e11), fun e12 => h12 (lset_ne (by decide) e12), fun e13 => h13 (lset_ne (by decide) e13), fun e14 => h14 (lset_ne (by decide) e14), fun e15 => h15 (lset_ne (by decide) e15), fun e16 => h16 (lset_ne (by decide) e16), fun _ e => (by cases e), fun e18 => h18 (lset_ne (by decide) e18), fun e19 => h19 (lset_ne (by decide) e19), fun e20 => h20 (lset_ne (by decide) e20), fun e21 => h21 (lset_ne (by decide) e21), fun e22 => h22 (lset_ne (by decide) e22), fun e23 => h23 (lset_ne (by decide) e23), fun e24 => h24 (lset_ne (by decide) e24)⟩
      | true =>
        have e10 := h10 d10 rfl
        subst e10
        have e16 := h16 d16 rfl
        subst e16
        unfold rdAct; go_simp
        exact ⟨u16, u17, u18, u19, .bool true, u21, u22, u23, u24, u25, .int .i64 ks, u27, u28, u29, u30, u31, .int .i64 kf, .bool (decide (kf ≤ ks)), u34, u35, u36, u37, u38, u39, u40, rfl, hB, fun e0 => h0 (lset_ne (by decide) e0), fun e1 => h1 (lset_ne (by decide) e1), fun e2 => h2 (lset_ne (by decide) e2), fun e3 => h3 (lset_ne (by decide) e3), fun e4 => h4 (lset_ne (by decide) e4), fun e5 => h5 (lset_ne (by decide) e5), fun e6 => h6 (lset_ne (by decide) e6), fun e7 => h7 (lset_ne (by decide) e7), fun e8 => h8 (lset_ne (by decide) e8), fun e9 => h9 (lset_ne (by decide) e9), fun e10 => h10 (lset_ne (by decide) e10), fun e11 => h11 (lset_ne (by decide) e11), fun e12 => h12 (lset_ne (by decide) e12), fun e13 => h13 (lset_ne (by decide) e13), fun e14 => h14 (lset_ne (by decide) e14), fun e15 => h15 (lset_ne (by decide) e15), fun e16 => h16 (lset_ne (by decide) e16), fun _ _ => rfl, fun e18 => h18 (lset_ne (by decide) e18), fun e19 => h19 (lset_ne (by decide) e19), fun e20 => h20 (lset_ne (by decide) e20), fun e21 => h21 (lset_ne (by decide) e21), fun e22 => h22 (lset_ne (by decide) e22), fun e23 => h23 (lset_ne (by decide) e23), fun e24 => h24 (lset_ne (by decide) e24)⟩
    · have ho' : some _ = some o := ho
      cases ho'
      have d4 := hd { on := 4, ground := .data } (by simp) rfl
      have d17 := hd { on := 17, ground := .data } (by simp) rfl
      have hbw : Below w.heap.size w w := Below.refl _ _
      have eg := h4 d4
      subst eg
      have hC2 := hC.out
      clear hC
      subst hC2
      cases R with
      | false =>
        unfold rdAct; go_simp
        exact ⟨u16, u17, u18, u19, .bool false, u21, u22, u23, u24, u25, u26, u27, u28, u29, u30, u31, u32, u33, .bool false, u35, u36, u37, u38, u39, u40, rfl, hB, fun e0 => h0 (lset_ne (by decide) e0), fun e1 => h1 (lset_ne (by decide) e1), fun e2 => h2 (lset_ne (by decide) e2), fun e3 => h3 (lset_ne (by decide) e3), fun e4 => h4 (lset_ne (by decide) e4), fun e5 => h5 (lset_ne (by decide) e5), fun e6 => h6 (lset_ne (by decide) e6), fun e7 => h7 (lset_ne (by decide) e7), fun e8 => h8 (lset_ne (by decide) e8), fun e9 => h9 (lset_ne (by decide) e9), fun e10 => h10 (lset_ne (by decide) e10), fun e11 => h11 (lset_ne (by decide) e11), fun e12 => h12 (lset_ne (by decide) e12), fun e13 => h13 (lset_ne (by decide) e13), fun e14 => h14 (lset_ne (by decide) e14), fun e15 => h15 (lset_ne (by decide) e15), fun e16 => h16 (lset_ne (by decide) e16), fun e17 => h17 (lset_ne (by decide) e17), fun _ => rfl, fun e19 => h19 (lset_ne (by decide) e19), fun e20 => h20 (lset_ne (by decide) e20), fun e21 => h21 (lset_ne (by decide) e21), fun e22 => h22 (lset_ne (by decide) e22), fun e23 => h23 (lset_ne (by decide) e23), fun e24 => h24 (lset_ne (by decide) e24)⟩
      | true =>
        have e17 := h17 d17 rfl
        subst e17
        unfold rdAct; go_simp
        exact ⟨u16, u17, u18, u19, .bool true, u21, u22, u23, u24, u25, u26, u27, u28, u29, u30, u31, u32, .bool (decide (kf ≤ ks)), .bool (decide (kf ≤ ks)), u35, u36, u37, u38, u39, u40, rfl, hB, fun e0 => h0 (lset_ne (by decide) e0), fun e1 => h1 (lset_ne (by decide) e1), fun e2 => h2 (lset_ne (by decide) e2), fun e3 => h3 (lset_ne (by decide) e3), fun e4 => h4 (lset_ne (by decide) e4), fun e5 => h5 (lset_ne (by decide) e5), fun e6 => h6 (lset_ne (by decide) e6), fun e7 => h7 (lset_ne (by decide) e7), fun e8 => h8 (lset_ne (by decide) e8), fun e9 => h9 (lset_ne (by decide) e9), fun e10 => h10 (lset_ne (by decide) e10), fun e11 => h11 (lset_ne (by decide) e11), fun e12 => h12 (lset_ne (by decide) e12), fun e13 => h13 (lset_ne (by decide) e13), fun e14 => h14 (lset_ne (by decide) e14), fun e15 => h15 (lset_ne (by decide) e15), fun e16 => h16 (lset_ne (by decide) e16), fun e17 => h17 (lset_ne (by decide) e17), fun _ => rfl, fun e19 => h19 (lset_ne (by decide) e19), fun e20 => h20 (lset_ne (by decide) e20), fun e21 => h21 (lset_ne (by decide) e21), fun e22 => h22 (lset_ne (by decide) e22), fun e23 => h23 (lset_ne (by decide) e23), fun e24 => h24 (lset_ne (by decide) e24)⟩
    · have ho' : some _ = some o := ho
      cases ho'
      have d18 := hd { on := 18, ground := .data } (by simp) rfl
      have d4 := hd { on := 4, ground := .chain } (by simp) rfl
      have hbw : Below w.heap.size w w := Below.refl _ _
      have e18 := h18 d18
      subst e18
      have e4 := h4 d4
      subst e4
      unfold rdAct; go_simp
      exact ⟨u16, u17, u18, u19, .bool R, u21, u22, u23, u24, u25, u26, u27, u28, u29, u30, u31, u32, u33, .bool C, .bool C, u36, u37, u38, u39, u40, rfl, hB, fun e0 => h0 (lset_ne (by decide) e0), fun e1 => h1 (lset_ne (by decide) e1), fun e2 => h2 (lset_ne (by decide) e2), fun e3 => h3 (lset_ne (by decide) e3), fun e4 => h4 (lset_ne (by decide) e4), fun e5 => h5 (lset_ne (by decide) e5), fun e6 => h6 (lset_ne (by decide) e6), fun e7 => h7 (lset_ne (by decide) e7), fun e8 => h8 (lset_ne (by decide) e8), fun e9 => h9 (lset_ne (by decide) e9), fun e10 => h10 (lset_ne (by decide) e10), fun e11 => h11 (lset_ne (by decide) e11), fun e12 => h12 (lset_ne (by decide) e12), fun e13 => h13 (lset_ne (by decide) e13), fun e14 => h14 (lset_ne (by decide) e14), fun e15 => h15 (lset_ne (by decide) e15), fun e16 => h16 (lset_ne (by decide) e16), fun e17 => h17 (lset_ne (by decide) e17), fun e18 => h18 (lset_ne (by decide) e18), fun _ => rfl, fun e20 => h20 (lset_ne (by decide) e20), fun e21 => h21 (lset_ne (by decide) e21), fun e22 => h22 (lset_ne (by decide) e22), fun e23 => h23 (lset_ne (by decide) e23), fun e24 => h24 (lset_ne (by decide) e24)⟩
    · have ho' : some _ = some o := ho
      cases ho'
      have d19 := hd { on := 19, ground := .guard } (by simp) rfl
      obtain ⟨l1, l2, l3⟩ := hlt3
      have c0 := (hB.cell (p := ⟨D, 0, none⟩) l1).trans hd0
      have c1 := (hB.cell (p := ⟨D, 1, none⟩) l1).trans hd1
      have hbw : Below w.heap.size w w := Below.refl _ _
      have eg := h19 d19
      subst eg
      cases C with
      | false =>
        unfold rdAct; go_simp
        exact ⟨u16, u17, u18, u19, u20, u21, u22, u23, u24, u25, u26, u27, u28, u29, u30, u31, u32, u33, u34, .bool false, undef, u37, u38, u39, u40, rfl, hB, fun e0 => h0 (lset_ne (by decide) e0), fun e1 => h1 (lset_ne (by decide) e1), fun e2 => h2 (lset_ne (by decide) e2), fun e3 => h3 (lset_ne (by decide) e3), fun e4 => h4 (lset_ne (by decide) e4), fun e5 => h5 (lset_ne (by decide) e5), fun e6 => h6 (lset_ne (by decide) e6), fun e7 => h7 (lset_ne (by decide) e7), fun e8 => h8 (lset_ne (by decide) e8), fun e9 => h9 (lset_ne (by decide) e9), fun e10 => h10 (lset_ne (by decide) e10), fun e11 => h11 (lset_ne (by decide) e11), fun e12 => h12 (lset_ne (by decide) e12), fun e13 => h13 (lset_ne (by decide) e13), fun e14 => h14 (lset_ne (by decide) e14), fun e15 => h15 (lset_ne (by decide) e15), fun e16 => h16 (lset_ne (by decide) e16), fun e17 => h17 (lset_ne (by decide) e17), fun e18 => h18 (lset_ne (by decide) e18), fun e19 => h19 (lset_ne (by decide) e19), fun _ e => (by cases e), fun e21 => h21 (lset_ne (by decide) e21), fun e22 => h22 (lset_ne (by decide) e22), fun e23 => h23 (lset_ne (by decide) e23), fun e24 => h24 (lset_ne (by decide) e24)⟩
      | true =>
        unfold rdAct; go_simp
        exact ⟨u16, u17, u18, u19, u20, u21, u22, u23, u24, u25, u26, u27, u28, u29, u30, u31, u32, u33, u34, .bool true, .agg #[.slice (some ⟨g, 0, none⟩) P P, .slice (some ⟨h, 0, none⟩) P P], u37, u38, u39, u40, rfl, hB, fun e0 => h0 (lset_ne (by decide) e0), fun e1 => h1 (lset_ne (by decide) e1), fun e2 => h2 (lset_ne (by decide) e2), fun e3 => h3 (lset_ne (by decide) e3), fun e4 => h4 (lset_ne (by decide) e4), fun e5 => h5 (lset_ne (by decide) e5), fun e6 => h6 (lset_ne (by decide) e6), fun e7 => h7 (lset_ne (by decide) e7), fun e8 => h8 (lset_ne (by decide) e8), fun e9 => h9 (lset_ne (by decide) e9), fun e10 => h10 (lset_ne (by decide) e10), fun e11 => h11 (lset_ne (by decide) e11), fun e12 => h12 (lset_ne (by decide) e12), fun e13 => h13 (lset_ne (by decide) e13), fun e14 => h14 (lset_ne (by decide) e14), fun e15 => h15 (lset_ne (by decide) e15), fun e16 => h16 (lset_ne (by decide) e16), fun e17 => h17 (lset_ne (by decide) e17), fun e18 => h18 (lset_ne (by decide) e18), fun e19 => h19 (lset_ne (by decide) e19), fun _ _ => rfl, fun e21 => h21 (lset_ne (by decide) e21), fun e22 => h22 (lset_ne (by decide) e22), fun e23 => h23 (lset_ne (by decide) e23), fun e24 => h24 (lset_ne (by decide) e24)⟩
    · have ho' : some _ = some o := ho
      cases ho'
      have d19 := hd { on := 19, ground := .guard } (by simp) rfl
      have hbw : Below w.heap.size w w := Below.refl _ _
      have eg := h19 d19
      subst eg
      cases C with
      | false =>
        unfold rdAct; go_simp
        exact ⟨u16, u17, u18, u19, u20, u21, u22, u23, u24, u25, u26, u27, u28, u29, u30, u31, u32, u33, u34, .bool false, u36, undef, u38, u39, u40, rfl, hB, fun e0 => h0 (lset_ne (by decide) e0), fun e1 => h1 (lset_ne (by decide) e1), fun e2 => h2 (lset_ne (by decide) e2), fun e3 => h3 (lset_ne (by decide) e3), fun e4 => h4 (lset_ne (by decide) e4), fun e5 => h5 (lset_ne (by decide) e5), fun e6 => h6 (lset_ne (by decide) e6), fun e7 => h7 (lset_ne (by decide) e7), fun e8 => h8 (lset_ne (by decide) e8), fun e9 => h9 (lset_ne (by decide) e9), fun e10 => h10 (lset_ne (by decide) e10), fun e11 => h11 (lset_ne (by decide) e11), fun e12 => h12 (lset_ne (by decide) e12), fun e13 => h13 (lset_ne (by decide) e13), fun e14 => h14 (lset_ne (by decide) e14), fun e15 => h15 (lset_ne (by decide) e15), fun e16 => h16 (lset_ne (by decide) e16), fun e17 => h17 (lset_ne (by decide) e17), fun e18 => h18 (lset_ne (by decide) e18), fun e19 => h19 (lset_ne (by decide) e19), fun e20 => h20 (lset_ne (by decide) e20), fun _ e => (by cases e), fun e22 => h22 (lset_ne (by decide) e22), fun e23 => h23 (lset_ne (by decide) e23), fun e24 => h24 (lset_ne (by decide) e24)⟩
      | true =>
        have l2 := hlt3.2.1
        have he := hd9.below' hB l2
        rw [if_pos (by rfl)]
        refine wp_load_mid _ _ rfl bx 0 rfl d.cs.toList _ (fun j v hv => he j v (by rw [← Array.getElem?_toList]; exact hv)) Try.underlying55 rfl (by rw [infoEd]; rfl) ?_
        exact ⟨u16, u17, u18, u19, u20, u21, u22, u23, u24, u25, u26, u27, u28, u29, u30, u31, u32, u33, u34, .bool true, u36, .agg d.cs, u38, u39, u40, rfl, hB, fun e0 => h0 (lset_ne (by decide) e0), fun e1 => h1 (lset_ne (by decide) e1), fun e2 => h2 (lset_ne (by decide) e2), fun e3 => h3 (lset_ne (by decide) e3), fun e4 => h4 (lset_ne (by decide) e4), fun e5 => h5 (lset_ne (by decide) e5), fun e6 => h6 (lset_ne (by decide) e6), fun e7 => h7 (lset_ne (by decide) e7), fun e8 => h8 (lset_ne (by decide) e8), fun e9 => h9 (lset_ne (by decide) e9), fun e10 => h10 (lset_ne (by decide) e10), fun e11 => h11 (lset_ne (by decide) e11), fun e12 => h12 (lset_ne (by decide) e12), fun e13 => h13 (lset_ne (by decide) e13), fun e14 => h14 (lset_ne (by decide) e14), fun e15 => h15 (lset_ne (by decide) e15), fun e16 => h16 (lset_ne (by decide) e16), fun e17 => h17 (lset_ne (by decide) e17), fun e18 => h18 (lset_ne (by decide) e18), fun e19 => h19 (lset_ne (by decide) e19), fun e20 => h20 (lset_ne (by decide) e20), fun _ _ => rfl, fun e22 => h22 (lset_ne (by decide) e22), fun e23 => h23 (lset_ne (by decide) e23), fun e24 => h24 (lset_ne (by decide) e24)⟩
    · have ho' : some _ = some o := ho
      cases ho'
      have d20 := hd { on := 20, ground := .data } (by simp) rfl
      have d21 := hd { on := 21, ground := .data } (by simp) rfl
      have d19 := hd { on := 19, ground := .chain } (by simp) rfl
      have d19 := hd { on := 19, ground := .guard } (by simp) rfl
      have eg := h19 d19
      subst eg
      cases C with
      | false =>
        have hbw : Below w.heap.size w w := Below.refl _ _
        unfold rdAct; go_simp
        exact ⟨u16, u17, u18, u19, u20, u21, u22, u23, u24, u25, u26, u27, u28, u29, u30, u31, u32, u33, u34, .bool false, u36, u37, undef, u39, u40, rfl, hB, fun e0 => h0 (lset_ne (by decide) e0), fun e1 => h1 (lset_ne (by decide) e1), fun e2 => h2 (lset_ne (by decide) e2), fun e3 => h3 (lset_ne (by decide) e3), fun e4 => h4 (lset_ne (by decide) e4), fun e5 => h5 (lset_ne (by decide) e5), fun e6 => h6 (lset_ne (by decide) e6), fun e7 => h7 (lset_ne (by decide) e7), fun e8 => h8 (lset_ne (by decide) e8), fun e9 => h9 (lset_ne (by decide) e9), fun e10 => h10 (lset_ne (by decide) e10), fun e11 => h11 (lset_ne (by decide) e11), fun e12 => h12 (lset_ne (by decide) e12), fun e13 => h13 (lset_ne (by decide) e13), fun e14 => h14 (lset_ne (by decide) e14), fun e15 => h15 (lset_ne (by decide) e15), fun e16 => h16 (lset_ne (by decide) e16), fun e17 => h17 (lset_ne (by decide) e17), fun e18 => h18 (lset_ne (by decide) e18), fun e19 => h19 (lset_ne (by decide) e19), fun e20 => h20 (lset_ne (by decide) e20), fun e21 => h21 (lset_ne (by decide) e21), fun _ e => (by cases e), fun e23 => h23 (lset_ne (by decide) e23), fun e24 => h24 (lset_ne (by decide) e24)⟩
      | true =>
        have e20 := h20 d20 rfl
        subst e20
        have e21 := h21 d21 rfl
        subst e21
        unfold rdAct; go_simp
        refine (cb w hB).mono ?_
        rintro e w' ⟨rfl, hbw⟩
        exact ⟨u16, u17, u18, u19, u20, u21, u22, u23, u24, u25, u26, u27, u28, u29, u30, u31, u32, u33, u34, .bool true, .agg #[.slice (some ⟨g, 0, none⟩) P P, .slice (some ⟨h, 0, none⟩) P P], .agg d.cs, .bool B, u39, u40, rfl, Below.chain hB hbw, fun e0 => h0 (lset_ne (by decide) e0), fun e1 => h1 (lset_ne (by decide) e1), fun e2 => h2 (lset_ne (by decide) e2), fun e3 => h3 (lset_ne (by decide) e3), fun e4 => h4 (lset_ne (by decide) e4), fun e5 => h5 (lset_ne (by decide) e5), fun e6 => h6 (lset_ne (by decide) e6), fun e7 => h7 (lset_ne (by decide) e7), fun e8 => h8 (lset_ne (by decide) e8), fun e9 => h9 (lset_ne (by decide) e9), fun e10 => h10 (lset_ne (by decide) e10), fun e11 => h11 (lset_ne (by decide) e11), fun e12 => h12 (lset_ne (by decide) e12), fun e13 => h13 (lset_ne (by decide) e13), fun e14 => h14 (lset_ne (by decide) e14), fun e15 => h15 (lset_ne (by decide) e15), fun e16 => h16 (lset_ne (by decide) e16), fun e17 => h17 (lset_ne (by decide) e17), fun e18 => h18 (lset_ne (by decide) e18), fun e19 => h19 (lset_ne (by decide) e19), fun e20 => h20 (lset_ne (by decide) e20), fun e21 => h21 (lset_ne (by decide) e21), fun _ _ => rfl, fun e23 => h23 (lset_ne (by decide) e23), fun e24 => h24 (lset_ne (by decide) e24)⟩
    · have ho' : some _ = some o := ho
      cases ho'
      have d22 := hd { on := 22, ground := .data } (by simp) rfl
      have d19 := hd { on := 19, ground := .guard } (by simp) rfl
      have hbw : Below w.heap.size w w := Below.refl _ _
      have eg := h19 d19
      subst eg
      cases C with
      | false =>
        unfold rdAct; go_simp
        exact ⟨u16, u17, u18, u19, u20, u21, u22, u23, u24, u25, u26, u27, u28, u29, u30, u31, u32, u33, u34, .bool false, u36, u37, u38, undef, u40, rfl, hB, fun e0 => h0 (lset_ne (by decide) e0), fun e1 => h1 (lset_ne (by decide) e1), fun e2 => h2 (lset_ne (by decide) e2), fun e3 => h3 (lset_ne (by decide) e3), fun e4 => h4 (lset_ne (by decide) e4), fun e5 => h5 (lset_ne (by decide) e5), fun e6 => h6 (lset_ne (by decide) e6), fun e7 => h7 (lset_ne (by decide) e7), fun e8 => h8 (lset_ne (by decide) e8), fun e9 => h9 (lset_ne (by decide) e9), fun e10 => h10 (lset_ne (by decide) e10), fun e11 => h11 (lset_ne (by decide) e11), fun e12 => h12 (lset_ne (by decide) e12), fun e13 => h13 (lset_ne (by decide) e13), fun e14 => h14 (lset_ne (by decide) e14), fun e15 => h15 (lset_ne (by decide) e15), fun e16 => h16 (lset_ne (by decide) e16), fun e17 => h17 (lset_ne (by decide) e17), fun e18 => h18 (lset_ne (by decide) e18), fun e19 => h19 (lset_ne (by decide) e19), fun e20 => h20 (lset_ne (by decide) e20), fun e21 => h21 (lset_ne (by decide) e21), fun e22 => h22 (lset_ne (by decide) e22), fun _ e => (by cases e), fun e24 => h24 (lset_ne (by decide) e24)⟩
      | true =>
        have e22 := h22 d22 rfl
        subst e22
        unfold rdAct; go_simp
        exact ⟨u16, u17, u18, u19, u20, u21, u22, u23, u24, u25, u26, u27, u28, u29, u30, u31, u32, u33, u34, .bool true, u36, u37, .bool B, .bool (!B), u40, rfl, hB, fun e0 => h0 (lset_ne (by decide) e0), fun e1 => h1 (lset_ne (by decide) e1), fun e2 => h2 (lset_ne (by decide) e2), fun e3 => h3 (lset_ne (by decide) e3), fun e4 => h4 (lset_ne (by decide) e4), fun e5 => h5 (lset_ne (by decide) e5), fun e6 => h6 (lset_ne (by decide) e6), fun e7 => h7 (lset_ne (by decide) e7), fun e8 => h8 (lset_ne (by decide) e8), fun e9 => h9 (lset_ne (by decide) e9), fun e10 => h10 (lset_ne (by decide) e10), fun e11 => h11 (lset_ne (by decide) e11), fun e12 => h12 (lset_ne (by decide) e12), fun e13 => h13 (lset_ne (by decide) e13), fun e14 => h14 (lset_ne (by decide) e14), fun e15 => h15 (lset_ne (by decide) e15), fun e16 => h16 (lset_ne (by decide) e16), fun e17 => h17 (lset_ne (by decide) e17), fun e18 => h18 (lset_ne (by decide) e18), fun e19 => h19 (lset_ne (by decide) e19), fun e20 => h20 (lset_ne (by decide) e20), fun e21 => h21 (lset_ne (by decide) e21), fun e22 => h22 (lset_ne (by decide) e22), fun _ _ => rfl, fun e24 => h24 (lset_ne (by decide) e24)⟩
    · have ho' : some _ = some o := ho
      cases ho'
      have d19 := hd { on := 19, ground := .data } (by simp) rfl
      have d23 := hd { on := 23, ground := .data } (by simp) rfl
      have hbw : Below w.heap.size w w := Below.refl _ _
      have eg := h19 d19
      subst eg
      cases C with
      | false =>
        unfold rdAct; go_simp
        exact ⟨u16, u17, u18, u19, u20, u21, u22, u23, u24, u25, u26, u27, u28, u29, u30, u31, u32, u33, u34, .bool false, u36, u37, u38, u39, .bool false, rfl, hB, fun e0 => h0 (lset_ne (by decide) e0), fun e1 => h1 (lset_ne (by decide) e1), fun e2 => h2 (lset_ne (by decide) e2), fun e3 => h3 (lset_ne (by decide) e3), fun e4 => h4 (lset_ne (by decide) e4), fun e5 => h5 (lset_ne (by decide) e5), fun e6 => h6 (lset_ne (by decide) e6), fun e7 => h7 (lset_ne (by decide) e7), fun e8 => h8 (lset_ne (by decide) e8), fun e9 => h9 (lset_ne (by decide) e9), fun e10 => h10 (lset_ne (by decide) e10), fun e11 => h11 (lset_ne (by decide) e11), fun e12 => h12 (lset_ne (by decide) e12), fun e13 => h13 (lset_ne (by decide) e13), fun e14 => h14 (lset_ne (by decide) e14), fun e15 => h15 (lset_ne (by decide) e15), fun e16 => h16 (lset_ne (by decide) e16), fun e17 => h17 (lset_ne (by decide) e17), fun e18 => h18 (lset_ne (by decide) e18), fun e19 => h19 (lset_ne (by decide) e19), fun e20 => h20 (lset_ne (by decide) e20), fun e21 => h21 (lset_ne (by decide) e21), fun e22 => h22 (lset_ne (by decide) e22), fun e23 => h23 (lset_ne (by decide) e23), fun _ => rfl⟩
      | true =>
        have e23 := h23 d23 rfl
        subst e23
        unfold rdAct; go_simp
        exact ⟨u16, u17, u18, u19, u20, u21, u22, u23, u24, u25, u26, u27, u28, u29, u30, u31, u32, u33, u34, .bool true, u36, u37, u38, .bool (!B), .bool (!B), rfl, hB, fun e0 => h0 (lset_ne (by decide) e0), fun e1 => h1 (lset_ne (by decide) e1), fun e2 => h2 (lset_ne (by decide) e2), fun e3 => h3 (lset_ne (by decide) e3), fun e4 => h4 (lset_ne (by decide) e4), fun e5 => h5 (lset_ne (by decide) e5), fun e6 => h6 (lset_ne (by decide) e6), fun e7 => h7 (lset_ne (by decide) e7), fun e8 => h8 (lset_ne (by decide) e8), fun e9 => h9 (lset_ne (by decide) e9), fun e10 => h10 (lset_ne (by decide) e10), fun e11 => h11 (lset_ne (by decide) e11), fun e12 => h12 (lset_ne (by decide) e12), fun e13 => h13 (lset_ne (by decide) e13), fun e14 => h14 (lset_ne (by decide) e14), fun e15 => h15 (lset_ne (by decide) e15), fun e16 => h16 (lset_ne (by decide) e16), fun e17 => h17 (lset_ne (by decide) e17), fun e18 => h18 (lset_ne (by decide) e18), fun e19 => h19 (lset_ne (by decide) e19), fun e20 => h20 (lset_ne (by decide) e20), fun e21 => h21 (lset_ne (by decide) e21), fun e22 => h22 (lset_ne (by decide) e22), fun e23 => h23 (lset_ne (by decide) e23), fun _ => rfl⟩
  · rintro listed a w ⟨u16, u17, u18, u19, u20, u21, u22, u23, u24, u25, u26, u27, u28, u29, u30, u31, u32, u33, u34, u35, u36, u37, u38, u39, u40, rfl, hB, h0, h1, h2, h3, h4, h5, h6, h7, h8, h9, h10, h11, h12, h13, h14, h15, h16, h17, h18, h19, h20, h21, h22, h23, h24⟩ hall
    exact hQ _ _ _ _ _ _ _ _ _ _ _ _ _ _ _ _ _ _ _ _ _ _ _ _ _ w hB (h0 (hall 0 (by decide))) (h1 (hall 1 (by decide))) (h2 (hall 2 (by decide))) (h3 (hall 3 (by decide))) (h4 (hall 4 (by decide))) (h5 (hall 5 (by decide))) (h6 (hall 6 (by decide))) (h7 (hall 7 (by decide))) (h8 (hall 8 (by decide))) (h9 (hall 9 (by decide))) (h10 (hall 10 (by decide))) (h11 (hall 11 (by decide))) (h12 (hall 12 (by decide))) (h13 (hall 13 (by decide))) (h14 (hall 14 (by decide))) (h15 (hall 15 (by decide))) (h16 (hall 16 (by decide))) (h17 (hall 17 (by decide))) (h18 (hall 18 (by decide))) (h19 (hall 19 (by decide))) (h20 (hall 20 (by decide))) (h21 (hall 21 (by decide))) (h22 (hall 22 (by decide))) (h23 (hall 23 (by decide))) (h24 (hall 24 (by decide)))
end Go.Proofs.Ytjjkabgbcflipaa
