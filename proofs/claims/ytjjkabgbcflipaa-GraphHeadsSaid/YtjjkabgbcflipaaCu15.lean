import Derived.Test.YtjjkabgbcflipaaCu14
set_option linter.unusedSimpArgs false
set_option linter.unusedVariables false
namespace Go.Proofs.Ytjjkabgbcflipaa
open Go Go.Proofs Go.RowKit GM

theorem ownI.below' {lo n : Nat} {W W' : World} {v : Value} {l : List Int} (h : ownI lo W v l) (hb : Below n W W') (hl : ∀ b, v.ownBlock = some b → b < n) : ownI lo W' v l := by
  obtain ⟨h1, h2⟩ := h
  refine ⟨h1, h2.imp_right fun ⟨b, cap, cur, e, hlo, hg, r⟩ => ⟨b, cap, cur, e, hlo, ?_, r⟩⟩
  rw [hb.block b (hl b (by rw [e]; rfl))]; exact hg
/-- The worlds in which the steps of the region run: nothing is appended yet; appended, not yet stored; stored. -/
def RowW (lo LB P s : Nat) (f : Int) (vs : List Value) (ls : List (List Int)) (W0 : World) (u37 u38 : Value) (listed : Array Bool) (w : World) : Prop :=
  (listed.getD 11 false = false ∧ listed.getD 13 false = false ∧ Below W0.heap.size W0 w ∧ (listed.getD 10 false = true → C0 w u37 f)) ∨
  ((listed.getD 11 false = true ∧ listed.getD 10 false = true ∧ ∃ g n c, u38 = .slice (some ⟨g, 0, none⟩) n c) ∧ listed.getD 13 false = false ∧ LvAt lo (w.setCell ⟨LB, s, none⟩ u38) LB P (vs.set s u38) (ls.set s (ls.getD s [] ++ [f])) ∧ But (fun b => (vs.getD s nilS).ownBlock = some b) W0 w) ∨
  ((∀ j, j < 14 → listed.getD j false = true) ∧ LvAt lo w LB P (vs.set s u38) (ls.set s (ls.getD s [] ++ [f])) ∧ But (fun b => (vs.getD s nilS).ownBlock = some b ∨ b = LB) W0 w)
theorem RowW.live {lo LB P s : Nat} {f : Int} {vs : List Value} {ls : List (List Int)} {W0 w : World} {u37 u38 : Value} {listed : Array Bool} {i : Nat} (h : RowW lo LB P s f vs ls W0 u37 u38 listed w) (hi : i < 14) (hl : listed.getD i true = false) :
    But (fun b => (vs.getD s nilS).ownBlock = some b) W0 w ∧ listed.getD 13 false = false := by
  rcases h with ⟨-, h2, h3, -⟩ | ⟨-, h2, -, h3⟩ | ⟨h1, -⟩
  · exact ⟨But.of_below h3, h2⟩
  · exact ⟨h3, h2⟩
  · exact (no_both hl (h1 i hi)).elim
theorem RowW.step {lo LB P s : Nat} {f : Int} {vs : List Value} {ls : List (List Int)} {W0 w : World} {u37 u38 : Value} {listed : Array Bool} {i : Nat} (h : RowW lo LB P s f vs ls W0 u37 u38 listed w) (h10 : i ≠ 10) (h11 : i ≠ 11) (h13 : i ≠ 13) :
    RowW lo LB P s f vs ls W0 u37 u38 (listed.setIfInBounds i true) w := by
  rcases h with ⟨h1, h2, h3, h4⟩ | ⟨h1, h2, h3, h4⟩ | ⟨h1, h2, h3⟩
  · exact .inl ⟨by rw [getD_set_ne false h11]; exact h1, by rw [getD_set_ne false h13]; exact h2, h3, fun e => h4 (lset_ne h10 e)⟩
  · exact .inr (.inl ⟨⟨lset_up h1.1, lset_up h1.2.1, h1.2.2⟩, by rw [getD_set_ne false h13]; exact h2, h3, h4⟩)
  · exact .inr (.inr ⟨fun j hj => lset_up (h1 j hj), h2, h3⟩)
def rgAct (LB P bx : Nat) (q0 q1 q2 q3 q5 q7 q8 q9 q10 q11 q12 q13 q14 q15 q16 q17 q18 q19 q20 q21 q22 q23 q24 q25 q26 q40 q41 q42 q43 q44 q45 q46 q47 q48 q49 q50 q51 q52 q53 q54 q55 q56 q57 q58 q59 q60 q61 q62 q63 q64 u27 u28 u29 u30 u31 u32 u33 u34 u35 u36 u37 u38 u39 : Value) : Act :=
  { tmps := #[q0, q1, q2, q3, .slice (some ⟨LB, 0, none⟩) P P, q5, .pointer (some ⟨bx, 0, none⟩), q7, q8, q9, q10, q11, q12, q13, q14, q15, q16, q17, q18, q19, q20, q21, q22, q23, q24, q25, q26, u27, u28, u29, u30, u31, u32, u33, u34, u35, u36, u37, u38, u39, q40, q41, q42, q43, q44, q45, q46, q47, q48, q49, q50, q51, q52, q53, q54, q55, q56, q57, q58, q59, q60, q61, q62, q63, q64], defers := [] }
def rgI (lo LB P s bx : Nat) (f : Int) (vs : List Value) (ls : List (List Int)) (q0 q1 q2 q3 q5 q7 q8 q9 q10 q11 q12 q13 q14 q15 q16 q17 q18 q19 q20 q21 q22 q23 q24 q25 q26 q40 q41 q42 q43 q44 q45 q46 q47 q48 q49 q50 q51 q52 q53 q54 q55 q56 q57 q58 q59 q60 q61 q62 q63 q64 : Value) (W0 : World) (listed : Array Bool) (a : Act) (w : World) : Prop :=
  ∃ u27 u28 u29 u30 u31 u32 u33 u34 u35 u36 u37 u38 u39, a = rgAct LB P bx q0 q1 q2 q3 q5 q7 q8 q9 q10 q11 q12 q13 q14 q15 q16 q17 q18 q19 q20 q21 q22 q23 q24 q25 q26 q40 q41 q42 q43 q44 q45 q46 q47 q48 q49 q50 q51 q52 q53 q54 q55 q56 q57 q58 q59 q60 q61 q62 q63 q64 u27 u28 u29 u30 u31 u32 u33 u34 u35 u36 u37 u38 u39 ∧ RowW lo LB P s f vs ls W0 u37 u38 listed w ∧
    (listed.getD 0 false = true → u27 = .slice (some ⟨LB, 0, none⟩) P P) ∧
    (listed.getD 1 false = true → u28 = .pointer (some ⟨bx, 1, none⟩)) ∧
    (listed.getD 2 false = true → u29 = .int .i64 (s : Int)) ∧
    (listed.getD 3 false = true → u30 = .slice (some ⟨LB, 0, none⟩) P P) ∧
    (listed.getD 4 false = true → u31 = .pointer (some ⟨bx, 1, none⟩)) ∧
    (listed.getD 5 false = true → u32 = .int .i64 (s : Int)) ∧
    (listed.getD 6 false = true → u33 = .pointer (some ⟨LB, s, none⟩)) ∧
    (listed.getD 7 false = true → u34 = vs.getD s nilS) ∧
    (listed.getD 8 false = true → u35 = .pointer (some ⟨bx, 0, none⟩)) ∧
    (listed.getD 9 false = true → u36 = .int .i64 f) ∧
    (listed.getD 12 false = true → u39 = .pointer (some ⟨LB, s, none⟩))
set_option maxRecDepth 20000 in
set_option maxHeartbeats 4000000 in
theorem rg_region (lo LB P s bx : Nat) (f : Int) (vs : List Value) (ls : List (List Int)) (q0 q1 q2 q3 q5 q7 q8 q9 q10 q11 q12 q13 q14 q15 q16 q17 q18 q19 q20 q21 q22 q23 q24 q25 q26 q40 q41 q42 q43 q44 q45 q46 q47 q48 q49 q50 q51 q52 q53 q54 q55 q56 q57 q58 q59 q60 q61 q62 q63 q64 : Value) (W0 : World) (i27 i28 i29 i30 i31 i32 i33 i34 i35 i36 i37 i38 i39 : Value) (hsP : s < P) (hP : P ≤ 512) (hrow : (ls.getD s []).length ≤ 100000) (hbx : bx < W0.heap.size) (hbx0 : W0.cell? ⟨bx, 0, none⟩ = some (.int .i64 f)) (hbx1 : W0.cell? ⟨bx, 1, none⟩ = some (.int .i64 (s : Int))) (hlv : LvAt lo W0 LB P vs ls) (hlo : lo ≤ W0.heap.size) (hnb : ¬ (vs.getD s nilS).ownBlock = some bx) {Q : Exit → Act → World → Prop}
    (hQ : ∀ u27 u28 u29 u30 u31 u32 u33 u34 u35 u36 u37 u38 u39 w, LvAt lo w LB P (vs.set s u38) (ls.set s (ls.getD s [] ++ [f])) ∧ But (fun b => (vs.getD s nilS).ownBlock = some b ∨ b = LB) W0 w → (u27 = .slice (some ⟨LB, 0, none⟩) P P) → (u28 = .pointer (some ⟨bx, 1, none⟩)) → (u29 = .int .i64 (s : Int)) → (u30 = .slice (some ⟨LB, 0, none⟩) P P) → (u31 = .pointer (some ⟨bx, 1, none⟩)) → (u32 = .int .i64 (s : Int)) → (u33 = .pointer (some ⟨LB, s, none⟩)) → (u34 = vs.getD s nilS) → (u35 = .pointer (some ⟨bx, 0, none⟩)) → (u36 = .int .i64 f) → (u39 = .pointer (some ⟨LB, s, none⟩)) → Q .normal (rgAct LB P bx q0 q1 q2 q3 q5 q7 q8 q9 q10 q11 q12 q13 q14 q15 q16 q17 q18 q19 q20 q21 q22 q23 q24 q25 q26 q40 q41 q42 q43 q44 q45 q46 q47 q48 q49 q50 q51 q52 q53 q54 q55 q56 q57 q58 q59 q60 q61 q62 q63 q64 u27 u28 u29 u30 u31 u32 u33 u34 u35 u36 u37 u38 u39) w) :
    (Code.region 7 #[{ dst := some 27, op := Op.move (Operand.tmp 4), type := 27, pos := "loop.go:15", after := #[], guard := none }, { dst := some 28, op := Op.fieldAddr 55 (Operand.tmp 6) 1, type := 0, pos := "loop.go:15", after := #[], guard := none }, { dst := some 29, op := Op.load 3 (Operand.tmp 28), type := 3, pos := "loop.go:15", after := #[{ on := 1, ground := Ground.data }], guard := none }, { dst := some 30, op := Op.move (Operand.tmp 4), type := 27, pos := "loop.go:15", after := #[], guard := none }, { dst := some 31, op := Op.fieldAddr 55 (Operand.tmp 6) 1, type := 0, pos := "loop.go:15", after := #[], guard := none }, { dst := some 32, op := Op.load 3 (Operand.tmp 31), type := 3, pos := "loop.go:15", after := #[{ on := 4, ground := Ground.data }], guard := none }, { dst := some 33, op := Op.indexAddr 27 (Operand.tmp 30) (Operand.tmp 32), type := 0, pos := "loop.go:15", after := #[{ on := 3, ground := Ground.data }, { on := 5, ground := Ground.data }], guard := none }, { dst := some 34, op := Op.load 51 (Operand.tmp 33), type := 51, pos := "loop.go:15", after := #[{ on := 6, ground := Ground.data }], guard := none }, { dst := some 35, op := Op.fieldAddr 55 (Operand.tmp 6) 0, type := 0, pos := "loop.go:15", after := #[], guard := none }, { dst := some 36, op := Op.load 3 (Operand.tmp 35), type := 3, pos := "loop.go:15", after := #[{ on := 8, ground := Ground.data }], guard := none }, { dst := some 37, op := Op.buildSlice 51 1 #[(0, Operand.tmp 36)], type := 51, pos := "loop.go:15", after := #[{ on := 9, ground := Ground.data }], guard := none }, { dst := some 38, op := Op.call { callee := Callee.builtin Builtin.append, args := #[Operand.tmp 34, Operand.tmp 37], argTypes := #[51, 51] }, type := 51, pos := "loop.go:15", after := #[{ on := 7, ground := Ground.data }, { on := 10, ground := Ground.data }], guard := none }, { dst := some 39, op := Op.indexAddr 27 (Operand.tmp 27) (Operand.tmp 29), type := 0, pos := "loop.go:15", after := #[{ on := 0, ground := Ground.data }, { on := 2, ground := Ground.data }, { on := 0, ground := Ground.phase }, { on := 1, ground := Ground.phase }, { on := 2, ground := Ground.phase }, { on := 3, ground := Ground.phase }, { on := 4, ground := Ground.phase }, { on := 5, ground := Ground.phase }, { on := 6, ground := Ground.phase }, { on := 7, ground := Ground.phase }, { on := 8, ground := Ground.phase }, { on := 9, ground := Ground.phase }, { on := 10, ground := Ground.phase }, { on := 11, ground := Ground.phase }], guard := none }, { dst := none, op := Op.store 51 (Operand.tmp 39) (Operand.tmp 38), type := 0, pos := "loop.go:15", after := #[{ on := 12, ground := Ground.data }, { on := 11, ground := Ground.data }, { on := 11, ground := Ground.chain }, { on := 0, ground := Ground.phase }, { on := 1, ground := Ground.phase }, { on := 2, ground := Ground.phase }, { on := 3, ground := Ground.phase }, { on := 4, ground := Ground.phase }, { on := 5, ground := Ground.phase }, { on := 6, ground := Ground.phase }, { on := 7, ground := Ground.phase }, { on := 8, ground := Ground.phase }, { on := 9, ground := Ground.phase }, { on := 10, ground := Ground.phase }, { on := 11, ground := Ground.phase }], guard := none }] true).wp Try.prog Q (rgAct LB P bx q0 q1 q2 q3 q5 q7 q8 q9 q10 q11 q12 q13 q14 q15 q16 q17 q18 q19 q20 q21 q22 q23 q24 q25 q26 q40 q41 q42 q43 q44 q45 q46 q47 q48 q49 q50 q51 q52 q53 q54 q55 q56 q57 q58 q59 q60 q61 q62 q63 q64 (i27) (i28) (i29) (i30) (i31) (i32) (i33) (i34) (i35) (i36) (i37) (i38) (i39)) W0 := by
  refine wp_region_inv (by kernel_rfl) (by kernel_rfl) (rgI lo LB P s bx f vs ls q0 q1 q2 q3 q5 q7 q8 q9 q10 q11 q12 q13 q14 q15 q16 q17 q18 q19 q20 q21 q22 q23 q24 q25 q26 q40 q41 q42 q43 q44 q45 q46 q47 q48 q49 q50 q51 q52 q53 q54 q55 q56 q57 q58 q59 q60 q61 q62 q63 q64 W0) ?_ ?_ ?_
  · refine ⟨_, _, _, _, _, _, _, _, _, _, _, _, _, rfl, .inl ⟨rfl, rfl, (Below.refl _ _).drew, fun e => by simp at e⟩, ?_, ?_, ?_, ?_, ?_, ?_, ?_, ?_, ?_, ?_, ?_⟩ <;> (intro e; simp at e)
  · intro listed a w i o hI hs ho hl hd
    have hi9 : i < 14 := (Array.getElem?_eq_some_iff.1 ho).1
    obtain ⟨u27, u28, u29, u30, u31, u32, u33, u34, u35, u36, u37, u38, u39, rfl, hB, h0, h1, h2, h3, h4, h5, h6, h7, h8, h9, h12⟩ := hI
    rcases (show i = 0 ∨ i = 1 ∨ i = 2 ∨ i = 3 ∨ i = 4 ∨ i = 5 ∨ i = 6 ∨ i = 7 ∨ i = 8 ∨ i = 9 ∨ i = 10 ∨ i = 11 ∨ i = 12 ∨ i = 13 by omega) with rfl | rfl | rfl | rfl | rfl | rfl | rfl | rfl | rfl | rfl | rfl | rfl | rfl | rfl
    · have ho' : some _ = some o := ho
      cases ho'
      have hB2 := hB.step (i := 0) (by decide) (by decide) (by decide)
      unfold rgAct; go_simp
      exact ⟨.slice (some ⟨LB, 0, none⟩) P P, u28, u29, u30, u31, u32, u33, u34, u35, u36, u37, u38, u39, rfl, hB2, fun _ => rfl, fun e1 => h1 (lset_ne (by decide) e1), fun e2 => h2 (lset_ne (by decide) e2), fun e3 => h3 (lset_ne (by decide) e3), fun e4 => h4 (lset_ne (by decide) e4), fun e5 => h5 (lset_ne (by decide) e5), fun e6 => h6 (lset_ne (by decide) e6), fun e7 => h7 (lset_ne (by decide) e7), fun e8 => h8 (lset_ne (by decide) e8), fun e9 => h9 (lset_ne (by decide) e9), fun e12 => h12 (lset_ne (by decide) e12)⟩
    · have ho' : some _ = some o := ho
      cases ho'
      have hB2 := hB.step (i := 1) (by decide) (by decide) (by decide)
      unfold rgAct; go_simp
      exact ⟨u27, .pointer (some ⟨bx, 1, none⟩), u29, u30, u31, u32, u33, u34, u35, u36, u37, u38, u39, rfl, hB2, fun e0 => h0 (lset_ne (by decide) e0), fun _ => rfl, fun e2 => h2 (lset_ne (by decide) e2), fun e3 => h3 (lset_ne (by decide) e3), fun e4 => h4 (lset_ne (by decide) e4), fun e5 => h5 (lset_ne (by decide) e5), fun e6 => h6 (lset_ne (by decide) e6), fun e7 => h7 (lset_ne (by decide) e7), fun e8 => h8 (lset_ne (by decide) e8), fun e9 => h9 (lset_ne (by decide) e9), fun e12 => h12 (lset_ne (by decide) e12)⟩
    · have ho' : some _ = some o := ho
      cases ho'
      have d1 := hd { on := 1, ground := .data } (by simp) rfl
      obtain ⟨hb1, h13⟩ := hB.live hi9 hl
      have hLn : ¬ (vs.getD s nilS).ownBlock = some LB := fun e => by have := ((hlv.row s hsP).lt e).1; have := hlv.low; omega
      have c1 : w.cell? ⟨bx, 1, none⟩ = some (.int .i64 (s : Int)) := (hb1.cell (p := ⟨bx, 1, none⟩) hbx hnb).trans hbx1
      have e1 := h1 d1
      subst e1
      have hB2 := hB.step (i := 2) (by decide) (by decide) (by decide)
      unfold rgAct; go_simp
      exact ⟨u27, .pointer (some ⟨bx, 1, none⟩), .int .i64 (s : Int), u30, u31, u32, u33, u34, u35, u36, u37, u38, u39, rfl, hB2, fun e0 => h0 (lset_ne (by decide) e0), fun e1 => h1 (lset_ne (by decide) e1), fun _ => rfl, fun e3 => h3 (lset_ne (by decide) e3), fun e4 => h4 (lset_ne (by decide) e4), fun e5 => h5 (lset_ne (by decide) e5), fun e6 => h6 (lset_ne (by decide) e6), fun e7 => h7 (lset_ne (by decide) e7), fun e8 => h8 (lset_ne (by decide) e8), fun e9 => h9 (lset_ne (by decide) e9), fun e12 => h12 (lset_ne (by decide) e12)⟩
    · have ho' : some _ = some o := ho
      cases ho'
      have hB2 := hB.step (i := 3) (by decide) (by decide) (by decide)
      unfold rgAct; go_simp
      exact ⟨u27, u28, u29, .slice (some ⟨LB, 0, none⟩) P P, u31, u32, u33, u34, u35, u36, u37, u38, u39, rfl, hB2, fun e0 => h0 (lset_ne (by decide) e0), fun e1 => h1 (lset_ne (by decide) e1), fun e2 => h2 (lset_ne (by decide) e2), fun _ => rfl, fun e4 => h4 (lset_ne (by decide) e4), fun e5 => h5 (lset_ne (by decide) e5), fun e6 => h6 (lset_ne (by decide) e6), fun e7 => h7 (lset_ne (by decide) e7), fun e8 => h8 (lset_ne (by decide) e8), fun e9 => h9 (lset_ne (by decide) e9), fun e12 => h12 (lset_ne (by decide) e12)⟩
    · have ho' : some _ = some o := ho
      cases ho'
      have hB2 := hB.step (i := 4) (by decide) (by decide) (by decide)
      unfold rgAct; go_simp
      exact ⟨u27, u28, u29, u30, .pointer (some ⟨bx, 1, none⟩), u32, u33, u34, u35, u36, u37, u38, u39, rfl, hB2, fun e0 => h0 (lset_ne (by decide) e0), fun e1 => h1 (lset_ne (by decide) e1), fun e2 => h2 (lset_ne (by decide) e2), fun e3 => h3 (lset_ne (by decide) e3), fun _ => rfl, fun e5 => h5 (lset_ne (by decide) e5), fun e6 => h6 (lset_ne (by decide) e6), fun e7 => h7 (lset_ne (by decide) e7), fun e8 => h8 (lset_ne (by decide) e8), fun e9 => h9 (lset_ne (by decide) e9), fun e12 => h12 (lset_ne (by decide) e12)⟩
    · have ho' : some _ = some o := ho
      cases ho'
      have d4 := hd { on := 4, ground := .data } (by simp) rfl
      obtain ⟨hb1, h13⟩ := hB.live hi9 hl
      have hLn : ¬ (vs.getD s nilS).ownBlock = some LB := fun e => by have := ((hlv.row s hsP).lt e).1; have := hlv.low; omega
      have c1 : w.cell? ⟨bx, 1, none⟩ = some (.int .i64 (s : Int)) := (hb1.cell (p := ⟨bx, 1, none⟩) hbx hnb).trans hbx1
      have e4 := h4 d4
      subst e4
      have hB2 := hB.step (i := 5) (by decide) (by decide) (by decide)
      unfold rgAct; go_simp
      exact ⟨u27, u28, u29, u30, .pointer (some ⟨bx, 1, none⟩), .int .i64 (s : Int), u33, u34, u35, u36, u37, u38, u39, rfl, hB2, fun e0 => h0 (lset_ne (by decide) e0), fun e1 => h1 (lset_ne (by decide) e1), fun e2 => h2 (lset_ne (by decide) e2), fun e3 => h3 (lset_ne (by decide) e3), fun e4 => h4 (lset_ne (by decide) e4), fun _ => rfl, fun e6 => h6 (lset_ne (by decide) e6), fun e7 => h7 (lset_ne (by decide) e7), fun e8 => h8 (lset_ne (by decide) e8), fun e9 => h9 (lset_ne (by decide) e9), fun e12 => h12 (lset_ne (by decide) e12)⟩
    · have ho' : some _ = some o := ho
      cases ho'
      have d3 := hd { on := 3, ground := .data } (by simp) rfl
      have d5 := hd { on := 5, ground := .data } (by simp) rfl
      have p0 : (0 : Int) ≤ (s : Int) := by omega
      have p1 : (s : Int) < (P : Int) := by omega
      have e3 := h3 d3
      subst e3
      have e5 := h5 d5
      subst e5
      have hB2 := hB.step (i := 6) (by decide) (by decide) (by decide)
      unfold rgAct; go_simp
      exact ⟨u27, u28, u29, .slice (some ⟨LB, 0, none⟩) P P, u31, .int .i64 (s : Int), .pointer (some ⟨LB, s, none⟩), u34, u35, u36, u37, u38, u39, rfl, hB2, fun e0 => h0 (lset_ne (by decide) e0), fun e1 => h1 (lset_ne (by decide) e1), fun e2 => h2 (lset_ne (by decide) e2), fun e3 => h3 (lset_ne (by decide) e3), fun e4 => h4 (lset_ne (by decide) e4), fun e5 => h5 (lset_ne (by decide) e5), fun _ => rfl, fun e7 => h7 (lset_ne (by decide) e7), fun e8 => h8 (lset_ne (by decide) e8), fun e9 => h9 (lset_ne (by decide) e9), fun e12 => h12 (lset_ne (by decide) e12)⟩
    · have ho' : some _ = some o := ho
      cases ho'
      have d6 := hd { on := 6, ground := .data } (by simp) rfl
      obtain ⟨hb1, h13⟩ := hB.live hi9 hl
      have hLn : ¬ (vs.getD s nilS).ownBlock = some LB := fun e => by have := ((hlv.row s hsP).lt e).1; have := hlv.low; omega
      have c2 : w.cell? ⟨LB, s, none⟩ = some (vs.getD s nilS) := (hb1.cell (p := ⟨LB, s, none⟩) hlv.lt hLn).trans (hlv.tab s hsP)
      clear hLn
      have e6 := h6 d6
      subst e6
      generalize hrv : vs.getD s nilS = rv at *
      have hB2 := hB.step (i := 7) (by decide) (by decide) (by decide)
      unfold rgAct; go_simp
      exact ⟨u27, u28, u29, u30, u31, u32, .pointer (some ⟨LB, s, none⟩), rv, u35, u36, u37, u38, u39, rfl, hB2, fun e0 => h0 (lset_ne (by decide) e0), fun e1 => h1 (lset_ne (by decide) e1), fun e2 => h2 (lset_ne (by decide) e2), fun e3 => h3 (lset_ne (by decide) e3), fun e4 => h4 (lset_ne (by decide) e4), fun e5 => h5 (lset_ne (by decide) e5), fun e6 => h6 (lset_ne (by decide) e6), fun _ => hrv.symm, fun e8 => h8 (lset_ne (by decide) e8), fun e9 => h9 (lset_ne (by decide) e9), fun e12 => h12 (lset_ne (by decide) e12)⟩
    · have ho' : some _ = some o := ho
      cases ho'
      have hB2 := hB.step (i := 8) (by decide) (by decide) (by decide)
      unfold rgAct; go_simp
      exact ⟨u27, u28, u29, u30, u31, u32, u33, u34, .pointer (some ⟨bx, 0, none⟩), u36, u37, u38, u39, rfl, hB2, fun e0 => h0 (lset_ne (by decide) e0), fun e1 => h1 (lset_ne (by decide) e1), fun e2 => h2 (lset_ne (by decide) e2), fun e3 => h3 (lset_ne (by decide) e3), fun e4 => h4 (lset_ne (by decide) e4), fun e5 => h5 (lset_ne (by decide) e5), fun e6 => h6 (lset_ne (by decide) e6), fun e7 => h7 (lset_ne (by decide) e7), fun _ => rfl, fun e9 => h9 (lset_ne (by decide) e9), fun e12 => h12 (lset_ne (by decide) e12)⟩
    · have ho' : some _ = some o := ho
      cases ho'
      have d8 := hd { on := 8, ground := .data } (by simp) rfl
      obtain ⟨hb1, h13⟩ := hB.live hi9 hl
      have hLn : ¬ (vs.getD s nilS).ownBlock = some LB := fun e => by have := ((hlv.row s hsP).lt e).1; have := hlv.low; omega
      have c0 : w.cell? ⟨bx, 0, none⟩ = some (.int .i64 f) := (hb1.cell (p := ⟨bx, 0, none⟩) hbx hnb).trans hbx0
      have e8 := h8 d8
      subst e8
      have hB2 := hB.step (i := 9) (by decide) (by decide) (by decide)
      unfold rgAct; go_simp
      exact ⟨u27, u28, u29, u30, u31, u32, u33, u34, .pointer (some ⟨bx, 0, none⟩), .int .i64 f, u37, u38, u39, rfl, hB2, fun e0 => h0 (lset_ne (by decide) e0), fun e1 => h1 (lset_ne (by decide) e1), fun e2 => h2 (lset_ne (by decide) e2), fun e3 => h3 (lset_ne (by decide) e3), fun e4 => h4 (lset_ne (by decide) e4), fun e5 => h5 (lset_ne (by decide) e5), fun e6 => h6 (lset_ne (by decide) e6), fun e7 => h7 (lset_ne (by decide) e7), fun e8 => h8 (lset_ne (by decide) e8), fun _ => rfl, fun e12 => h12 (lset_ne (by decide) e12)⟩
    · have ho' : some _ = some o := ho
      cases ho'
      have d9 := hd { on := 9, ground := .data } (by simp) rfl
      rcases hB with ⟨b1, b2, b3, b4⟩ | ⟨b1, b2, b3, b4⟩ | ⟨b1, b2⟩
      rotate_left
      · exact (no_both hl b1.2.1).elim
      · exact (no_both hl (b1 10 (by decide))).elim
      have e9 := h9 d9
      subst e9
      have hB2 : RowW lo LB P s f vs ls W0 (.slice (some ⟨w.heap.size, 0, none⟩) 1 1) u38 (listed.setIfInBounds 10 true) (w.alloc (Obj.cells #[.int .i64 f] 3)) := .inl ⟨by rw [getD_set_ne false (by decide)]; exact b1, by rw [getD_set_ne false (by decide)]; exact b2, b3.alloc b3.size _, fun _ => ⟨w.heap.size, rfl, by simp, by go_cell⟩⟩
      unfold rgAct; go_simp
      exact ⟨u27, u28, u29, u30, u31, u32, u33, u34, u35, .int .i64 f, .slice (some ⟨w.heap.size, 0, none⟩) 1 1, u38, u39, rfl, hB2, fun e0 => h0 (lset_ne (by decide) e0), fun e1 => h1 (lset_ne (by decide) e1), fun e2 => h2 (lset_ne (by decide) e2), fun e3 => h3 (lset_ne (by decide) e3), fun e4 => h4 (lset_ne (by decide) e4), fun e5 => h5 (lset_ne (by decide) e5), fun e6 => h6 (lset_ne (by decide) e6), fun e7 => h7 (lset_ne (by decide) e7), fun e8 => h8 (lset_ne (by decide) e8), fun e9 => h9 (lset_ne (by decide) e9), fun e12 => h12 (lset_ne (by decide) e12)⟩
    · have ho' : some _ = some o := ho
      cases ho'
      have d7 := hd { on := 7, ground := .data } (by simp) rfl
      have d10 := hd { on := 10, ground := .data } (by simp) rfl
      rcases hB with ⟨b1, b2, b3, b4⟩ | ⟨b1, b2, b3, b4⟩ | ⟨b1, b2⟩
      rotate_left
      · exact (no_both hl b1.1).elim
      · exact (no_both hl (b1 11 (by decide))).elim
      obtain ⟨b, hu, hbl, hbc⟩ := b4 d10
      subst hu
      have e7 := h7 d7
      subst e7
      have how := (hlv.row s hsP).below' b3 (fun b e => ((hlv.row s hsP).lt e).2)
      refine step_pushI (v := vs.getD s nilS) (lo := lo) (l := ls.getD s []) rfl (.tmp 34) (.tmp 37) rfl rfl how (by omega) (Nat.le_trans hlo b3.size) b f rfl hbc ?_
      intro g cap n w9 hn h9w hg9 hgg
      subst hn
      have hlv2 := (hlv.but (S := fun _ => False) (But.of_below b3) id (fun _ _ _ _ => id)).push hsP h9w hg9 hgg
      have hb9 := (But.of_below (S := fun b => (vs.getD s nilS).ownBlock = some b) b3).trans (But.of_grown (S := fun b => (vs.getD s nilS).ownBlock = some b) hg9 (fun _ e => e)) (fun _ _ e => e)
      have hB2 : RowW lo LB P s f vs ls W0 (.slice (some ⟨b, 0, none⟩) 1 1) (.slice (some ⟨g, 0, none⟩) ((ls.getD s []).length + 1) cap) (listed.setIfInBounds 11 true) w9 := .inr (.inl ⟨⟨lset_eq hs (by decide), lset_up d10, _, _, _, rfl⟩, by rw [getD_set_ne false (by decide)]; exact b2, hlv2, hb9⟩)
      unfold rgAct; simp only [Act.put, List.setIfInBounds_toArray, List.set_cons_zero, List.set_cons_succ]
      exact ⟨u27, u28, u29, u30, u31, u32, u33, vs.getD s nilS, u35, u36, .slice (some ⟨b, 0, none⟩) 1 1, .slice (some ⟨g, 0, none⟩) ((ls.getD s []).length + 1) cap, u39, rfl, hB2, fun e0 => h0 (lset_ne (by decide) e0), fun e1 => h1 (lset_ne (by decide) e1), fun e2 => h2 (lset_ne (by decide) e2), fun e3 => h3 (lset_ne (by decide) e3), fun e4 => h4 (lset_ne (by decide) e4), fun e5 => h5 (lset_ne (by decide) e5), fun e6 => h6 (lset_ne (by decide) e6), fun e7 => h7 (lset_ne (by decide) e7), fun e8 => h8 (lset_ne (by decide) e8), fun e9 => h9 (lset_ne (by decide) e9), fun e12 => h12 (lset_ne (by decide) e12)⟩
    · have ho' : some _ = some o := ho
      cases ho'
      have d0 := hd { on := 0, ground := .data } (by simp) rfl
      have d2 := hd { on := 2, ground := .data } (by simp) rfl
      have d0 := hd { on := 0, ground := .phase } (by simp) rfl
      have d1 := hd { on := 1, ground := .phase } (by simp) rfl
      have d2 := hd { on := 2, ground := .phase } (by simp) rfl
      have d3 := hd { on := 3, ground := .phase } (by simp) rfl
      have d4 := hd { on := 4, ground := .phase } (by simp) rfl
      have d5 := hd { on := 5, ground := .phase } (by simp) rfl
      have d6 := hd { on := 6, ground := .phase } (by simp) rfl
      have d7 := hd { on := 7, ground := .phase } (by simp) rfl
      have d8 := hd { on := 8, ground := .phase } (by simp) rfl
      have d9 := hd { on := 9, ground := .phase } (by simp) rfl
      have d10 := hd { on := 10, ground := .phase } (by simp) rfl
      have d11 := hd { on := 11, ground := .phase } (by simp) rfl
      have p0 : (0 : Int) ≤ (s : Int) := by omega
      have p1 : (s : Int) < (P : Int) := by omega
      have e0 := h0 d0
      subst e0
      have e1 := h1 d1
      subst e1
      have e2 := h2 d2
      subst e2
      have e3 := h3 d3
      subst e3
      have e4 := h4 d4
      subst e4
      have e5 := h5 d5
      subst e5
      have e6 := h6 d6
      subst e6
      have e7 := h7 d7
      subst e7
      have e8 := h8 d8
      subst e8
      have e9 := h9 d9
      subst e9
      have hB2 := hB.step (i := 12) (by decide) (by decide) (by decide)
      unfold rgAct; go_simp
      exact ⟨.slice (some ⟨LB, 0, none⟩) P P, .pointer (some ⟨bx, 1, none⟩), .int .i64 (s : Int), .slice (some ⟨LB, 0, none⟩) P P, .pointer (some ⟨bx, 1, none⟩), .int .i64 (s : Int), .pointer (some ⟨LB, s, none⟩), vs.getD s nilS, .pointer (some ⟨bx, 0, none⟩), .int .i64 f, u37, u38, .pointer (some ⟨LB, s, none⟩), rfl, hB2, fun e0 => h0 (lset_ne (by decide) e0), fun e1 => h1 (lset_ne (by decide) e1), fun e2 => h2 (lset_ne (by decide) e2), fun e3 => h3 (lset_ne (by decide) e3), fun e4 => h4 (lset_ne (by decide) e4), fun e5 => h5 (lset_ne (by decide) e5), fun e6 => h6 (lset_ne (by decide) e6), fun e7 => h7 (lset_ne (by decide) e7), fun e8 => h8 (lset_ne (by decide) e8), fun e9 => h9 (lset_ne (by decide) e9), fun _ => rfl⟩
    · have ho' : some _ = some o := ho
      cases ho'
      have d12 := hd { on := 12, ground := .data } (by simp) rfl
      have d11 := hd { on := 11, ground := .data } (by simp) rfl
      have d11 := hd { on := 11, ground := .chain } (by simp) rfl
      have d0 := hd { on := 0, ground := .phase } (by simp) rfl
      have d1 := hd { on := 1, ground := .phase } (by simp) rfl
      have d2 := hd { on := 2, ground := .phase } (by simp) rfl
      have d3 := hd { on := 3, ground := .phase } (by simp) rfl
      have d4 := hd { on := 4, ground := .phase } (by simp) rfl
      have d5 := hd { on := 5, ground := .phase } (by simp) rfl
      have d6 := hd { on := 6, ground := .phase } (by simp) rfl
      have d7 := hd { on := 7, ground := .phase } (by simp) rfl
      have d8 := hd { on := 8, ground := .phase } (by simp) rfl
      have d9 := hd { on := 9, ground := .phase } (by simp) rfl
      have d10 := hd { on := 10, ground := .phase } (by simp) rfl
      have d11 := hd { on := 11, ground := .phase } (by simp) rfl
      obtain ⟨hb1, h13⟩ := hB.live hi9 hl
      have hLn : ¬ (vs.getD s nilS).ownBlock = some LB := fun e => by have := ((hlv.row s hsP).lt e).1; have := hlv.low; omega
      have c2 : w.cell? ⟨LB, s, none⟩ = some (vs.getD s nilS) := (hb1.cell (p := ⟨LB, s, none⟩) hlv.lt hLn).trans (hlv.tab s hsP)
      have c3 : w.frozen? ⟨LB, s, none⟩ = false := (hb1.frozen (p := ⟨LB, s, none⟩) hlv.lt hLn).trans (hlv.free s)
      rcases hB with ⟨b1, b2, b3, b4⟩ | ⟨b1, b2, b3, b4⟩ | ⟨b1, b2⟩
      · rw [b1] at d11; cases d11
      rotate_left
      · exact (no_both hl (b1 13 (by decide))).elim
      obtain ⟨-, -, g, n, c, hu⟩ := b1
      subst hu
      have e0 := h0 d0
      subst e0
      have e1 := h1 d1
      subst e1
      have e2 := h2 d2
      subst e2
      have e3 := h3 d3
      subst e3
      have e4 := h4 d4
      subst e4
      have e5 := h5 d5
      subst e5
      have e6 := h6 d6
      subst e6
      have e7 := h7 d7
      subst e7
      have e8 := h8 d8
      subst e8
      have e9 := h9 d9
      subst e9
      have e12 := h12 d12
      subst e12
      have hb9 : But (fun b => (vs.getD s nilS).ownBlock = some b ∨ b = LB) W0 (w.setCell ⟨LB, s, none⟩ (.slice (some ⟨g, 0, none⟩) n c)) := (b4.mono (fun _ _ e => Or.inl e)).set _ _ (fun _ => Or.inr rfl)
      have hB2 : RowW lo LB P s f vs ls W0 u37 (.slice (some ⟨g, 0, none⟩) n c) (listed.setIfInBounds 13 true) (w.setCell ⟨LB, s, none⟩ (.slice (some ⟨g, 0, none⟩) n c)) := .inr (.inr ⟨fun j hj => (by rcases (show j = 0 ∨ j = 1 ∨ j = 2 ∨ j = 3 ∨ j = 4 ∨ j = 5 ∨ j = 6 ∨ j = 7 ∨ j = 8 ∨ j = 9 ∨ j = 10 ∨ j = 11 ∨ j = 12 ∨ j = 13 by omega) with rfl | rfl | rfl | rfl | rfl | rfl | rfl | rfl | rfl | rfl | rfl | rfl | rfl | rfl; all_goals first | exact lset_eq hs (by decide) | (apply lset_up; assumption)), b3, hb9⟩)
      clear hb9 b3 b4
      generalize hrv : vs.getD s nilS = rv at *
      unfold rgAct; go_simp
      exact ⟨.slice (some ⟨LB, 0, none⟩) P P, .pointer (some ⟨bx, 1, none⟩), .int .i64 (s : Int), .slice (some ⟨LB, 0, none⟩) P P, .pointer (some ⟨bx, 1, none⟩), .int .i64 (s : Int), .pointer (some ⟨LB, s, none⟩), rv, .pointer (some ⟨bx, 0, none⟩), .int .i64 f, u37, .slice (some ⟨g, 0, none⟩) n c, .pointer (some ⟨LB, s, none⟩), rfl, hB2, fun e0 => h0 (lset_ne (by decide) e0), fun e1 => h1 (lset_ne (by decide) e1), fun e2 => h2 (lset_ne (by decide) e2), fun e3 => h3 (lset_ne (by decide) e3), fun e4 => h4 (lset_ne (by decide) e4), fun e5 => h5 (lset_ne (by decide) e5), fun e6 => h6 (lset_ne (by decide) e6), fun _ => hrv.symm, fun e8 => h8 (lset_ne (by decide) e8), fun e9 => h9 (lset_ne (by decide) e9), fun e12 => h12 (lset_ne (by decide) e12)⟩
  · rintro listed a w ⟨u27, u28, u29, u30, u31, u32, u33, u34, u35, u36, u37, u38, u39, rfl, hB, h0, h1, h2, h3, h4, h5, h6, h7, h8, h9, h12⟩ hall
    exact hQ _ _ _ _ _ _ _ _ _ _ _ _ _ w (hB.elim (fun h => absurd h.2.1 (by rw [hall 13 (by decide)]; decide)) (fun h => h.elim (fun h => absurd h.2.1 (by rw [hall 13 (by decide)]; decide)) (fun h => h.2))) (h0 (hall 0 (by decide))) (h1 (hall 1 (by decide))) (h2 (hall 2 (by decide))) (h3 (hall 3 (by decide))) (h4 (hall 4 (by decide))) (h5 (hall 5 (by decide))) (h6 (hall 6 (by decide))) (h7 (hall 7 (by decide))) (h8 (hall 8 (by decide))) (h9 (hall 9 (by decide))) (h12 (hall 12 (by decide)))
end Go.Proofs.Ytjjkabgbcflipaa
namespace Go.Proofs.Ytjjkabgbcflipaa
open Go Go.Proofs Go.RowKit GM

/-- From where the first j edges that are chosen come, for each point. -/
def lsT (P : Nat) (bk : Ed → Bool) (E : List Ed) (j : Nat) : List (List Int) :=
  (List.range P).map fun (p : Nat) => ((List.range j).filter fun (i : Nat) => bk (edD E i) && decide ((edD E i).t = (p : Int))).map fun (i : Nat) => (edD E i).f
theorem lsT_len (P : Nat) (bk : Ed → Bool) (E : List Ed) (j : Nat) : (lsT P bk E j).length = P := by simp [lsT]
theorem lsT_at {P p : Nat} (bk : Ed → Bool) (E : List Ed) (j : Nat) (hp : p < P) : (lsT P bk E j).getD p [] = ((List.range j).filter fun (i : Nat) => bk (edD E i) && decide ((edD E i).t = (p : Int))).map fun (i : Nat) => (edD E i).f := by
  rw [List.getD_eq_getElem?_getD]; simp [lsT, hp]
theorem lsT_row_len {P p : Nat} (bk : Ed → Bool) (E : List Ed) (j : Nat) : ((lsT P bk E j).getD p []).length ≤ j := by
  by_cases hp : p < P
  · rw [lsT_at bk E j hp, List.length_map]
    exact Nat.le_trans (List.length_filter_le _ _) (by simp)
  · rw [List.getD_eq_getElem?_getD, List.getElem?_eq_none (by rw [lsT_len]; omega)]; simp
theorem lsT_zero (P : Nat) (bk : Ed → Bool) (E : List Ed) : lsT P bk E 0 = List.replicate P [] := by
  apply List.ext_getElem
  · simp [lsT]
  · intro p h1 h2; simp [lsT]
theorem lsT_no {P : Nat} {bk : Ed → Bool} (E : List Ed) (j : Nat) (h : bk (edD E j) = false) : lsT P bk E (j + 1) = lsT P bk E j := by
  unfold lsT
  apply List.map_congr_left
  intro p _
  rw [List.range_succ, List.filter_append, List.map_append]
  simp [h]
theorem lsT_yes {P k : Nat} {bk : Ed → Bool} (E : List Ed) (j : Nat) (h : bk (edD E j) = true) (hk : k < P) (hf : (edD E j).t = (k : Int)) : lsT P bk E (j + 1) = (lsT P bk E j).set k ((lsT P bk E j).getD k [] ++ [(edD E j).f]) := by
  apply List.ext_getElem
  · rw [List.length_set, lsT_len, lsT_len]
  · intro p h1 h2
    rw [lsT_len] at h1
    have e1 : ∀ j, ∀ h : p < (lsT P bk E j).length, (lsT P bk E j)[p]'h = (lsT P bk E j).getD p [] := fun j h => by rw [List.getD_eq_getElem?_getD, List.getElem?_eq_getElem h]; rfl
    rw [List.getElem_set, e1, lsT_at bk E (j + 1) h1]
    by_cases q : k = p
    · subst q
      rw [if_pos rfl, lsT_at bk E j h1, List.range_succ, List.filter_append, List.map_append]
      simp [hf, h]
    · rw [if_neg q, e1, lsT_at bk E j h1, List.range_succ, List.filter_append, List.map_append]
      have : decide ((edD E j).t = (p : Int)) = false := by rw [hf, decide_eq_false_iff_not]; omega
      simp [this]
/-- A loop as it lies: its head, the slice of its points, its points. -/
structure Lp where
  h : Nat
  v : Value
  l : List Int
def lpCells (L : List Lp) : List Value := L.flatMap fun x => [.int .i64 (x.h : Int), x.v]
theorem lpCells_len (L : List Lp) : (lpCells L).length = L.length * 2 := by
  unfold lpCells
  induction L with
  | nil => rfl
  | cons x L ih => rw [List.flatMap_cons, List.length_append, ih]; simp only [List.length_cons, List.length_nil]; omega
/-- A list of loops that is one's own, and the points of each. -/
structure LpAt (lo : Nat) (W : World) (v : Value) (L : List Lp) : Prop where
  own : W.ownsRow lo 73 2 v L.length (lpCells L)
  pts : ∀ x ∈ L, ownI lo W x.v x.l
  ap : ∀ x ∈ L, ∀ b, x.v.ownBlock = some b → v.ownBlock ≠ some b
theorem LpAt.nil (lo : Nat) (W : World) : LpAt lo W (.slice none 0 0) [] := ⟨World.ownsRow_nil .., fun _ h => by simp at h, fun _ h => by simp at h⟩
theorem ownsRow_below {lo n : Nat} {t : TypeId} {sz k : Nat} {W W' : World} {v : Value} {xs : List Value} (h : W.ownsRow lo t sz v k xs) (hb : Below n W W') (hl : ∀ b, v.ownBlock = some b → b < n) : W'.ownsRow lo t sz v k xs := by
  obtain ⟨h1, h2⟩ := h
  refine ⟨h1, h2.imp_right fun ⟨b, cap, cur, e, hlo, hg, r⟩ => ⟨b, cap, cur, e, hlo, ?_, r⟩⟩
  rw [hb.block b (hl b (by rw [e]; rfl))]; exact hg
theorem LpAt.below {lo : Nat} {W W' : World} {v : Value} {L : List Lp} (h : LpAt lo W v L) (hb : Below W.heap.size W W') : LpAt lo W' v L :=
  ⟨ownsRow_below h.own hb (fun b e => (World.ownsRow.lt h.own b e).2), fun x hx => (h.pts x hx).below hb, h.ap⟩
theorem LpAt.slice {lo : Nat} {W : World} {v : Value} {L : List Lp} (h : LpAt lo W v L) : ∃ ao c, v = .slice ao L.length c := by
  rcases h.own.2 with ⟨e, h0⟩ | ⟨g, cap, cur, e, -⟩
  · exact ⟨none, 0, by rw [e, h0]⟩
  · exact ⟨_, cap, e⟩
theorem infoLoop : (Try.prog.info? 73).map (fun i => (i.zero, i.size, i.bytes)) = some (some (.agg #[.int .i64 0, nilS]), 2, 32) := by kernel_rfl
/-- A loop is appended. -/
theorem wpList_pushLp {lo : Nat} {W : World} {v pv : Value} {L : List Lp} {hd : Nat} {pl : List Int} {ops : Array Oper} {rest : List Oper} {o : Oper} {a : Act} {Q : Exit → Act → World → Prop}
    (hg : o.guard = none) (s x : Operand) (hop : o.op = Op.call { callee := Callee.builtin Builtin.append, args := #[s, x], argTypes := #[62, 62] })
    (hs : a.eval s = v) (hown : LpAt lo W v L) (hp : ownI lo W pv pl) (hap : ∀ b, pv.ownBlock = some b → v.ownBlock ≠ some b) (hl : L.length ≤ 100000) (hbase : lo ≤ W.heap.size)
    (ad : Nat) (hx : a.eval x = .slice (some ⟨ad, 0, none⟩) 1 1) (hc0 : W.cell? ⟨ad, 0, none⟩ = some (.int .i64 (hd : Int))) (hc1 : W.cell? ⟨ad, 1, none⟩ = some pv)
    (hK : ∀ (g cap n : Nat) (w9 : World), n = L.length + 1 → LpAt lo w9 (.slice (some ⟨g, 0, none⟩) n cap) (L ++ [⟨hd, pv, pl⟩]) → W.grownBy w9 v.ownBlock → wpList Try.prog ops Q rest (a.put o.dst (.slice (some ⟨g, 0, none⟩) n cap)) w9) :
    wpList Try.prog ops Q (o :: rest) a W := by
  obtain ⟨i0, hi, hz0, hz1, hz2⟩ := info_parts infoLoop
  have hpo : pv.oneCell' = true := by
    obtain ⟨ao, c, e, -⟩ := hp.slice
    rw [e]; rfl
  refine wpList_append_lies W hg s x 62 hop lo 73 i0 (.agg #[.int .i64 0, nilS]) 2 32 Try.underlying62 hi hz0 hz1 hz2 rfl (by decide) v L.length (lpCells L) hs hown.own ⟨ad, 0, none⟩ 1 1 [.int .i64 (hd : Int), pv] hx rfl ?_ (by intro u hu; simp only [List.mem_cons, List.not_mem_nil, or_false] at hu; rcases hu with e | e <;> rw [e] <;> first | rfl | exact hpo) (by decide) (by unfold maxLen; omega) (by omega) hbase _ rfl ?_
  · intro j u hu
    match j, hu with
    | 0, hu => simp at hu; subst hu; rw [addr_zero]; exact hc0
    | 1, hu => simp at hu; subst hu; rw [addr_zero]; exact hc1
  · intro g cap w9 hown9 hgrow hgg hg9
    have hb : But (fun b => v.ownBlock = some b) W w9 := But.of_grown hgrow (fun _ e => e)
    have hgp : ∀ (pv : Value) (pl : List Int), ownI lo W pv pl → (∀ b, pv.ownBlock = some b → v.ownBlock ≠ some b) → ∀ b, pv.ownBlock = some b → (Value.slice (some ⟨g, 0, none⟩) (L.length + 1) cap).ownBlock ≠ some b := fun pv pl hp hap b e q => by
      cases q
      rcases hgg with q | q
      · exact hap _ e q
      · have := (hp.lt e).2; dsimp only at this; omega
    refine hK g cap _ w9 rfl ⟨?_, fun y hy => ?_, fun y hy => ?_⟩ hgrow
    · rw [List.length_append, show lpCells (L ++ [⟨hd, pv, pl⟩]) = lpCells L ++ [.int .i64 (hd : Int), pv] by simp [lpCells]]
      exact hown9
    · rw [List.mem_append, List.mem_singleton] at hy
      rcases hy with hy | rfl
      · exact (hown.pts y hy).but hb (fun b e q => hown.ap y hy b e q)
      · exact hp.but hb (fun b e q => hap b e q)
    · rw [List.mem_append, List.mem_singleton] at hy
      rcases hy with hy | rfl
      · exact hgp y.v y.l (hown.pts y hy) (hown.ap y hy)
      · exact hgp pv pl hp hap
end Go.Proofs.Ytjjkabgbcflipaa
