import Derived.Test.YtjjkabgbcflipaaTz1
import Derived.Test.YtjjkabgbcflipaaCu18
set_option linter.unusedSimpArgs false
set_option linter.unusedVariables false
namespace Go.Proofs.Ytjjkabgbcflipaa
open Go Go.Proofs Go.RowKit GM

/-- A table of rows of Bools, whose blocks stand behind its own. -/
structure DmAt (W : World) (LB P : Nat) (f : Nat → Nat → Bool) : Prop where
  tab : ∀ k, k < P → W.cell? ⟨LB, k, none⟩ = some (.slice (some ⟨LB + 1 + k, 0, none⟩) P P)
  row : ∀ k, k < P → MkAt W (LB + 1 + k) P (f k)
  lt : LB < W.heap.size
theorem DmAt.but {S : Nat → Prop} {W W' : World} {LB P : Nat} {f : Nat → Nat → Bool} (h : DmAt W LB P f) (hb : But S W W') (hn : ∀ b, S b → LB + 1 + P ≤ b ∨ b < LB) : DmAt W' LB P f :=
  ⟨fun k hk => (hb.cell (p := ⟨LB, k, none⟩) h.lt (fun e => by have := hn _ e; dsimp only at this; omega)).trans (h.tab k hk), fun k hk => (h.row k hk).but hb (fun e => by have := hn _ e; omega), Nat.lt_of_lt_of_le h.lt hb.size⟩
theorem DmAt.below {W W' : World} {LB P : Nat} {f : Nat → Nat → Bool} (h : DmAt W LB P f) (hb : Below W.heap.size W W') : DmAt W' LB P f := h.but (S := fun _ => False) (But.of_below hb) (fun _ e => e.elim)
theorem DmAt.below' {W W' : World} {LB P n : Nat} {f : Nat → Nat → Bool} (h : DmAt W LB P f) (hb : Below n W W') (hn : LB + 1 + P ≤ n) : DmAt W' LB P f :=
  h.but (S := fun b => n ≤ b) ⟨hb.os, hb.tape, hb.output, hb.size, fun k hk hs => hb.block k (by omega)⟩ (fun b e => .inl (by omega))
theorem DmAt.congr {W : World} {LB P : Nat} {f g : Nat → Nat → Bool} (h : DmAt W LB P f) (e : ∀ p d, p < P → d < P → g p d = f p d) : DmAt W LB P g :=
  ⟨h.tab, fun k hk => (h.row k hk).congr (fun j hj => e k j hk hj), h.lt⟩
/-- One place of the table is written. -/
theorem DmAt.set {W : World} {LB P p d : Nat} {f g : Nat → Nat → Bool} {v : Bool} (h : DmAt W LB P f) (hp : p < P) (hd : d < P) (e : ∀ x y, x < P → y < P → g x y = if x = p ∧ y = d then v else f x y) : DmAt (W.setCell ⟨LB + 1 + p, d, none⟩ (.bool v)) LB P g := by
  have hb : But (fun b => b = LB + 1 + p) W (W.setCell ⟨LB + 1 + p, d, none⟩ (.bool v)) := (But.refl _ W).set _ _ (fun _ => rfl)
  refine ⟨fun k hk => (hb.cell (p := ⟨LB, k, none⟩) h.lt (fun e => by dsimp only at e; omega)).trans (h.tab k hk), fun k hk => ?_, Nat.lt_of_lt_of_le h.lt hb.size⟩
  by_cases e1 : k = p
  · subst e1
    exact (h.row k hk).setv hd (fun j hj => by rw [e k j hk hj]; by_cases e2 : j = d <;> simp [e2])
  · refine ((h.row k hk).but hb (fun q => by omega)).congr (fun j hj => ?_)
    rw [e k j hk hj, if_neg (fun q => e1 q.1)]
/-- The worlds in which the steps of a region run that ends with one store. -/
def StR (p : Addr) (v : Value) (ns N : Nat) (W0 : World) (listed : Array Bool) (w : World) : Prop :=
  (listed.getD ns false = false ∧ Below W0.heap.size W0 w) ∨ ((∀ j, j < N → listed.getD j false = true) ∧ ∃ w', Below W0.heap.size W0 w' ∧ w = w'.setCell p v)
theorem StR.live {p : Addr} {v : Value} {ns N i : Nat} {W0 w : World} {listed : Array Bool} (h : StR p v ns N W0 listed w) (hi : i < N) (hl : listed.getD i true = false) : Below W0.heap.size W0 w ∧ listed.getD ns false = false := by
  rcases h with ⟨h1, h2⟩ | ⟨h1, -⟩
  · exact ⟨h2, h1⟩
  · exact (no_both hl (h1 i hi)).elim
theorem StR.step {p : Addr} {v : Value} {ns N i : Nat} {W0 w : World} {listed : Array Bool} (h : StR p v ns N W0 listed w) (h1 : i ≠ ns) : StR p v ns N W0 (listed.setIfInBounds i true) w := by
  rcases h with ⟨h2, h3⟩ | ⟨h2, h3⟩
  · exact .inl ⟨by rw [getD_set_ne false h1]; exact h2, h3⟩
  · exact .inr ⟨fun j hj => lset_up (h2 j hj), h3⟩
theorem StR.last {p : Addr} {v : Value} {ns N : Nat} {W0 w : World} {listed : Array Bool} (h : StR p v ns N W0 listed w) (hn : listed.getD ns false = true) : ∃ w', Below W0.heap.size W0 w' ∧ w = w'.setCell p v := by
  rcases h with ⟨h2, -⟩ | ⟨-, h3⟩
  · rw [h2] at hn; cases hn
  · exact h3
def daAct (A0 L0 LB P p d : Nat) (q0 q1 q2 q3 q4 q7 q11 q12 q13 q14 q15 q16 q17 q18 q19 q20 q21 q22 q23 q24 q25 q26 q27 q28 q29 q30 q31 q32 q33 q34 q35 q36 q37 q38 q39 q40 q41 q42 q43 q44 q62 u45 u46 u47 u48 u49 u50 u51 u52 u53 u54 u55 u56 u57 u58 u59 u60 u61 : Value) : Act :=
  { tmps := #[q0, q1, q2, q3, q4, .slice (some ⟨A0, 0, none⟩) P P, .slice (some ⟨LB, 0, none⟩) P P, q7, .int .i64 (d : Int), .slice (some ⟨L0, 0, none⟩) P P, .int .i64 (p : Int), q11, q12, q13, q14, q15, q16, q17, q18, q19, q20, q21, q22, q23, q24, q25, q26, q27, q28, q29, q30, q31, q32, q33, q34, q35, q36, q37, q38, q39, q40, q41, q42, q43, q44, u45, u46, u47, u48, u49, u50, u51, u52, u53, u54, u55, u56, u57, u58, u59, u60, u61, q62], defers := [] }
def daI (A0 L0 LB P p d : Nat) (ra rl : Bool) (q0 q1 q2 q3 q4 q7 q11 q12 q13 q14 q15 q16 q17 q18 q19 q20 q21 q22 q23 q24 q25 q26 q27 q28 q29 q30 q31 q32 q33 q34 q35 q36 q37 q38 q39 q40 q41 q42 q43 q44 q62 : Value) (W0 : World) (listed : Array Bool) (a : Act) (w : World) : Prop :=
  ∃ u45 u46 u47 u48 u49 u50 u51 u52 u53 u54 u55 u56 u57 u58 u59 u60 u61, a = daAct A0 L0 LB P p d q0 q1 q2 q3 q4 q7 q11 q12 q13 q14 q15 q16 q17 q18 q19 q20 q21 q22 q23 q24 q25 q26 q27 q28 q29 q30 q31 q32 q33 q34 q35 q36 q37 q38 q39 q40 q41 q42 q43 q44 q62 u45 u46 u47 u48 u49 u50 u51 u52 u53 u54 u55 u56 u57 u58 u59 u60 u61 ∧ StR ⟨LB + 1 + p, d, none⟩ (.bool (ra && !rl)) 17 18 W0 listed w ∧
    (listed.getD 0 false = true → u45 = .slice (some ⟨LB, 0, none⟩) P P) ∧
    (listed.getD 1 false = true → u46 = .int .i64 (p : Int)) ∧
    (listed.getD 2 false = true → u47 = .pointer (some ⟨LB, p, none⟩)) ∧
    (listed.getD 3 false = true → u48 = .slice (some ⟨LB + 1 + p, 0, none⟩) P P) ∧
    (listed.getD 4 false = true → u49 = .int .i64 (d : Int)) ∧
    (listed.getD 5 false = true → u50 = .slice (some ⟨A0, 0, none⟩) P P) ∧
    (listed.getD 6 false = true → u51 = .int .i64 (p : Int)) ∧
    (listed.getD 7 false = true → u52 = .pointer (some ⟨A0, p, none⟩)) ∧
    (listed.getD 8 false = true → u53 = .bool ra) ∧
    (listed.getD 9 false = true → u54 = .bool ra) ∧
    (listed.getD 10 false = true → ra = true → u55 = .slice (some ⟨L0, 0, none⟩) P P) ∧
    (listed.getD 11 false = true → ra = true → u56 = .int .i64 (p : Int)) ∧
    (listed.getD 12 false = true → ra = true → u57 = .pointer (some ⟨L0, p, none⟩)) ∧
    (listed.getD 13 false = true → ra = true → u58 = .bool rl) ∧
    (listed.getD 14 false = true → ra = true → u59 = .bool (!rl)) ∧
    (listed.getD 15 false = true → u60 = .bool (ra && !rl)) ∧
    (listed.getD 16 false = true → u61 = .pointer (some ⟨LB + 1 + p, d, none⟩))
set_option maxRecDepth 20000 in
set_option maxHeartbeats 4000000 in
theorem da_region (A0 L0 LB P p d : Nat) (ra rl : Bool) (q0 q1 q2 q3 q4 q7 q11 q12 q13 q14 q15 q16 q17 q18 q19 q20 q21 q22 q23 q24 q25 q26 q27 q28 q29 q30 q31 q32 q33 q34 q35 q36 q37 q38 q39 q40 q41 q42 q43 q44 q62 : Value) (W0 : World) (i45 i46 i47 i48 i49 i50 i51 i52 i53 i54 i55 i56 i57 i58 i59 i60 i61 : Value) (hp : p < P) (hdP : d < P) (hP : P ≤ 1000) (hA : A0 < W0.heap.size) (hL : L0 < W0.heap.size) (hLB : LB < W0.heap.size) (hR : LB + 1 + p < W0.heap.size) (ha : W0.cell? ⟨A0, p, none⟩ = some (.bool ra)) (hl0 : W0.cell? ⟨L0, p, none⟩ = some (.bool rl)) (ht : W0.cell? ⟨LB, p, none⟩ = some (.slice (some ⟨LB + 1 + p, 0, none⟩) P P)) {z : Value} (hz : W0.cell? ⟨LB + 1 + p, d, none⟩ = some z) (hzf : W0.frozen? ⟨LB + 1 + p, d, none⟩ = false) {Q : Exit → Act → World → Prop}
    (hQ : ∀ u45 u46 u47 u48 u49 u50 u51 u52 u53 u54 u55 u56 u57 u58 u59 u60 u61 w, (∃ w', Below W0.heap.size W0 w' ∧ w = w'.setCell ⟨LB + 1 + p, d, none⟩ (.bool (ra && !rl))) → (u45 = .slice (some ⟨LB, 0, none⟩) P P) → (u46 = .int .i64 (p : Int)) → (u47 = .pointer (some ⟨LB, p, none⟩)) → (u48 = .slice (some ⟨LB + 1 + p, 0, none⟩) P P) → (u49 = .int .i64 (d : Int)) → (u50 = .slice (some ⟨A0, 0, none⟩) P P) → (u51 = .int .i64 (p : Int)) → (u52 = .pointer (some ⟨A0, p, none⟩)) → (u53 = .bool ra) → (u54 = .bool ra) → (ra = true → u55 = .slice (some ⟨L0, 0, none⟩) P P) → (ra = true → u56 = .int .i64 (p : Int)) → (ra = true → u57 = .pointer (some ⟨L0, p, none⟩)) → (ra = true → u58 = .bool rl) → (ra = true → u59 = .bool (!rl)) → (u60 = .bool (ra && !rl)) → (u61 = .pointer (some ⟨LB + 1 + p, d, none⟩)) → Q .normal (daAct A0 L0 LB P p d q0 q1 q2 q3 q4 q7 q11 q12 q13 q14 q15 q16 q17 q18 q19 q20 q21 q22 q23 q24 q25 q26 q27 q28 q29 q30 q31 q32 q33 q34 q35 q36 q37 q38 q39 q40 q41 q42 q43 q44 q62 u45 u46 u47 u48 u49 u50 u51 u52 u53 u54 u55 u56 u57 u58 u59 u60 u61) w) :
    (Code.region 14 #[{ dst := some 45, op := Op.move (Operand.tmp 6), type := 116, pos := "ref.go:151", after := #[], guard := none }, { dst := some 46, op := Op.move (Operand.tmp 10), type := 3, pos := "ref.go:151", after := #[], guard := none }, { dst := some 47, op := Op.indexAddr 116 (Operand.tmp 45) (Operand.tmp 46), type := 0, pos := "ref.go:151", after := #[{ on := 0, ground := Ground.data }, { on := 1, ground := Ground.data }], guard := none }, { dst := some 48, op := Op.load 33 (Operand.tmp 47), type := 33, pos := "ref.go:151", after := #[{ on := 2, ground := Ground.data }], guard := none }, { dst := some 49, op := Op.move (Operand.tmp 8), type := 3, pos := "ref.go:151", after := #[], guard := none }, { dst := some 50, op := Op.move (Operand.tmp 5), type := 33, pos := "ref.go:151", after := #[], guard := none }, { dst := some 51, op := Op.move (Operand.tmp 10), type := 3, pos := "ref.go:151", after := #[], guard := none }, { dst := some 52, op := Op.indexAddr 33 (Operand.tmp 50) (Operand.tmp 51), type := 0, pos := "ref.go:151", after := #[{ on := 5, ground := Ground.data }, { on := 6, ground := Ground.data }], guard := none }, { dst := some 53, op := Op.load 4 (Operand.tmp 52), type := 4, pos := "ref.go:151", after := #[{ on := 7, ground := Ground.data }], guard := none }, { dst := some 54, op := Op.move (Operand.tmp 53), type := 4, pos := "ref.go:151", after := #[{ on := 8, ground := Ground.data }], guard := none }, { dst := some 55, op := Op.move (Operand.tmp 9), type := 33, pos := "ref.go:151", after := #[{ on := 9, ground := Ground.guard }], guard := some (9, true) }, { dst := some 56, op := Op.move (Operand.tmp 10), type := 3, pos := "ref.go:151", after := #[{ on := 9, ground := Ground.guard }], guard := some (9, true) }, { dst := some 57, op := Op.indexAddr 33 (Operand.tmp 55) (Operand.tmp 56), type := 0, pos := "ref.go:151", after := #[{ on := 10, ground := Ground.data }, { on := 11, ground := Ground.data }, { on := 9, ground := Ground.guard }], guard := some (9, true) }, { dst := some 58, op := Op.load 4 (Operand.tmp 57), type := 4, pos := "ref.go:151", after := #[{ on := 12, ground := Ground.data }, { on := 9, ground := Ground.guard }], guard := some (9, true) }, { dst := some 59, op := Op.unOp UnOp.not 4 (Operand.tmp 58), type := 4, pos := "ref.go:151", after := #[{ on := 13, ground := Ground.data }, { on := 9, ground := Ground.guard }], guard := some (9, true) }, { dst := some 60, op := Op.pick (Operand.tmp 54) (Operand.tmp 59) (Operand.const (Value.bool false)), type := 4, pos := "ref.go:151", after := #[{ on := 9, ground := Ground.data }, { on := 14, ground := Ground.data }], guard := none }, { dst := some 61, op := Op.indexAddr 33 (Operand.tmp 48) (Operand.tmp 49), type := 0, pos := "ref.go:151", after := #[{ on := 3, ground := Ground.data }, { on := 4, ground := Ground.data }, { on := 0, ground := Ground.phase }, { on := 1, ground := Ground.phase }, { on := 2, ground := Ground.phase }, { on := 3, ground := Ground.phase }, { on := 4, ground := Ground.phase }, { on := 5, ground := Ground.phase }, { on := 6, ground := Ground.phase }, { on := 7, ground := Ground.phase }, { on := 8, ground := Ground.phase }, { on := 9, ground := Ground.phase }, { on := 10, ground := Ground.phase }, { on := 11, ground := Ground.phase }, { on := 12, ground := Ground.phase }, { on := 13, ground := Ground.phase }, { on := 14, ground := Ground.phase }, { on := 15, ground := Ground.phase }], guard := none }, { dst := none, op := Op.store 4 (Operand.tmp 61) (Operand.tmp 60), type := 0, pos := "ref.go:151", after := #[{ on := 16, ground := Ground.data }, { on := 15, ground := Ground.data }, { on := 9, ground := Ground.chain }, { on := 0, ground := Ground.phase }, { on := 1, ground := Ground.phase }, { on := 2, ground := Ground.phase }, { on := 3, ground := Ground.phase }, { on := 4, ground := Ground.phase }, { on := 5, ground := Ground.phase }, { on := 6, ground := Ground.phase }, { on := 7, ground := Ground.phase }, { on := 8, ground := Ground.phase }, { on := 9, ground := Ground.phase }, { on := 10, ground := Ground.phase }, { on := 11, ground := Ground.phase }, { on := 12, ground := Ground.phase }, { on := 13, ground := Ground.phase }, { on := 14, ground := Ground.phase }, { on := 15, ground := Ground.phase }], guard := none }] true).wp Try.prog Q (daAct A0 L0 LB P p d q0 q1 q2 q3 q4 q7 q11 q12 q13 q14 q15 q16 q17 q18 q19 q20 q21 q22 q23 q24 q25 q26 q27 q28 q29 q30 q31 q32 q33 q34 q35 q36 q37 q38 q39 q40 q41 q42 q43 q44 q62 (i45) (i46) (i47) (i48) (i49) (i50) (i51) (i52) (i53) (i54) (i55) (i56) (i57) (i58) (i59) (i60) (i61)) W0 := by
  refine wp_region_inv (by kernel_rfl) (by kernel_rfl) (daI A0 L0 LB P p d ra rl q0 q1 q2 q3 q4 q7 q11 q12 q13 q14 q15 q16 q17 q18 q19 q20 q21 q22 q23 q24 q25 q26 q27 q28 q29 q30 q31 q32 q33 q34 q35 q36 q37 q38 q39 q40 q41 q42 q43 q44 q62 W0) ?_ ?_ ?_
  · refine ⟨_, _, _, _, _, _, _, _, _, _, _, _, _, _, _, _, _, rfl, .inl ⟨rfl, (Below.refl _ _).drew⟩, ?_, ?_, ?_, ?_, ?_, ?_, ?_, ?_, ?_, ?_, ?_, ?_, ?_, ?_, ?_, ?_, ?_⟩ <;> (intro e; simp at e)
  · intro listed a w i o hI hs ho hl hd
    have hi9 : i < 18 := (Array.getElem?_eq_some_iff.1 ho).1
    obtain ⟨u45, u46, u47, u48, u49, u50, u51, u52, u53, u54, u55, u56, u57, u58, u59, u60, u61, rfl, hB, h0, h1, h2, h3, h4, h5, h6, h7, h8, h9, h10, h11, h12, h13, h14, h15, h16⟩ := hI
    rcases (show i = 0 ∨ i = 1 ∨ i = 2 ∨ i = 3 ∨ i = 4 ∨ i = 5 ∨ i = 6 ∨ i = 7 ∨ i = 8 ∨ i = 9 ∨ i = 10 ∨ i = 11 ∨ i = 12 ∨ i = 13 ∨ i = 14 ∨ i = 15 ∨ i = 16 ∨ i = 17 by omega) with rfl | rfl | rfl | rfl | rfl | rfl | rfl | rfl | rfl | rfl | rfl | rfl | rfl | rfl | rfl | rfl | rfl | rfl
    · have ho' : some _ = some o := ho
      cases ho'
      obtain ⟨hb1, hst⟩ := hB.live hi9 hl
      have hB2 := hB.step (i := 0) (by decide)
      unfold daAct; go_simp
      exact ⟨.slice (some ⟨LB, 0, none⟩) P P, u46, u47, u48, u49, u50, u51, u52, u53, u54, u55, u56, u57, u58, u59, u60, u61, rfl, hB2, fun _ => rfl, fun e1 => h1 (lset_ne (by decide) e1), fun e2 => h2 (lset_ne (by decide) e2), fun e3 => h3 (lset_ne (by decide) e3), fun e4 => h4 (lset_ne (by decide) e4), fun e5 => h5 (lset_ne (by decide) e5), fun e6 => h6 (lset_ne (by decide) e6), fun e7 => h7 (lset_ne (by decide) e7), fun e8 => h8 (lset_ne (by decide) e8), fun e9 => h9 (lset_ne (by decide) e9), fun e10 => h10 (lset_ne (by decide) e10), fun e11 => h11 (lset_ne (by decide) e11), fun e12 => h12 (lset_ne (by decide) e12), fun e13 => h13 (lset_ne (by decide) e13), fun e14 => h14 (lset_ne (by decide) e14), fun e15 => h15 (lset_ne (by decide) e15), fun e16 => h16 (lset_ne (by decide) e16)⟩
    · have ho' : some _ = some o := ho
      cases ho'
      obtain ⟨hb1, hst⟩ := hB.live hi9 hl
      have hB2 := hB.step (i := 1) (by decide)
      unfold daAct; go_simp
      exact ⟨u45, .int .i64 (p : Int), u47, u48, u49, u50, u51, u52, u53, u54, u55, u56, u57, u58, u59, u60, u61, rfl, hB2, fun e0 => h0 (lset_ne (by decide) e0), fun _ => rfl, fun e2 => h2 (lset_ne (by decide) e2), fun e3 => h3 (lset_ne (by decide) e3), fun e4 => h4 (lset_ne (by decide) e4), fun e5 => h5 (lset_ne (by decide) e5), fun e6 => h6 (lset_ne (by decide) e6), fun e7 => h7 (lset_ne (by decide) e7), fun e8 => h8 (lset_ne (by decide) e8), fun e9 => h9 (lset_ne (by decide) e9), fun e10 => h10 (lset_ne (by decide) e10), fun e11 => h11 (lset_ne (by decide) e11), fun e12 => h12 (lset_ne (by decide) e12), fun e13 => h13 (lset_ne (by decide) e13), fun e14 => h14 (lset_ne (by decide) e14), fun e15 => h15 (lset_ne (by decide) e15), fun e16 => h16 (lset_ne (by decide) e16)⟩
    · have ho' : some _ = some o := ho
      cases ho'
      have d0 := hd { on := 0, ground := .data } (by simp) rfl
      have d1 := hd { on := 1, ground := .data } (by simp) rfl
      obtain ⟨hb1, hst⟩ := hB.live hi9 hl
      have p0 : (0 : Int) ≤ (p : Int) := by omega
      have p1 : (p : Int) < (P : Int) := by omega
      have e0 := h0 d0
      subst e0
      have e1 := h1 d1
      subst e1
      have hB2 := hB.step (i := 2) (by decide)
      unfold daAct; go_simp
      exact ⟨.slice (some ⟨LB, 0, none⟩) P P, .int .i64 (p : Int), .pointer (some ⟨LB, p, none⟩), u48, u49, u50, u51, u52, u53, u54, u55, u56, u57, u58, u59, u60, u61, rfl, hB2, fun e0 => h0 (lset_ne (by decide) e0), fun e1 => h1 (lset_ne (by decide) e1), fun _ => rfl, fun e3 => h3 (lset_ne (by decide) e3), fun e4 => h4 (lset_ne (by decide) e4), fun e5 => h5 (lset_ne (by decide) e5), fun e6 => h6 (lset_ne (by decide) e6), fun e7 => h7 (lset_ne (by decide) e7), fun e8 => h8 (lset_ne (by decide) e8), fun e9 => h9 (lset_ne (by decide) e9), fun e10 => h10 (lset_ne (by decide) e10), fun e11 => h11 (lset_ne (by decide) e11), fun e12 => h12 (lset_ne (by decide) e12), fun e13 => h13 (lset_ne (by decide) e13), fun e14 => h14 (lset_ne (by decide) e14), fun e15 => h15 (lset_ne (by decide) e15), fun e16 => h16 (lset_ne (by decide) e16)⟩
    · have ho' : some _ = some o := ho
      cases ho'
      have d2 := hd { on := 2, ground := .data } (by simp) rfl
      obtain ⟨hb1, hst⟩ := hB.live hi9 hl
      have c0 := (hb1.cell (p := ⟨LB, p, none⟩) hLB).trans ht
      have e2 := h2 d2
      subst e2
      have hB2 := hB.step (i := 3) (by decide)
      unfold daAct; go_simp
      exact ⟨u45, u46, .pointer (some ⟨LB, p, none⟩), .slice (some ⟨LB + 1 + p, 0, none⟩) P P, u49, u50, u51, u52, u53, u54, u55, u56, u57, u58, u59, u60, u61, rfl, hB2, fun e0 => h0 (lset_ne (by decide) e0), fun e1 => h1 (lset_ne (by decide) e1), fun e2 => h2 (lset_ne (by decide) e2), fun _ => rfl, fun e4 => h4 (lset_ne (by decide) e4), fun e5 => h5 (lset_ne (by decide) e5), fun e6 => h6 (lset_ne (by decide) e6), fun e7 => h7 (lset_ne (by decide) e7), fun e8 => h8 (lset_ne (by decide) e8), fun e9 => h9 (lset_ne (by decide) e9), fun e10 => h10 (lset_ne (by decide) e10), fun e11 => h11 (lset_ne (by decide) e11), fun e12 => h12 (lset_ne (by decide) e12), fun e13 => h13 (lset_ne (by decide) e13), fun e14 => h14 (lset_ne (by decide) e14), fun e15 => h15 (lset_ne (by decide) e15), fun e16 => h16 (lset_ne (by decide) e16)⟩
    · have ho' : some _ = some o := ho
      cases ho'
      obtain ⟨hb1, hst⟩ := hB.live hi9 hl
      have hB2 := hB.step (i := 4) (by decide)
      unfold daAct; go_simp
      exact ⟨u45, u46, u47, u48, .int .i64 (d : Int), u50, u51, u52, u53, u54, u55, u56, u57, u58, u59, u60, u61, rfl, hB2, fun e0 => h0 (lset_ne (by decide) e0), fun e1 => h1 (lset_ne (by decide) e1), fun e2 => h2 (lset_ne (by decide) e2), fun e3 => h3 (lset_ne (by decide) e3), fun _ => rfl, fun e5 => h5 (lset_ne (by decide) e5), fun e6 => h6 (lset_ne (by decide) e6), fun e7 => h7 (lset_ne (by decide) e7), fun e8 => h8 (lset_ne (by decide) e8), fun e9 => h9 (lset_ne (by decide) e9), fun e10 => h10 (lset_ne (by decide) e10), fun e11 => h11 (lset_ne (by decide) e11), fun e12 => h12 (lset_ne (by decide) e12), fun e13 => h13 (lset_ne (by decide) e13), fun e14 => h14 (lset_ne (by decide) e14), fun e15 => h15 (lset_ne (by decide) e15), fun e16 => h16 (lset_ne (by decide) e16)⟩
    · have ho' : some _ = some o := ho
      cases ho'
      obtain ⟨hb1, hst⟩ := hB.live hi9 hl
      have hB2 := hB.step (i := 5) (by decide)
      unfold daAct; go_simp
      exact ⟨u45, u46, u47, u48, u49, .slice (some ⟨A0, 0, none⟩) P P, u51, u52, u53, u54, u55, u56, u57, u58, u59, u60, u61, rfl, hB2, fun e0 => h0 (lset_ne (by decide) e0), fun e1 => h1 (lset_ne (by decide) e1), fun e2 => h2 (lset_ne (by decide) e2), fun e3 => h3 (lset_ne (by decide) e3), fun e4 => h4 (lset_ne (by decide) e4), fun _ => rfl, fun e6 => h6 (lset_ne (by decide) e6), fun e7 => h7 (lset_ne (by decide) e7), fun e8 => h8 (lset_ne (by decide) e8), fun e9 => h9 (lset_ne (by decide) e9), fun e10 => h10 (lset_ne (by decide) e10), fun e11 => h11 (lset_ne (by decide) e11), fun e12 => h12 (lset_ne (by decide) e12), fun e13 => h13 (lset_ne (by decide) e13), fun e14 => h14 (lset_ne (by decide) e14), fun e15 => h15 (lset_ne (by decide) e15), fun e16 => h16 (lset_ne (by decide) e16)⟩
    · have ho' : some _ = some o := ho
      cases ho'
      obtain ⟨hb1, hst⟩ := hB.live hi9 hl
      have hB2 := hB.step (i := 6) (by decide)
      unfold daAct; go_simp
      exact ⟨u45, u46, u47, u48, u49, u50, .int .i64 (p : Int), u52, u53, u54, u55, u56, u57, u58, u59, u60, u61, rfl, hB2, fun e0 => h0 (lset_ne (by decide) e0), fun e1 => h1 (lset_ne (by decide) e1), fun e2 => h2 (lset_ne (by decide) e2), fun e3 => h3 (lset_ne (by decide) e3), fun e4 => h4 (lset_ne (by decide) e4), fun e5 => h5 (lset_ne (by decide) e5), fun _ => rfl, fun e7 => h7 (lset_ne (by decide) e7), fun e8 => h8 (lset_ne (by decide) e8), fun e9 => h9 (lset_ne (by decide) e9), fun e10 => h10 (lset_ne (by decide) e10), fun e11 => h11 (lset_ne (by decide) e11), fun e12 => h12 (lset_ne (by decide) e12), fun e13 => h13 (lset_ne (by decide) e13), fun e14 => h14 (lset_ne (by decide) e14), fun e15 => h15 (lset_ne (by decide) e15), fun e16 => h16 (lset_ne (by decide) e16)⟩
    · have ho' : some _ = some o := ho
      cases ho'
      have d5 := hd { on := 5, ground := .data } (by simp) rfl
      have d6 := hd { on := 6, ground := .data } (by simp) rfl
      obtain ⟨hb1, hst⟩ := hB.live hi9 hl
      have p0 : (0 : Int) ≤ (p : Int) := by omega
      have p1 : (p : Int) < (P : Int) := by omega
      have e5 := h5 d5
      subst e5
      have e6 := h6 d6
      subst e6
      have hB2 := hB.step (i := 7) (by decide)
      unfold daAct; go_simp
      exact ⟨u45, u46, u47, u48, u49, .slice (some ⟨A0, 0, none⟩) P P, .int .i64 (p : Int), .pointer (some ⟨A0, p, none⟩), u53, u54, u55, u56, u57, u58, u59, u60, u61, rfl, hB2, fun e0 => h0 (lset_ne (by decide) e0), fun e1 => h1 (lset_ne (by decide) e1), fun e2 => h2 (lset_ne (by decide) e2), fun e3 => h3 (lset_ne (by decide) e3), fun e4 => h4 (lset_ne (by decide) e4), fun e5 => h5 (lset_ne (by decide) e5), fun e6 => h6 (lset_ne (by decide) e6), fun _ => rfl, fun e8 => h8 (lset_ne (by decide) e8), fun e9 => h9 (lset_ne (by decide) e9), fun e10 => h10 (lset_ne (by decide) e10), fun e11 => h11 (lset_ne (by decide) e11), fun e12 => h12 (lset_ne (by decide) e12), fun e13 => h13 (lset_ne (by decide) e13), fun e14 => h14 (lset_ne (by decide) e14), fun e15 => h15 (lset_ne (by decide) e15), fun e16 => h16 (lset_ne (by decide) e16)⟩
    · have ho' : some _ = some o := ho
      cases ho'
      have d7 := hd { on := 7, ground := .data } (by simp) rfl
      obtain ⟨hb1, hst⟩ := hB.live hi9 hl
      have c0 := (hb1.cell (p := ⟨A0, p, none⟩) hA).trans ha
      have e7 := h7 d7
      subst e7
      have hB2 := hB.step (i := 8) (by decide)
      unfold daAct; go_simp
      exact ⟨u45, u46, u47, u48, u49, u50, u51, .pointer (some ⟨A0, p, none⟩), .bool ra, u54, u55, u56, u57, u58, u59, u60, u61, rfl, hB2, fun e0 => h0 (lset_ne (by decide) e0), fun e1 => h1 (lset_ne (by decide) e1), fun e2 => h2 (lset_ne (by decide) e2), fun e3 => h3 (lset_ne (by decide) e3), fun e4 => h4 (lset_ne (by decide) e4), fun e5 => h5 (lset_ne (by decide) e5), fun e6 => h6 (lset_ne (by decide) e6), fun e7 => h7 (lset_ne (by decide) e7), fun _ => rfl, fun e9 => h9 (lset_ne (by decide) e9), fun e10 => h10 (lset_ne (by decide) e10), fun e11 => h11 (lset_ne (by decide) e11), fun e12 => h12 (lset_ne (by decide) e12), fun e13 => h13 (lset_ne (by decide) e13), fun e14 => h14 (lset_ne (by decide) e14), fun e15 => h15 (lset_ne (by decide) e15), fun e16 => h16 (lset_ne (by decide) e16)⟩
    · have ho' : some _ = some o := ho
      cases ho'
      have d8 := hd { on := 8, ground := .data } (by simp) rfl
      obtain ⟨hb1, hst⟩ := hB.live hi9 hl
      have e8 := h8 d8
      subst e8
      have hB2 := hB.step (i := 9) (by decide)
      unfold daAct; go_simp
      exact ⟨u45, u46, u47, u48, u49, u50, u51, u52, .bool ra, .bool ra, u55, u56, u57, u58, u59, u60, u61, rfl, hB2, fun e0 => h0 (lset_ne (by decide) e0), fun e1 => h1 (lset_ne (by decide) e1), fun e2 => h2 (lset_ne (by decide) e2), fun e3 => h3 (lset_ne (by decide) e3), fun e4 => h4 (lset_ne (by decide) e4), fun e5 => h5 (lset_ne (by decide) e5), fun e6 => h6 (lset_ne (by decide) e6), fun e7 => h7 (lset_ne (by decide) e7), fun e8 => h8 (lset_ne (by decide) e8), fun _ => rfl, fun e10 => h10 (lset_ne (by decide) e10), fun e11 => h11 (lset_ne (by decide) e11), fun e12 => h12 (lset_ne (by decide) e12), fun e13 => h13 (lset_ne (by decide) e13), fun e14 => h14 (lset_ne (by decide) e14), fun e15 => h15 (lset_ne (by decide) e15), fun e16 => h16 (lset_ne (by decide) e16)⟩
    · have ho' : some _ = some o := ho
      cases ho'
      have d9 := hd { on := 9, ground := .guard } (by simp) rfl
      obtain ⟨hb1, hst⟩ := hB.live hi9 hl
      have eg := h9 d9
      subst eg
      cases ra with
      | false =>
        have hB2 := hB.step (i := 10) (by decide)
        unfold daAct; go_simp
        exact ⟨u45, u46, u47, u48, u49, u50, u51, u52, u53, .bool false, undef, u56, u57, u58, u59, u60, u61, rfl, hB2, fun e0 => h0 (lset_ne (by decide) e0), fun e1 => h1 (lset_ne (by decide) e1), fun e2 => h2 (lset_ne (by decide) e2), fun e3 => h3 (lset_ne (by decide) e3), fun e4 => h4 (lset_ne (by decide) e4), fun e5 => h5 (lset_ne (by decide) e5), fun e6 => h6 (lset_ne (by decide) e6), fun e7 => h7 (lset_ne (by decide) e7), fun e8 => h8 (lset_ne (by decide) e8), fun e9 => h9 (lset_ne (by decide) e9), fun _ e => (by cases e), fun e11 => h11 (lset_ne (by decide) e11), fun e12 => h12 (lset_ne (by decide) e12), fun e13 => h13 (lset_ne (by decide) e13), fun e14 => h14 (lset_ne (by decide) e14), fun e15 => h15 (lset_ne (by decide) e15), fun e16 => h16 (lset_ne (by decide) e16)⟩
      | true =>
        have hB2 := hB.step (i := 10) (by decide)
        unfold daAct; go_simp
        exact ⟨u45, u46, u47, u48, u49, u50, u51, u52, u53, .bool true, .slice (some ⟨L0, 0, none⟩) P P, u56, u57, u58, u59, u60, u61, rfl, hB2, fun e0 => h0 (lset_ne (by decide) e0), fun e1 => h1 (lset_ne (by decide) e1), fun e2 => h2 (lset_ne (by decide) e2), fun e3 => h3 (lset_ne (by decide) e3), fun e4 => h4 (lset_ne (by decide) e4), fun e5 => h5 (lset_ne (by decide) e5), fun e6 => h6 (lset_ne (by decide) e6), fun e7 => h7 (lset_ne (by decide) e7), fun e8 => h8 (lset_ne (by decide) e8), fun e9 => h9 (lset_ne (by decide) e9), fun _ _ => rfl, fun e11 => h11 (lset_ne (by decide) e11), fun e12 => h12 (lset_ne (by decide) e12), fun e13 => h13 (lset_ne (by decide) e13), fun e14 => h14 (lset_ne (by decide) e14), fun e15 => h15 (lset_ne (by decide) e15), fun e16 => h16 (lset_ne (by decide) e16)⟩
    · have ho' : some _ = some o := ho
      cases ho'
      have d9 := hd { on := 9, ground := .guard } (by simp) rfl
      obtain ⟨hb1, hst⟩ := hB.live hi9 hl
      have eg := h9 d9
      subst eg
      cases ra with
      | false =>
        have hB2 := hB.step (i := 11) (by decide)
        unfold daAct; go_simp
        exact ⟨u45, u46, u47, u48, u49, u50, u51, u52, u53, .bool false, u55, undef, u57, u58, u59, u60, u61, rfl, hB2, fun e0 => h0 (lset_ne (by decide) e0), fun e1 => h1 (lset_ne (by decide) e1), fun e2 => h2 (lset_ne (by decide) e2), fun e3 => h3 (lset_ne (by decide) e3), fun e4 => h4 (lset_ne (by decide) e4), fun e5 => h5 (lset_ne (by decide) e5), fun e6 => h6 (lset_ne (by decide) e6), fun e7 => h7 (lset_ne (by decide) e7), fun e8 => h8 (lset_ne (by decide) e8), fun e9 => h9 (lset_ne (by decide) e9), fun e10 => h10 (lset_ne (by decide) e10), fun _ e => (by cases e), fun e12 => h12 (lset_ne (by decide) e12), fun e13 => h13 (lset_ne (by decide) e13), fun e14 => h14 (lset_ne (by decide) e14), fun e15 => h15 (lset_ne (by decide) e15), fun e16 => h16 (lset_ne (by decide) e16)⟩
      | true =>
        have hB2 := hB.step (i := 11) (by decide)
        unfold daAct; go_simp
        exact ⟨u45, u46, u47, u48, u49, u50, u51, u52, u53, .bool true, u55, .int .i64 (p : Int), u57, u58, u59, u60, u61, rfl, hB2, fun e0 => h0 (lset_ne (by decide) e0), fun e1 => h1 (lset_ne (by decide) e1), fun e2 => h2 (lset_ne (by decide) e2), fun e3 => h3 (lset_ne (by decide) e3), fun e4 => h4 (lset_ne (by decide) e4), fun e5 => h5 (lset_ne (by decide) e5), fun e6 => h6 (lset_ne (by decide) e6), fun e7 => h7 (lset_ne (by decide) e7), fun e8 => h8 (lset_ne (by decide) e8), fun e9 => h9 (lset_ne (by decide) e9), fun e10 => h10 (lset_ne (by decide) e10), fun _ _ => rfl, fun e12 => h12 (lset_ne (by decide) e12), fun e13 => h13 (lset_ne (by decide) e13), fun e14 => h14 (lset_ne (by decide) e14), fun e15 => h15 (lset_ne (by decide) e15), fun e16 => h16 (lset_ne (by decide) e16)⟩
    · have ho' : some _ = some o := ho
      cases ho'
      have d10 := hd { on := 10, ground := .data } (by simp) rfl
      have d11 := hd { on := 11, ground := .data } (by simp) rfl
      have d9 := hd { on := 9, ground := .guard } (by simp) rfl
      obtain ⟨hb1, hst⟩ := hB.live hi9 hl
      have p0 : (0 : Int) ≤ (p : Int) := by omega
      have p1 : (p : Int) < (P : Int) := by omega
      have eg := h9 d9
      subst eg
      cases ra with
      | false =>
        have hB2 := hB.step (i := 12) (by decide)
        unfold daAct; go_simp
        exact ⟨u45, u46, u47, u48, u49, u50, u51, u52, u53, .bool false, u55, u56, undef, u58, u59, u60, u61, rfl, hB2, fun e0 => h0 (lset_ne (by decide) e0), fun e1 => h1 (lset_ne (by decide) e1), fun e2 => h2 (lset_ne (by decide) e2), fun e3 => h3 (lset_ne (by decide) e3), fun e4 => h4 (lset_ne (by decide) e4), fun e5 => h5 (lset_ne (by decide) e5), fun e6 => h6 (lset_ne (by decide) e6), fun e7 => h7 (lset_ne (by decide) e7), fun e8 => h8 (lset_ne (by decide) e8), fun e9 => h9 (lset_ne (by decide) e9), fun e10 => h10 (lset_ne (by decide) e10), fun e11 => h11 (lset_ne (by decide) e11), fun _ e => (by cases e), fun e13 => h13 (lset_ne (by decide) e13), fun e14 => h14 (lset_ne (by decide) e14), fun e15 => h15 (lset_ne (by decide) e15), fun e16 => h16 (lset_ne (by decide) e16)⟩
      | true =>
        have e10 := h10 d10 rfl
        subst e10
        have e11 := h11 d11 rfl
        subst e11
        have hB2 := hB.step (i := 12) (by decide)
        unfold daAct; go_simp
        exact ⟨u45, u46, u47, u48, u49, u50, u51, u52, u53, .bool true, .slice (some ⟨L0, 0, none⟩) P P, .int .i64 (p : Int), .pointer (some ⟨L0, p, none⟩), u58, u59, u60, u61, rfl, hB2, fun e0 => h0 (lset_ne (by decide) e0), fun e1 => h1 (lset_ne (by decide) e1), fun e2 => h2 (lset_ne (by decide) e2), fun e3 => h3 (lset_ne (by decide) e3), fun e4 => h4 (lset_ne (by decide) e4), fun e5 => h5 (lset_ne (by decide) e5), fun e6 => h6 (lset_ne (by decide) e6), fun e7 => h7 (lset_ne (by decide) e7), fun e8 => h8 (lset_ne (by decide) e8), fun e9 => h9 (lset_ne (by decide) e9), fun e10 => h10 (lset_ne (by decide) e10), fun e11 => h11 (lset_ne (by decide) e11), fun _ _ => rfl, fun e13 => h13 (lset_ne (by decide) e13), fun e14 => h14 (lset_ne (by decide) e14), fun e15 => h15 (lset_ne (by decide) e15), fun e16 => h16 (lset_ne (by decide) e16)⟩
    · have ho' : some _ = some o := ho
      cases ho'
      have d12 := hd { on := 12, ground := .data } (by simp) rfl
      have d9 := hd { on := 9, ground := .guard } (by simp) rfl
      obtain ⟨hb1, hst⟩ := hB.live hi9 hl
      have c0 := (hb1.cell (p := ⟨L0, p, none⟩) hL).trans hl0
      have eg := h9 d9
      subst eg
      cases ra with
      | false =>
        have hB2 := hB.step (i := 13) (by decide)
        unfold daAct; go_simp
        exact ⟨u45, u46, u47, u48, u49, u50, u51, u52, u53, .bool false, u55, u56, u57, undef, u59, u60, u61, rfl, hB2, fun e0 => h0 (lset_ne (by decide) e0), fun e1 => h1 (lset_ne (by decide) e1), fun e2 => h2 (lset_ne (by decide) e2), fun e3 => h3 (lset_ne (by decide) e3), fun e4 => h4 (lset_ne (by decide) e4), fun e5 => h5 (lset_ne (by decide) e5), fun e6 => h6 (lset_ne (by decide) e6), fun e7 => h7 (lset_ne (by decide) e7), fun e8 => h8 (lset_ne (by decide) e8), fun e9 => h9 (lset_ne (by decide) e9), fun e10 => h10 (lset_ne (by decide) e10), fun e11 => h11 (lset_ne (by decide) e11), fun e12 => h12 (lset_ne (by decide) e12), fun _ e => (by cases e), fun e14 => h14 (lset_ne (by decide) e14), fun e15 => h15 (lset_ne (by decide) e15), fun e16 => h16 (lset_ne (by decide) e16)⟩
      | true =>
        have e12 := h12 d12 rfl
        subst e12
        have hB2 := hB.step (i := 13) (by decide)
        unfold daAct; go_simp
        exact ⟨u45, u46, u47, u48, u49, u50, u51, u52, u53, .bool true, u55, u56, .pointer (some ⟨L0, p, none⟩), .bool rl, u59, u60, u61, rfl, hB2, fun e0 => h0 (lset_ne (by decide) e0), fun e1 => h1 (lset_ne (by decide) e1), fun e2 => h2 (lset_ne (by decide) e2), fun e3 => h3 (lset_ne (by decide) e3), fun e4 => h4 (lset_ne (by decide) e4), fun e5 => h5 (lset_ne (by decide) e5), fun e6 => h6 (lset_ne (by decide) e6), fun e7 => h7 (lset_ne (by decide) e7), fun e8 => h8 (lset_ne (by decide) e8), fun e9 => h9 (lset_ne (by decide) e9), fun e10 => h10 (lset_ne (by decide) e10), fun e11 => h11 (lset_ne (by decide) e11), fun e12 => h12 (lset_ne (by decide) e12), fun _ _ => rfl, fun e14 => h14 (lset_ne (by decide) e14), fun e15 => h15 (lset_ne (by decide) e15), fun e16 => h16 (lset_ne (by decide) e16)⟩
    · have ho' : some _ = some o := ho
      cases ho'
      have d13 := hd { on := 13, ground := .data } (by simp) rfl
      have d9 := hd { on := 9, ground := .guard } (by simp) rfl
      obtain ⟨hb1, hst⟩ := hB.live hi9 hl
      have eg := h9 d9
      subst eg
      cases ra with
      | false =>
        have hB2 := hB.step (i := 14) (by decide)
        unfold daAct; go_simp
        exact ⟨u45, u46, u47, u48, u49, u50, u51, u52, u53, .bool false, u55, u56, u57, u58, undef, u60, u61, rfl, hB2, fun e0 => h0 (lset_ne (by decide) e0), fun e1 => h1 (lset_ne (by decide) e1), fun e2 => h2 (lset_ne (by decide) e2), fun e3 => h3 (lset_ne (by decide) e3), fun e4 => h4 (lset_ne (by decide) e4), fun e5 => h5 (lset_ne (by decide) e5), fun e6 => h6 (lset_ne (by decide) e6), fun e7 => h7 (lset_ne (by decide) e7), fun e8 => h8 (lset_ne (by decide) e8), fun e9 => h9 (lset_ne (by decide) e9), fun e10 => h10 (lset_ne (by decide) e10), fun e11 => h11 (lset_ne (by decide) e11), fun e12 => h12 (lset_ne (by decide) e12), fun e13 => h13 (lset_ne (by decide) e13), fun _ e => (by cases e), fun e15 => h15 (lset_ne (by decide) e15), fun e16 => h16 (lset_ne (by decide) e16)⟩
      | true =>
        have e13 := h13 d13 rfl
        subst e13
        have hB2 := hB.step (i := 14) (by decide)
        unfold daAct; go_simp
        exact ⟨u45, u46, u47, u48, u49, u50, u51, u52, u53, .bool true, u55, u56, u57, .bool rl, .bool (!rl), u60, u61, rfl, hB2, fun e0 => h0 (lset_ne (by decide) e0), fun e1 => h1 (lset_ne (by decide) e1), fun e2 => h2 (lset_ne (by decide) e2), fun e3 => h3 (lset_ne (by decide) e3), fun e4 => h4 (lset_ne (by decide) e4), fun e5 => h5 (lset_ne (by decide) e5), fun e6 => h6 (lset_ne (by decide) e6), fun e7 => h7 (lset_ne (by decide) e7), fun e8 => h8 (lset_ne (by decide) e8), fun e9 => h9 (lset_ne (by decide) e9), fun e10 => h10 (lset_ne (by decide) e10), fun e11 => h11 (lset_ne (by decide) e11), fun e12 => h12 (lset_ne (by decide) e12), fun e13 => h13 (lset_ne (by decide) e13), fun _ _ => rfl, fun e15 => h15 (lset_ne (by decide) e15), fun e16 => h16 (lset_ne (by decide) e16)⟩
    · have ho' : some _ = some o := ho
      cases ho'
      have d9 := hd { on := 9, ground := .data } (by simp) rfl
      have d14 := hd { on := 14, ground := .data } (by simp) rfl
      obtain ⟨hb1, hst⟩ := hB.live hi9 hl
      have eg := h9 d9
      subst eg
      cases ra with
      | false =>
        have hB2 := hB.step (i := 15) (by decide)
        unfold daAct; go_simp
        exact ⟨u45, u46, u47, u48, u49, u50, u51, u52, u53, .bool false, u55, u56, u57, u58, u59, .bool false, u61, rfl, hB2, fun e0 => h0 (lset_ne (by decide) e0), fun e1 => h1 (lset_ne (by decide) e1), fun e2 => h2 (lset_ne (by decide) e2), fun e3 => h3 (lset_ne (by decide) e3), fun e4 => h4 (lset_ne (by decide) e4), fun e5 => h5 (lset_ne (by decide) e5), fun e6 => h6 (lset_ne (by decide) e6), fun e7 => h7 (lset_ne (by decide) e7), fun e8 => h8 (lset_ne (by decide) e8), fun e9 => h9 (lset_ne (by decide) e9), fun e10 => h10 (lset_ne (by decide) e10), fun e11 => h11 (lset_ne (by decide) e11), fun e12 => h12 (lset_ne (by decide) e12), fun e13 => h13 (lset_ne (by decide) e13), fun e14 => h14 (lset_ne (by decide) e14), fun _ => rfl, fun e16 => h16 (lset_ne (by decide) e16)⟩
      | true =>
        have e14 := h14 d14 rfl
        subst e14
        have hB2 := hB.step (i := 15) (by decide)
        unfold daAct; go_simp
        exact ⟨u45, u46, u47, u48, u49, u50, u51, u52, u53, .bool true, u55, u56, u57, u58, .bool (!rl), .bool (!rl), u61, rfl, hB2, fun e0 => h0 (lset_ne (by decide) e0), fun e1 => h1 (lset_ne (by decide) e1), fun e2 => h2 (lset_ne (by decide) e2), fun e3 => h3 (lset_ne (by decide) e3), fun e4 => h4 (lset_ne (by decide) e4), fun e5 => h5 (lset_ne (by decide) e5), fun e6 => h6 (lset_ne (by decide) e6), fun e7 => h7 (lset_ne (by decide) e7), fun e8 => h8 (lset_ne (by decide) e8), fun e9 => h9 (lset_ne (by decide) e9), fun e10 => h10 (lset_ne (by decide) e10), fun e11 => h11 (lset_ne (by decide) e11), fun e12 => h12 (lset_ne (by decide) e12), fun e13 => h13 (lset_ne (by decide) e13), fun e14 => h14 (lset_ne (by decide) e14), fun _ => rfl, fun e16 => h16 (lset_ne (by decide) e16)⟩
    · have ho' : some _ = some o := ho
      cases ho'
      have d3 := hd { on := 3, ground := .data } (by simp) rfl
      have d4 := hd { on := 4, ground := .data } (by simp) rfl
      have d0 := hd { on := 0, ground := .phase } (by simp) rfl
      have d1 := hd { on := 1, ground := .phase } (by simp) rfl
      have d2 := hd { on := 2, ground := .phase } (by simp) rfl
      have d3 := hd { on := 3, ground := .phase } (by simp) rfl
      have d4 := hd { on := 4, ground := .phase } (by simp) rfl
      have d5 := hd { on := 5, ground := .phase } (by simp) rfl
      have d6 := hd { on := 6, ground := .phase } (by simp) rfl
      have d7 := hd { on := 7, ground := .phase } (by simp) rfl
      have d8 := hd { on := 8, ground := .phase } (by simp) rfl
      have d9 := hd { on := 9, ground := .phase } (by simp) rfl
      have d10 := hd { on := 10, ground := .phase } (by simp) rfl
      have d11 := hd { on := 11, ground := .phase } (by simp) rfl
      have d12 := hd { on := 12, ground := .phase } (by simp) rfl
      have d13 := hd { on := 13, ground := .phase } (by simp) rfl
      have d14 := hd { on := 14, ground := .phase } (by simp) rfl
      have d15 := hd { on := 15, ground := .phase } (by simp) rfl
      obtain ⟨hb1, hst⟩ := hB.live hi9 hl
      have p0 : (0 : Int) ≤ (d : Int) := by omega
      have p1 : (d : Int) < (P : Int) := by omega
      have e0 := h0 d0
      subst e0
      have e1 := h1 d1
      subst e1
      have e2 := h2 d2
      subst e2
      have e3 := h3 d3
      subst e3
      have e4 := h4 d4
      subst e4
      have e5 := h5 d5
      subst e5
      have e6 := h6 d6
      subst e6
      have e7 := h7 d7
      subst e7
      have e8 := h8 d8
      subst e8
      have e9 := h9 d9
      subst e9
      have e15 := h15 d15
      subst e15
      have hB2 := hB.step (i := 16) (by decide)
      unfold daAct; go_simp
      exact ⟨.slice (some ⟨LB, 0, none⟩) P P, .int .i64 (p : Int), .pointer (some ⟨LB, p, none⟩), .slice (some ⟨LB + 1 + p, 0, none⟩) P P, .int .i64 (d : Int), .slice (some ⟨A0, 0, none⟩) P P, .int .i64 (p : Int), .pointer (some ⟨A0, p, none⟩), .bool ra, .bool ra, u55, u56, u57, u58, u59, .bool (ra && !rl), .pointer (some ⟨LB + 1 + p, d, none⟩), rfl, hB2, fun e0 => h0 (lset_ne (by decide) e0), fun e1 => h1 (lset_ne (by decide) e1), fun e2 => h2 (lset_ne (by decide) e2), fun e3 => h3 (lset_ne (by decide) e3), fun e4 => h4 (lset_ne (by decide) e4), fun e5 => h5 (lset_ne (by decide) e5), fun e6 => h6 (lset_ne (by decide) e6), fun e7 => h7 (lset_ne (by decide) e7), fun e8 => h8 (lset_ne (by decide) e8), fun e9 => h9 (lset_ne (by decide) e9), fun e10 => h10 (lset_ne (by decide) e10), fun e11 => h11 (lset_ne (by decide) e11), fun e12 => h12 (lset_ne (by decide) e12), fun e13 => h13 (lset_ne (by decide) e13), fun e14 => h14 (lset_ne (by decide) e14), fun e15 => h15 (lset_ne (by decide) e15), fun _ => rfl⟩
    · have ho' : some _ = some o := ho
      cases ho'
      have d16 := hd { on := 16, ground := .data } (by simp) rfl
      have d15 := hd { on := 15, ground := .data } (by simp) rfl
      have d9 := hd { on := 9, ground := .chain } (by simp) rfl
      have d0 := hd { on := 0, ground := .phase } (by simp) rfl
      have d1 := hd { on := 1, ground := .phase } (by simp) rfl
      have d2 := hd { on := 2, ground := .phase } (by simp) rfl
      have d3 := hd { on := 3, ground := .phase } (by simp) rfl
      have d4 := hd { on := 4, ground := .phase } (by simp) rfl
      have d5 := hd { on := 5, ground := .phase } (by simp) rfl
      have d6 := hd { on := 6, ground := .phase } (by simp) rfl
      have d7 := hd { on := 7, ground := .phase } (by simp) rfl
      have d8 := hd { on := 8, ground := .phase } (by simp) rfl
      have d9 := hd { on := 9, ground := .phase } (by simp) rfl
      have d10 := hd { on := 10, ground := .phase } (by simp) rfl
      have d11 := hd { on := 11, ground := .phase } (by simp) rfl
      have d12 := hd { on := 12, ground := .phase } (by simp) rfl
      have d13 := hd { on := 13, ground := .phase } (by simp) rfl
      have d14 := hd { on := 14, ground := .phase } (by simp) rfl
      have d15 := hd { on := 15, ground := .phase } (by simp) rfl
      obtain ⟨hb1, hst⟩ := hB.live hi9 hl
      have e0 := h0 d0
      subst e0
      have e1 := h1 d1
      subst e1
      have e2 := h2 d2
      subst e2
      have e3 := h3 d3
      subst e3
      have e4 := h4 d4
      subst e4
      have e5 := h5 d5
      subst e5
      have e6 := h6 d6
      subst e6
      have e7 := h7 d7
      subst e7
      have e8 := h8 d8
      subst e8
      have e9 := h9 d9
      subst e9
      have e15 := h15 d15
      subst e15
      have e16 := h16 d16
      subst e16
      have c0 := (hb1.cell (p := ⟨LB + 1 + p, d, none⟩) hR).trans hz
      have c1 := (hb1.frozen (p := ⟨LB + 1 + p, d, none⟩) hR).trans hzf
      have hB2 : StR ⟨LB + 1 + p, d, none⟩ (.bool (ra && !rl)) 17 18 W0 (listed.setIfInBounds 17 true) (w.setCell ⟨LB + 1 + p, d, none⟩ (.bool (ra && !rl))) := .inr ⟨fun j hj => (by rcases (show j = 0 ∨ j = 1 ∨ j = 2 ∨ j = 3 ∨ j = 4 ∨ j = 5 ∨ j = 6 ∨ j = 7 ∨ j = 8 ∨ j = 9 ∨ j = 10 ∨ j = 11 ∨ j = 12 ∨ j = 13 ∨ j = 14 ∨ j = 15 ∨ j = 16 ∨ j = 17 by omega) with rfl | rfl | rfl | rfl | rfl | rfl | rfl | rfl | rfl | rfl | rfl | rfl | rfl | rfl | rfl | rfl | rfl | rfl <;> first | exact lset_eq hs (by decide) | exact lset_up (by assumption)), w, hb1, rfl⟩
      unfold daAct; go_simp
      exact ⟨.slice (some ⟨LB, 0, none⟩) P P, .int .i64 (p : Int), .pointer (some ⟨LB, p, none⟩), .slice (some ⟨LB + 1 + p, 0, none⟩) P P, .int .i64 (d : Int), .slice (some ⟨A0, 0, none⟩) P P, .int .i64 (p : Int), .pointer (some ⟨A0, p, none⟩), .bool ra, .bool ra, u55, u56, u57, u58, u59, .bool (ra && !rl), .pointer (some ⟨LB + 1 + p, d, none⟩), rfl, hB2, fun e0 => h0 (lset_ne (by decide) e0), fun e1 => h1 (lset_ne (by decide) e1), fun e2 => h2 (lset_ne (by decide) e2), fun e3 => h3 (lset_ne (by decide) e3), fun e4 => h4 (lset_ne (by decide) e4), fun e5 => h5 (lset_ne (by decide) e5), fun e6 => h6 (lset_ne (by decide) e6), fun e7 => h7 (lset_ne (by decide) e7), fun e8 => h8 (lset_ne (by decide) e8), fun e9 => h9 (lset_ne (by decide) e9), fun e10 => h10 (lset_ne (by decide) e10), fun e11 => h11 (lset_ne (by decide) e11), fun e12 => h12 (lset_ne (by decide) e12), fun e13 => h13 (lset_ne (by decide) e13), fun e14 => h14 (lset_ne (by decide) e14), fun e15 => h15 (lset_ne (by decide) e15), fun e16 => h16 (lset_ne (by decide) e16)⟩
  · rintro listed a w ⟨u45, u46, u47, u48, u49, u50, u51, u52, u53, u54, u55, u56, u57, u58, u59, u60, u61, rfl, hB, h0, h1, h2, h3, h4, h5, h6, h7, h8, h9, h10, h11, h12, h13, h14, h15, h16⟩ hall
    exact hQ _ _ _ _ _ _ _ _ _ _ _ _ _ _ _ _ _ w (hB.last (hall 17 (by decide))) (h0 (hall 0 (by decide))) (h1 (hall 1 (by decide))) (h2 (hall 2 (by decide))) (h3 (hall 3 (by decide))) (h4 (hall 4 (by decide))) (h5 (hall 5 (by decide))) (h6 (hall 6 (by decide))) (h7 (hall 7 (by decide))) (h8 (hall 8 (by decide))) (h9 (hall 9 (by decide))) (h10 (hall 10 (by decide))) (h11 (hall 11 (by decide))) (h12 (hall 12 (by decide))) (h13 (hall 13 (by decide))) (h14 (hall 14 (by decide))) (h15 (hall 15 (by decide))) (h16 (hall 16 (by decide)))
end Go.Proofs.Ytjjkabgbcflipaa
