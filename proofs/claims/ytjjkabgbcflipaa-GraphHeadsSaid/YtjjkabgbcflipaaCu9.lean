import Derived.Test.YtjjkabgbcflipaaCu8
set_option linter.unusedSimpArgs false
set_option linter.unusedVariables false
namespace Go.Proofs.Ytjjkabgbcflipaa
open Go Go.Proofs Go.RowKit

/-- A slice of one number that was built. -/
def C0 (w : World) (u : Value) (z : Int) : Prop := ∃ b, u = .slice (some ⟨b, 0, none⟩) 1 1 ∧ b < w.heap.size ∧ w.cell? ⟨b, 0, none⟩ = some (.int .i64 z)
/-- A row of the same number. -/
def C2 (B : Nat) (P : Nat) (z : Int) (w : World) (u : Value) : Prop := ∃ g, u = .slice (some ⟨g, 0, none⟩) P P ∧ B ≤ g ∧ w.heap[g]? = some (.cells (intCells (List.replicate P z)).toArray 3 (0, 0))
/-- A box of two cells. -/
def C7 (B : Nat) (T : TypeId) (w : World) (u x y : Value) : Prop := ∃ D, u = .pointer (some ⟨D, 0, none⟩) ∧ B ≤ D ∧ w.heap[D]? = some (.cells #[x, y] T (0, 0))
theorem C0.below {w w' : World} {u : Value} {z : Int} (h : C0 w u z) (hb : Below w.heap.size w w') : C0 w' u z := by
  obtain ⟨b, e, hl, hc⟩ := h
  exact ⟨b, e, Nat.lt_of_lt_of_le hl hb.size, (hb.cell (p := ⟨b, 0, none⟩) hl).trans hc⟩
theorem C2.below {B P : Nat} {z : Int} {w w' : World} {u : Value} (h : C2 B P z w u) (hb : Below w.heap.size w w') : C2 B P z w' u := by
  obtain ⟨g, e, hl, hc⟩ := h
  exact ⟨g, e, hl, (hb.block g (Array.getElem?_eq_some_iff.1 hc).1).trans hc⟩
theorem C7.below {B : Nat} {T : TypeId} {w w' : World} {u x y : Value} (h : C7 B T w u x y) (hb : Below w.heap.size w w') : C7 B T w' u x y := by
  obtain ⟨g, e, hl, hc⟩ := h
  exact ⟨g, e, hl, (hb.block g (Array.getElem?_eq_some_iff.1 hc).1).trans hc⟩
theorem C2.apart {B P n c g : Nat} {z : Int} {w : World} {u : Value} (h : C2 B P z w u) (hg : w.heap.size ≤ g) : (Value.slice (some ⟨g, 0, none⟩) n c).ownBlock ≠ u.ownBlock := by
  obtain ⟨k, rfl, -, hk⟩ := h
  intro q
  have e : g = k := by cases q; rfl
  have := (Array.getElem?_eq_some_iff.1 hk).1
  omega
theorem lset_ne {listed : Array Bool} {i j : Nat} (h : i ≠ j) (e : (listed.setIfInBounds i true).getD j false = true) : listed.getD j false = true := by rwa [getD_set_ne false h] at e
theorem lset_up {listed : Array Bool} {i j : Nat} (e : listed.getD j false = true) : (listed.setIfInBounds i true).getD j false = true := by
  by_cases h : i = j
  · subst h
    rcases Nat.lt_or_ge i listed.size with q | q
    · simp [q]
    · simp [Array.getElem?_eq_none q] at e
  · rwa [getD_set_ne false h]
theorem no_both {listed : Array Bool} {i : Nat} (h : listed.getD i true = false) (e : listed.getD i false = true) : False := by
  rcases Nat.lt_or_ge i listed.size with q | q
  · simp [q] at h e; rw [h] at e; cases e
  · simp [Array.getElem?_eq_none q] at h
theorem lset_eq {listed : Array Bool} {i n : Nat} (hs : listed.size = n) (h : i < n) : (listed.setIfInBounds i true).getD i false = true := by simp [hs, h]
def domAct (a0 r0 q2 q3 q4 q5 q15 q16 q17 u6 u18 u19 u20 u21 u22 u23 u24 : Value) : Act :=
  { tmps := #[a0, r0, q2, q3, q4, q5, u6, undef, undef, undef, undef, undef, undef, undef, undef, q15, q16, q17, u18, u19, u20, u21, u22, u23, u24, undef, undef, undef, undef, undef, undef, undef, undef, undef, undef, undef, undef, undef, undef, undef, undef, undef, undef, undef, undef, undef, undef, undef, undef, undef, undef, undef, undef, undef, undef, undef, undef, undef, undef, undef, undef, undef, undef, undef, undef, undef, undef, undef, undef, undef, undef, undef, undef, undef], defers := [] }
/-- What holds wherever a step of the region comes. -/
def DomI (W0 : World) (P : Nat) (mk : Value → Value → Value → Value → Value → Value → Value → Value → Act) (listed : Array Bool) (a : Act) (w : World) : Prop :=
  ∃ u6 u18 u19 u20 u21 u22 u23 u24, a = mk u6 u18 u19 u20 u21 u22 u23 u24 ∧ Below W0.heap.size W0 w ∧
    ((listed.getD 8 false = false ∧ (listed.getD 0 false = true → C0 w u18 (-1)) ∧ (listed.getD 1 false = true → u19 = .int .i64 (P : Int)) ∧ (listed.getD 2 false = true → C2 W0.heap.size P (-1) w u20) ∧
      (listed.getD 3 false = true → C0 w u21 (-1)) ∧ (listed.getD 4 false = true → u22 = .int .i64 (P : Int)) ∧ (listed.getD 5 false = true → C2 W0.heap.size P (-1) w u23) ∧ (listed.getD 2 false = true → listed.getD 5 false = true → u20.ownBlock ≠ u23.ownBlock) ∧
      (listed.getD 6 false = true → listed.getD 2 false = true ∧ listed.getD 5 false = true ∧ u24 = .agg #[u20, u23]) ∧ (listed.getD 7 false = true → C7 W0.heap.size 97 w u6 nilS nilS)) ∨
    ((∀ j, j < 9 → listed.getD j false = true) ∧ C7 W0.heap.size 97 w u6 u20 u23 ∧ C2 W0.heap.size P (-1) w u20 ∧ C2 W0.heap.size P (-1) w u23 ∧ u20.ownBlock ≠ u23.ownBlock))
set_option maxRecDepth 20000 in
set_option maxHeartbeats 4000000 in
theorem dom_region {P : Nat} (hP : P ≤ 1000) (W0 : World) (p : Nat) (hc : W0.cell? ⟨p, 0, none⟩ = some (.int .i64 (P : Int))) (hp : p < W0.heap.size) (a0 r0 q2 q3 q4 q15 q16 q17 : Value) {Q : Exit → Act → World → Prop}
    (hQ : ∀ u6 u18 u19 u20 u21 u22 u23 u24 w, Below W0.heap.size W0 w → C7 W0.heap.size 97 w u6 u20 u23 → C2 W0.heap.size P (-1) w u20 → C2 W0.heap.size P (-1) w u23 → u20.ownBlock ≠ u23.ownBlock →
      Q .normal (domAct a0 r0 q2 q3 q4 (.pointer (some ⟨p, 0, none⟩)) q15 q16 q17 u6 u18 u19 u20 u21 u22 u23 u24) w) :
    (Code.region 2 #[{ dst := some 18, op := Op.buildSlice 51 1 #[(0, Operand.const (Value.int IntKind.i64 (-1)))], type := 51, pos := "dominator.go:18", after := #[], guard := none }, { dst := some 19, op := Op.load 3 (Operand.tmp 5), type := 3, pos := "dominator.go:18", after := #[], guard := none }, { dst := some 20, op := Op.call { callee := Callee.value (Operand.func 72), args := #[Operand.tmp 18, Operand.tmp 19], argTypes := #[51, 3] }, type := 51, pos := "dominator.go:18", after := #[{ on := 0, ground := Ground.data }, { on := 1, ground := Ground.data }], guard := none }, { dst := some 21, op := Op.buildSlice 51 1 #[(0, Operand.const (Value.int IntKind.i64 (-1)))], type := 51, pos := "dominator.go:18", after := #[], guard := none }, { dst := some 22, op := Op.load 3 (Operand.tmp 5), type := 3, pos := "dominator.go:18", after := #[], guard := none }, { dst := some 23, op := Op.call { callee := Callee.value (Operand.func 72), args := #[Operand.tmp 21, Operand.tmp 22], argTypes := #[51, 3] }, type := 51, pos := "dominator.go:18", after := #[{ on := 3, ground := Ground.data }, { on := 4, ground := Ground.data }, { on := 2, ground := Ground.chain }], guard := none }, { dst := some 24, op := Op.build 97 #[(0, Operand.tmp 20), (1, Operand.tmp 23)], type := 97, pos := "dominator.go:18", after := #[{ on := 2, ground := Ground.data }, { on := 5, ground := Ground.data }], guard := none }, { dst := some 6, op := Op.alloc 97, type := 0, pos := "dominator.go:18", after := #[], guard := none }, { dst := none, op := Op.store 97 (Operand.tmp 6) (Operand.tmp 24), type := 0, pos := "dominator.go:18", after := #[{ on := 7, ground := Ground.data }, { on := 6, ground := Ground.data }, { on := 5, ground := Ground.chain }, { on := 0, ground := Ground.phase }, { on := 1, ground := Ground.phase }, { on := 2, ground := Ground.phase }, { on := 3, ground := Ground.phase }, { on := 4, ground := Ground.phase }, { on := 5, ground := Ground.phase }, { on := 6, ground := Ground.phase }, { on := 7, ground := Ground.phase }], guard := none }] true).wp Try.prog Q (domAct a0 r0 q2 q3 q4 (.pointer (some ⟨p, 0, none⟩)) q15 q16 q17 undef undef undef undef undef undef undef undef) W0 := by
  refine wp_region_inv (by kernel_rfl) (by kernel_rfl) (DomI W0 P (domAct a0 r0 q2 q3 q4 (.pointer (some ⟨p, 0, none⟩)) q15 q16 q17)) ?_ ?_ ?_
  · refine ⟨_, _, _, _, _, _, _, _, rfl, (Below.refl _ _).drew, .inl ⟨rfl, ?_, ?_, ?_, ?_, ?_, ?_, ?_, ?_, ?_⟩⟩ <;> (intro e; simp at e)
  · intro listed a w i o hI hs ho hl hd
    have hs9 : listed.size = 9 := hs
    have hi9 : i < 9 := (Array.getElem?_eq_some_iff.1 ho).1
    obtain ⟨u6, u18, u19, u20, u21, u22, u23, u24, rfl, hB, hcase⟩ := hI
    rcases hcase with ⟨h8, h0, h1, h2, h3, h4, h5, h25, h6, h7⟩ | ⟨hall, -⟩
    rotate_left
    · have := hall i hi9
      have hx : listed.getD i true = true := by
        have hlt : i < listed.size := by omega
        simp [hlt] at this ⊢
        exact this
      rw [hx] at hl; cases hl
    have hcw : w.cell? ⟨p, 0, none⟩ = some (.int .i64 (P : Int)) := (hB.cell (p := ⟨p, 0, none⟩) hp).trans hc
    have hlB := hB.size
    rcases (show i = 0 ∨ i = 1 ∨ i = 2 ∨ i = 3 ∨ i = 4 ∨ i = 5 ∨ i = 6 ∨ i = 7 ∨ i = 8 by omega) with rfl | rfl | rfl | rfl | rfl | rfl | rfl | rfl | rfl
    · have ho' : some _ = some o := ho
      cases ho'
      have hbw : Below w.heap.size w (w.alloc (Obj.cells #[.int .i64 (-1)] 3)) := (Below.refl _ _).alloc (Nat.le_refl _) _
      unfold domAct; go_simp
      exact ⟨u6, .slice (some ⟨w.heap.size, 0, none⟩) 1 1, u19, u20, u21, u22, u23, u24, rfl, Below.chain hB hbw, .inl ⟨by rw [getD_set_ne false (by decide)]; exact h8, fun _ => ⟨w.heap.size, rfl, by simp, by go_cell⟩, fun e1 => h1 (lset_ne (by decide) e1), fun e2 => (h2 (lset_ne (by decide) e2)).below hbw, fun e3 => (h3 (lset_ne (by decide) e3)).below hbw, fun e4 => h4 (lset_ne (by decide) e4), fun e5 => (h5 (lset_ne (by decide) e5)).below hbw, fun e2 e5 => h25 (lset_ne (by decide) e2) (lset_ne (by decide) e5), fun e6 => (fun q => ⟨lset_up q.1, lset_up q.2.1, q.2.2⟩) (h6 (lset_ne (by decide) e6)), fun e7 => (h7 (lset_ne (by decide) e7)).below hbw⟩⟩
    · have ho' : some _ = some o := ho
      cases ho'
      have hbw : Below w.heap.size w w := Below.refl _ _
      unfold domAct; go_simp
      exact ⟨u6, u18, .int .i64 (P : Int), u20, u21, u22, u23, u24, rfl, hB, .inl ⟨by rw [getD_set_ne false (by decide)]; exact h8, fun e0 => (h0 (lset_ne (by decide) e0)).below hbw, fun _ => rfl, fun e2 => (h2 (lset_ne (by decide) e2)).below hbw, fun e3 => (h3 (lset_ne (by decide) e3)).below hbw, fun e4 => h4 (lset_ne (by decide) e4), fun e5 => (h5 (lset_ne (by decide) e5)).below hbw, fun e2 e5 => h25 (lset_ne (by decide) e2) (lset_ne (by decide) e5), fun e6 => (fun q => ⟨lset_up q.1, lset_up q.2.1, q.2.2⟩) (h6 (lset_ne (by decide) e6)), fun e7 => (h7 (lset_ne (by decide) e7)).below hbw⟩⟩
    · have ho' : some _ = some o := ho
      cases ho'
      have d0 := hd { on := 0, ground := .data } (by simp) rfl
      have d1 := hd { on := 1, ground := .data } (by simp) rfl
      obtain ⟨b, hu, hbl, hbc⟩ := h0 d0
      have hv := h1 d1
      subst hu hv
      unfold domAct; go_simp
      refine (repeat_any P b (-1) w hP hbc hbl).mono ?_
      rintro e w' ⟨g, rfl, hg, hgl, hbw⟩
      exact ⟨u6, .slice (some ⟨b, 0, none⟩) 1 1, .int .i64 (P : Int), .slice (some ⟨g, 0, none⟩) P P, u21, u22, u23, u24, rfl, Below.chain hB hbw, .inl ⟨by rw [getD_set_ne false (by decide)]; exact h8, fun e0 => (h0 (lset_ne (by decide) e0)).below hbw, fun e1 => h1 (lset_ne (by decide) e1), fun _ => ⟨g, rfl, by omega, hg⟩, fun e3 => (h3 (lset_ne (by decide) e3)).below hbw, fun e4 => h4 (lset_ne (by decide) e4), fun e5 => (h5 (lset_ne (by decide) e5)).below hbw, fun _ e5 => (h5 (lset_ne (by decide) e5)).apart hgl, fun e6 => (no_both hl (h6 (lset_ne (by decide) e6)).1).elim, fun e7 => (h7 (lset_ne (by decide) e7)).below hbw⟩⟩
    · have ho' : some _ = some o := ho
      cases ho'
      have hbw : Below w.heap.size w (w.alloc (Obj.cells #[.int .i64 (-1)] 3)) := (Below.refl _ _).alloc (Nat.le_refl _) _
      unfold domAct; go_simp
      exact ⟨u6, u18, u19, u20, .slice (some ⟨w.heap.size, 0, none⟩) 1 1, u22, u23, u24, rfl, Below.chain hB hbw, .inl ⟨by rw [getD_set_ne false (by decide)]; exact h8, fun e0 => (h0 (lset_ne (by decide) e0)).below hbw, fun e1 => h1 (lset_ne (by decide) e1), fun e2 => (h2 (lset_ne (by decide) e2)).below hbw, fun _ => ⟨w.heap.size, rfl, by simp, by go_cell⟩, fun e4 => h4 (lset_ne (by decide) e4), fun e5 => (h5 (lset_ne (by decide) e5)).below hbw, fun e2 e5 => h25 (lset_ne (by decide) e2) (lset_ne (by decide) e5), fun e6 => (fun q => ⟨lset_up q.1, lset_up q.2.1, q.2.2⟩) (h6 (lset_ne (by decide) e6)), fun e7 => (h7 (lset_ne (by decide) e7)).below hbw⟩⟩
    · have ho' : some _ = some o := ho
      cases ho'
      have hbw : Below w.heap.size w w := Below.refl _ _
      unfold domAct; go_simp
      exact ⟨u6, u18, u19, u20, u21, .int .i64 (P : Int), u23, u24, rfl, hB, .inl ⟨by rw [getD_set_ne false (by decide)]; exact h8, fun e0 => (h0 (lset_ne (by decide) e0)).below hbw, fun e1 => h1 (lset_ne (by decide) e1), fun e2 => (h2 (lset_ne (by decide) e2)).below hbw, fun e3 => (h3 (lset_ne (by decide) e3)).below hbw, fun _ => rfl, fun e5 => (h5 (lset_ne (by decide) e5)).below hbw, fun e2 e5 => h25 (lset_ne (by decide) e2) (lset_ne (by decide) e5), fun e6 => (fun q => ⟨lset_up q.1, lset_up q.2.1, q.2.2⟩) (h6 (lset_ne (by decide) e6)), fun e7 => (h7 (lset_ne (by decide) e7)).below hbw⟩⟩
    · have ho' : some _ = some o := ho
      cases ho'
      have d3 := hd { on := 3, ground := .data } (by simp) rfl
      have d4 := hd { on := 4, ground := .data } (by simp) rfl
      obtain ⟨b, hu, hbl, hbc⟩ := h3 d3
      have hv := h4 d4
      subst hu hv
      unfold domAct; go_simp
      refine (repeat_any P b (-1) w hP hbc hbl).mono ?_
      rintro e w' ⟨g, rfl, hg, hgl, hbw⟩
      exact ⟨u6, u18, u19, u20, .slice (some ⟨b, 0, none⟩) 1 1, .int .i64 (P : Int), .slice (some ⟨g, 0, none⟩) P P, u24, rfl, Below.chain hB hbw, .inl ⟨by rw [getD_set_ne false (by decide)]; exact h8, fun e0 => (h0 (lset_ne (by decide) e0)).below hbw, fun e1 => h1 (lset_ne (by decide) e1), fun e2 => (h2 (lset_ne (by decide) e2)).below hbw, fun e3 => (h3 (lset_ne (by decide) e3)).below hbw, fun e4 => h4 (lset_ne (by decide) e4), fun _ => ⟨g, rfl, by omega, hg⟩, fun e2 _ => Ne.symm ((h2 (lset_ne (by decide) e2)).apart hgl), fun e6 => (no_both hl (h6 (lset_ne (by decide) e6)).2.1).elim, fun e7 => (h7 (lset_ne (by decide) e7)).below hbw⟩⟩
    · have ho' : some _ = some o := ho
      cases ho'
      have d2 := hd { on := 2, ground := .data } (by simp) rfl
      have d5 := hd { on := 5, ground := .data } (by simp) rfl
      obtain ⟨g, hu, hg1, hg2⟩ := h2 d2
      obtain ⟨h, hv, hh1, hh2⟩ := h5 d5
      subst hu hv
      have hbw : Below w.heap.size w w := Below.refl _ _
      unfold domAct; go_simp
      exact ⟨u6, u18, u19, .slice (some ⟨g, 0, none⟩) P P, u21, u22, .slice (some ⟨h, 0, none⟩) P P, .agg #[.slice (some ⟨g, 0, none⟩) P P, .slice (some ⟨h, 0, none⟩) P P], rfl, hB, .inl ⟨by rw [getD_set_ne false (by decide)]; exact h8, fun e0 => (h0 (lset_ne (by decide) e0)).below hbw, fun e1 => h1 (lset_ne (by decide) e1), fun e2 => (h2 (lset_ne (by decide) e2)).below hbw, fun e3 => (h3 (lset_ne (by decide) e3)).below hbw, fun e4 => h4 (lset_ne (by decide) e4), fun e5 => (h5 (lset_ne (by decide) e5)).below hbw, fun e2 e5 => h25 (lset_ne (by decide) e2) (lset_ne (by decide) e5), fun _ => ⟨lset_up d2, lset_up d5, rfl⟩, fun e7 => (h7 (lset_ne (by decide) e7)).below hbw⟩⟩
    · have ho' : some _ = some o := ho
      cases ho'
      have hbw : Below w.heap.size w (w.alloc (Obj.cells #[nilS, nilS] 97)) := (Below.refl _ _).alloc (Nat.le_refl _) _
      unfold domAct; go_simp
      exact ⟨.pointer (some ⟨w.heap.size, 0, none⟩), u18, u19, u20, u21, u22, u23, u24, rfl, Below.chain hB hbw, .inl ⟨by rw [getD_set_ne false (by decide)]; exact h8, fun e0 => (h0 (lset_ne (by decide) e0)).below hbw, fun e1 => h1 (lset_ne (by decide) e1), fun e2 => (h2 (lset_ne (by decide) e2)).below hbw, fun e3 => (h3 (lset_ne (by decide) e3)).below hbw, fun e4 => h4 (lset_ne (by decide) e4), fun e5 => (h5 (lset_ne (by decide) e5)).below hbw, fun e2 e5 => h25 (lset_ne (by decide) e2) (lset_ne (by decide) e5), fun e6 => (fun q => ⟨lset_up q.1, lset_up q.2.1, q.2.2⟩) (h6 (lset_ne (by decide) e6)), fun _ => ⟨w.heap.size, rfl, hlB, heap_alloc_last w _⟩⟩⟩
    · have ho' : some _ = some o := ho
      cases ho'
      have d0 := hd { on := 0, ground := .phase } (by simp) rfl
      have d1 := hd { on := 1, ground := .phase } (by simp) rfl
      have d2 := hd { on := 2, ground := .phase } (by simp) rfl
      have d3 := hd { on := 3, ground := .phase } (by simp) rfl
      have d4 := hd { on := 4, ground := .phase } (by simp) rfl
      have d5 := hd { on := 5, ground := .phase } (by simp) rfl
      have d6 := hd { on := 6, ground := .phase } (by simp) rfl
      have d7 := hd { on := 7, ground := .phase } (by simp) rfl
      have hu4 := (h6 d6).2.2
      obtain ⟨D, hu, hD1, hD2⟩ := h7 d7
      obtain ⟨g, hv, hg1, hg2⟩ := h2 d2
      obtain ⟨h, hx, hh1, hh2⟩ := h5 d5
      have hap := h25 d2 d5
      subst hu hv hx hu4
      have c0 : w.cell? ⟨D, 0, none⟩ = some nilS := by rw [cell_of_row _ _ 0 _ _ (0, 0) hD2]; rfl
      have c1 : w.cell? ⟨D, 1, none⟩ = some nilS := by rw [cell_of_row _ _ 1 _ _ (0, 0) hD2]; rfl
      have f0 : w.frozen? ⟨D, 0, none⟩ = false := frozen_of_row _ _ 0 _ _ hD2
      have f1 : w.frozen? ⟨D, 1, none⟩ = false := frozen_of_row _ _ 1 _ _ hD2
      have hb2 : But (fun k => k = D) w ((w.setCell ⟨D, 0, none⟩ (.slice (some ⟨g, 0, none⟩) P P)).setCell ⟨D, 1, none⟩ (.slice (some ⟨h, 0, none⟩) P P)) := But.set2 w D _ _
      have ngD : ¬ g = D := fun e => by rw [e, hD2] at hg2; injection hg2 with q1; injection q1 with _ q2 _; exact absurd q2 (by decide)
      have nhD : ¬ h = D := fun e => by rw [e, hD2] at hh2; injection hh2 with q1; injection q1 with _ q2 _; exact absurd q2 (by decide)
      have g3 := (hb2.block g (Array.getElem?_eq_some_iff.1 hg2).1 ngD).trans hg2
      have h3' := (hb2.block h (Array.getElem?_eq_some_iff.1 hh2).1 nhD).trans hh2
      have D3 : ((w.setCell ⟨D, 0, none⟩ (.slice (some ⟨g, 0, none⟩) P P)).setCell ⟨D, 1, none⟩ (.slice (some ⟨h, 0, none⟩) P P)).heap[D]? = some (.cells #[.slice (some ⟨g, 0, none⟩) P P, .slice (some ⟨h, 0, none⟩) P P] 97 (0, 0)) := heap_setCell_same _ D 1 _ _ _ (heap_setCell_same w D 0 _ _ _ hD2)
      have B3 : Below W0.heap.size W0 ((w.setCell ⟨D, 0, none⟩ (.slice (some ⟨g, 0, none⟩) P P)).setCell ⟨D, 1, none⟩ (.slice (some ⟨h, 0, none⟩) P P)) := hB.trans ⟨rfl, rfl, rfl, by simp, fun k hk => hb2.block k (by omega) (by omega)⟩
      unfold domAct; go_simp
      refine ⟨_, _, _, _, _, _, _, _, rfl, B3, .inr ⟨fun j hj => ?_, ⟨D, rfl, hD1, D3⟩, ⟨g, rfl, hg1, g3⟩, ⟨h, rfl, hh1, h3'⟩, hap⟩⟩
      by_cases e8 : 8 = j
      · subst e8; exact lset_eq hs9 (by decide)
      · rw [getD_set_ne false e8]
        rcases (show j = 0 ∨ j = 1 ∨ j = 2 ∨ j = 3 ∨ j = 4 ∨ j = 5 ∨ j = 6 ∨ j = 7 by omega) with rfl | rfl | rfl | rfl | rfl | rfl | rfl | rfl <;> assumption
  · rintro listed a w ⟨u6, u18, u19, u20, u21, u22, u23, u24, rfl, hB, hcase⟩ hall
    rcases hcase with ⟨h8, -⟩ | ⟨-, g1, g2, g3, g4⟩
    · have := hall 8 (by decide); rw [h8] at this; cases this
    · exact hQ _ _ _ _ _ _ _ _ w hB g1 g2 g3 g4
end Go.Proofs.Ytjjkabgbcflipaa
namespace Go.Proofs.Ytjjkabgbcflipaa
open Go Go.Proofs Go.RowKit GM

/-- A box of one cell. -/
def C1 (B : Nat) (T : TypeId) (w : World) (u x : Value) : Prop := ∃ D, u = .pointer (some ⟨D, 0, none⟩) ∧ B ≤ D ∧ w.heap[D]? = some (.cells #[x] T (0, 0))
theorem C1.below {B : Nat} {T : TypeId} {w w' : World} {u x : Value} (h : C1 B T w u x) (hb : Below w.heap.size w w') : C1 B T w' u x := by
  obtain ⟨g, e, hl, hc⟩ := h
  exact ⟨g, e, hl, (hb.block g (Array.getElem?_eq_some_iff.1 hc).1).trans hc⟩
/-- Marks that were made. -/
def CM (B P : Nat) (w : World) (u : Value) : Prop := ∃ M, u = .slice (some ⟨M, 0, none⟩) P P ∧ B ≤ M ∧ MkAt w M P (fun _ => false)
theorem CM.below {B P : Nat} {w w' : World} {u : Value} (h : CM B P w u) (hb : Below w.heap.size w w') : CM B P w' u := by
  obtain ⟨g, e, hl, hc⟩ := h
  exact ⟨g, e, hl, hc.below hb⟩
/-- The order of a visit. -/
def CV (nx : Nat → List Nat) (r B P : Nat) (w : World) (u : Value) : Prop := ∃ t, VL nx (fun _ => False) [r] t ∧ ownI B w u (t.map fun (n : Nat) => (n : Int)) ∧ t.length ≤ P
theorem CV.below {nx : Nat → List Nat} {r B P : Nat} {w w' : World} {u : Value} (h : CV nx r B P w u) (hb : Below w.heap.size w w') : CV nx r B P w' u := by
  obtain ⟨t, e, hl, h3⟩ := h
  exact ⟨t, e, hl.below hb, h3⟩
theorem ownI.int {lo : Nat} {W : World} {v : Value} {l : List Int} {b : Nat} (h : ownI lo W v l) (e : v.ownBlock = some b) : ∃ cs, W.heap[b]? = some (.cells cs 3 (0, 0)) := by
  rcases h.2 with ⟨e2, -⟩ | ⟨g, cap, cur, e2, -, hg, -⟩
  · rw [e2] at e; cases e
  · rw [e2] at e
    have : g = b := by cases e; rfl
    exact ⟨cur, this ▸ hg⟩
def ordAct (a0 r0 q2 q3 q4 q5 q6 q15 q16 q17 q18 q19 q20 q21 q22 q23 q24 u7 u25 u26 u27 u28 u29 : Value) : Act :=
  { tmps := #[a0, r0, q2, q3, q4, q5, q6, u7, undef, undef, undef, undef, undef, undef, undef, q15, q16, q17, q18, q19, q20, q21, q22, q23, q24, u25, u26, u27, u28, u29, undef, undef, undef, undef, undef, undef, undef, undef, undef, undef, undef, undef, undef, undef, undef, undef, undef, undef, undef, undef, undef, undef, undef, undef, undef, undef, undef, undef, undef, undef, undef, undef, undef, undef, undef, undef, undef, undef, undef, undef, undef, undef, undef, undef], defers := [] }
def OrdI (nx : Nat → List Nat) (r : Nat) (vv : Value) (W0 : World) (P : Nat) (mk : Value → Value → Value → Value → Value → Value → Act) (listed : Array Bool) (a : Act) (w : World) : Prop :=
  ∃ u7 u25 u26 u27 u28 u29, a = mk u7 u25 u26 u27 u28 u29 ∧ Below W0.heap.size W0 w ∧
    ((listed.getD 6 false = false ∧ (listed.getD 0 false = true → u25 = vv) ∧ (listed.getD 1 false = true → u26 = .int .i64 (r : Int)) ∧ (listed.getD 2 false = true → u27 = .int .i64 (P : Int)) ∧
      (listed.getD 3 false = true → listed.getD 4 false = false → CM W0.heap.size P w u28) ∧ (listed.getD 4 false = true → CV nx r W0.heap.size P w u29) ∧ (listed.getD 5 false = true → C1 W0.heap.size 51 w u7 nilS)) ∨
    ((∀ j, j < 7 → listed.getD j false = true) ∧ C1 W0.heap.size 51 w u7 u29 ∧ CV nx r W0.heap.size P w u29))
set_option maxRecDepth 20000 in
set_option maxHeartbeats 4000000 in
theorem ord_region {P : Nat} {es : List Nat} {ls : List (List Nat)} (hP : P ≤ 1000) (hls : ∀ p, (rowD ls p).length ≤ 100000) (hes : es.length ≤ 100000) (W0 : World) (p2 p3 p5 r : Nat) (hr : r < P) (eo to_ : Option Addr) (e1 e2 t1 t2 : Nat)
    (hv : VR (fun b => b < W0.heap.size) W0 (.slice eo e1 e2) (.slice to_ t1 t2) P es ls)
    (hc0 : W0.cell? ⟨p2, 0, none⟩ = some (.slice eo e1 e2)) (hc1 : W0.cell? ⟨p2, 1, none⟩ = some (.slice to_ t1 t2)) (hc3 : W0.cell? ⟨p3, 0, none⟩ = some (.int .i64 (r : Int))) (hc5 : W0.cell? ⟨p5, 0, none⟩ = some (.int .i64 (P : Int))) (hp2 : p2 < W0.heap.size) (hp3 : p3 < W0.heap.size) (hp5 : p5 < W0.heap.size)
    (a0 r0 q4 q6 q15 q16 q17 q18 q19 q20 q21 q22 q23 q24 : Value) {Q : Exit → Act → World → Prop}
    (hQ : ∀ u7 u25 u26 u27 u28 u29 w, Below W0.heap.size W0 w → C1 W0.heap.size 51 w u7 u29 → CV (nxt es ls) r W0.heap.size P w u29 → Q .normal (ordAct a0 r0 (.pointer (some ⟨p2, 0, none⟩)) (.pointer (some ⟨p3, 0, none⟩)) q4 (.pointer (some ⟨p5, 0, none⟩)) q6 q15 q16 q17 q18 q19 q20 q21 q22 q23 q24 u7 u25 u26 u27 u28 u29) w) :
    (Code.region 3 #[{ dst := some 25, op := Op.load 89 (Operand.tmp 2), type := 89, pos := "dominator.go:19", after := #[], guard := none }, { dst := some 26, op := Op.load 3 (Operand.tmp 3), type := 3, pos := "dominator.go:19", after := #[], guard := none }, { dst := some 27, op := Op.load 3 (Operand.tmp 5), type := 3, pos := "dominator.go:19", after := #[], guard := none }, { dst := some 28, op := Op.makeSlice 33 (Operand.tmp 27) (Operand.tmp 27), type := 33, pos := "dominator.go:19", after := #[{ on := 2, ground := Ground.data }, { on := 2, ground := Ground.data }], guard := none }, { dst := some 29, op := Op.call { callee := Callee.value (Operand.func 52), args := #[Operand.tmp 25, Operand.tmp 26, Operand.tmp 28], argTypes := #[89, 3, 33] }, type := 51, pos := "dominator.go:19", after := #[{ on := 0, ground := Ground.data }, { on := 1, ground := Ground.data }, { on := 3, ground := Ground.data }], guard := none }, { dst := some 7, op := Op.alloc 51, type := 0, pos := "dominator.go:19", after := #[], guard := none }, { dst := none, op := Op.store 51 (Operand.tmp 7) (Operand.tmp 29), type := 0, pos := "dominator.go:19", after := #[{ on := 5, ground := Ground.data }, { on := 4, ground := Ground.data }, { on := 4, ground := Ground.chain }, { on := 0, ground := Ground.phase }, { on := 1, ground := Ground.phase }, { on := 2, ground := Ground.phase }, { on := 3, ground := Ground.phase }, { on := 4, ground := Ground.phase }, { on := 5, ground := Ground.phase }], guard := none }] true).wp Try.prog Q (ordAct a0 r0 (.pointer (some ⟨p2, 0, none⟩)) (.pointer (some ⟨p3, 0, none⟩)) q4 (.pointer (some ⟨p5, 0, none⟩)) q6 q15 q16 q17 q18 q19 q20 q21 q22 q23 q24 undef undef undef undef undef undef) W0 := by
  refine wp_region_inv (by kernel_rfl) (by kernel_rfl) (OrdI (nxt es ls) r (.agg #[.slice eo e1 e2, .slice to_ t1 t2]) W0 P (ordAct a0 r0 (.pointer (some ⟨p2, 0, none⟩)) (.pointer (some ⟨p3, 0, none⟩)) q4 (.pointer (some ⟨p5, 0, none⟩)) q6 q15 q16 q17 q18 q19 q20 q21 q22 q23 q24)) ?_ ?_ ?_
  · refine ⟨_, _, _, _, _, _, rfl, (Below.refl _ _).drew, .inl ⟨rfl, ?_, ?_, ?_, ?_, ?_, ?_⟩⟩ <;> (intro e; simp at e)
  · intro listed a w i o hI hs ho hl hd
    have hs9 : listed.size = 7 := hs
    have hi9 : i < 7 := (Array.getElem?_eq_some_iff.1 ho).1
    obtain ⟨u7, u25, u26, u27, u28, u29, rfl, hB, hcase⟩ := hI
    rcases hcase with ⟨h6, h0, h1, h2, h3, h4, h5⟩ | ⟨hall, -⟩
    rotate_left
    · exact (no_both hl (hall i hi9)).elim
    have c0 : w.cell? ⟨p2, 0, none⟩ = some (.slice eo e1 e2) := (hB.cell (p := ⟨p2, 0, none⟩) hp2).trans hc0
    have c1 : w.cell? ⟨p2, 1, none⟩ = some (.slice to_ t1 t2) := (hB.cell (p := ⟨p2, 1, none⟩) hp2).trans hc1
    have c3 : w.cell? ⟨p3, 0, none⟩ = some (.int .i64 (r : Int)) := (hB.cell (p := ⟨p3, 0, none⟩) hp3).trans hc3
    have c5 : w.cell? ⟨p5, 0, none⟩ = some (.int .i64 (P : Int)) := (hB.cell (p := ⟨p5, 0, none⟩) hp5).trans hc5
    have hlB := hB.size
    rcases (show i = 0 ∨ i = 1 ∨ i = 2 ∨ i = 3 ∨ i = 4 ∨ i = 5 ∨ i = 6 by omega) with rfl | rfl | rfl | rfl | rfl | rfl | rfl
    · have ho' : some _ = some o := ho
      cases ho'
      have hbw : Below w.heap.size w w := Below.refl _ _
      unfold ordAct; go_simp
      exact ⟨u7, .agg #[.slice eo e1 e2, .slice to_ t1 t2], u26, u27, u28, u29, rfl, hB, .inl ⟨by rw [getD_set_ne false (by decide)]; exact h6, fun _ => rfl, fun e1 => h1 (lset_ne (by decide) e1), fun e2 => h2 (lset_ne (by decide) e2), fun e3 e4 => (h3 (lset_ne (by decide) e3) (by rw [getD_set_ne false (by decide)] at e4; exact e4)).below hbw, fun e4 => (h4 (lset_ne (by decide) e4)).below hbw, fun e5 => (h5 (lset_ne (by decide) e5)).below hbw⟩⟩
    · have ho' : some _ = some o := ho
      cases ho'
      have hbw : Below w.heap.size w w := Below.refl _ _
      unfold ordAct; go_simp
      exact ⟨u7, u25, .int .i64 (r : Int), u27, u28, u29, rfl, hB, .inl ⟨by rw [getD_set_ne false (by decide)]; exact h6, fun e0 => h0 (lset_ne (by decide) e0), fun _ => rfl, fun e2 => h2 (lset_ne (by decide) e2), fun e3 e4 => (h3 (lset_ne (by decide) e3) (by rw [getD_set_ne false (by decide)] at e4; exact e4)).below hbw, fun e4 => (h4 (lset_ne (by decide) e4)).below hbw, fun e5 => (h5 (lset_ne (by decide) e5)).below hbw⟩⟩
    · have ho' : some _ = some o := ho
      cases ho'
      have hbw : Below w.heap.size w w := Below.refl _ _
      unfold ordAct; go_simp
      exact ⟨u7, u25, u26, .int .i64 (P : Int), u28, u29, rfl, hB, .inl ⟨by rw [getD_set_ne false (by decide)]; exact h6, fun e0 => h0 (lset_ne (by decide) e0), fun e1 => h1 (lset_ne (by decide) e1), fun _ => rfl, fun e3 e4 => (h3 (lset_ne (by decide) e3) (by rw [getD_set_ne false (by decide)] at e4; exact e4)).below hbw, fun e4 => (h4 (lset_ne (by decide) e4)).below hbw, fun e5 => (h5 (lset_ne (by decide) e5)).below hbw⟩⟩
    · have ho' : some _ = some o := ho
      cases ho'
      have d2 := hd { on := 2, ground := .data } (by simp) rfl
      have hu := h2 d2
      subst hu
      have hmk := make_bools w P (by omega)
      have hbw : Below w.heap.size w (w.alloc (.cells (Array.replicate P (.bool false)) 4)) := (Below.refl _ _).alloc (Nat.le_refl _) _
      unfold ordAct; go_simp
      exact ⟨u7, u25, u26, .int .i64 (P : Int), .slice (some ⟨w.heap.size, 0, none⟩) P P, u29, rfl, Below.chain hB hbw, .inl ⟨by rw [getD_set_ne false (by decide)]; exact h6, fun e0 => h0 (lset_ne (by decide) e0), fun e1 => h1 (lset_ne (by decide) e1), fun e2 => h2 (lset_ne (by decide) e2), fun _ _ => ⟨w.heap.size, rfl, hlB, MkAt.made w P⟩, fun e4 => (h4 (lset_ne (by decide) e4)).below hbw, fun e5 => (h5 (lset_ne (by decide) e5)).below hbw⟩⟩
    · have ho' : some _ = some o := ho
      cases ho'
      have d0 := hd { on := 0, ground := .data } (by simp) rfl
      have d1 := hd { on := 1, ground := .data } (by simp) rfl
      have d3 := hd { on := 3, ground := .data } (by simp) rfl
      have hu := h0 d0; have hv2 := h1 d1
      obtain ⟨M, hw, hM1, hM2⟩ := h3 d3 (by cases e : listed.getD 4 false with | false => rfl | true => exact (no_both hl e).elim)
      subst hu hv2 hw
      have hvr : VR (fun b => b < w.heap.size ∧ b ≠ M) w (.slice eo e1 e2) (.slice to_ t1 t2) P es ls := hv.keep ⟨hB.size, fun k hk hl => hB.block k hl⟩ (fun b hb _ => ⟨by omega, by omega⟩)
      have hC := visit_any w (by omega) hls hes M r (fun _ => false) hr hvr hM2
      unfold ordAct; go_simp
      refine hC.mono ?_
      rintro e w' ⟨t, v', rfl, g1, g2, -, g4, g5⟩
      have hB2 : Below W0.heap.size W0 w' := hB.trans ⟨g4.os, g4.tape, g4.output, g4.size, fun k hk => g4.block k (by omega) (by omega)⟩
      have hown := g2.mono hlB
      have hP0 : 0 < P := by omega
      exact ⟨u7, .agg #[.slice eo e1 e2, .slice to_ t1 t2], .int .i64 (r : Int), u27, .slice (some ⟨M, 0, none⟩) P P, v', rfl, hB2, .inl ⟨by rw [getD_set_ne false (by decide)]; exact h6, fun e0 => h0 (lset_ne (by decide) e0), fun e1 => h1 (lset_ne (by decide) e1), fun e2 => h2 (lset_ne (by decide) e2), fun _ e4 => (by rw [lset_eq hs9 (by decide)] at e4; cases e4), fun _ => ⟨t, g1.congr (fun x => by simp), hown, Nat.le_trans (Nat.le_add_right _ _) (Nat.le_trans g5 (cntF_le _ _))⟩, fun e5 => (by obtain ⟨D, hD, hD1, hD2⟩ := h5 (lset_ne (by decide) e5); exact ⟨D, hD, hD1, (g4.block D (Array.getElem?_eq_some_iff.1 hD2).1 (fun e => by have q1 := hM2.mc 0 hP0; rw [← e, cell_of_row _ _ 0 _ _ (0, 0) hD2] at q1; cases q1)).trans hD2⟩)⟩⟩
    · have ho' : some _ = some o := ho
      cases ho'
      have hbw : Below w.heap.size w (w.alloc (Obj.cells #[nilS] 51)) := (Below.refl _ _).alloc (Nat.le_refl _) _
      unfold ordAct; go_simp
      exact ⟨.pointer (some ⟨w.heap.size, 0, none⟩), u25, u26, u27, u28, u29, rfl, Below.chain hB hbw, .inl ⟨by rw [getD_set_ne false (by decide)]; exact h6, fun e0 => h0 (lset_ne (by decide) e0), fun e1 => h1 (lset_ne (by decide) e1), fun e2 => h2 (lset_ne (by decide) e2), fun e3 e4 => (h3 (lset_ne (by decide) e3) (by rw [getD_set_ne false (by decide)] at e4; exact e4)).below hbw, fun e4 => (h4 (lset_ne (by decide) e4)).below hbw, fun _ => ⟨w.heap.size, rfl, hlB, heap_alloc_last w _⟩⟩⟩
    · have ho' : some _ = some o := ho
      cases ho'
      have d0 := hd { on := 0, ground := .phase } (by simp) rfl
      have d1 := hd { on := 1, ground := .phase } (by simp) rfl
      have d2 := hd { on := 2, ground := .phase } (by simp) rfl
      have d3 := hd { on := 3, ground := .phase } (by simp) rfl
      have d4 := hd { on := 4, ground := .phase } (by simp) rfl
      have d5 := hd { on := 5, ground := .phase } (by simp) rfl
      obtain ⟨D, hu, hD1, hD2⟩ := h5 d5
      obtain ⟨t, ht1, ht2, ht3⟩ := h4 d4
      obtain ⟨vo, vc, hve, -, -, -⟩ := ht2.slice
      subst hu hve
      have f0 : w.frozen? ⟨D, 0, none⟩ = false := frozen_of_row _ _ 0 _ _ hD2
      have k0 : w.cell? ⟨D, 0, none⟩ = some nilS := by rw [cell_of_row _ _ 0 _ _ (0, 0) hD2]; rfl
      have hb2 : But (fun k => k = D) w (w.setCell ⟨D, 0, none⟩ (.slice vo (t.map fun (n : Nat) => (n : Int)).length vc)) := (But.refl _ w).set _ _ (fun _ => rfl)
      have D3 : (w.setCell ⟨D, 0, none⟩ (.slice vo (t.map fun (n : Nat) => (n : Int)).length vc)).heap[D]? = some (.cells #[(.slice vo (t.map fun (n : Nat) => (n : Int)).length vc)] 51 (0, 0)) := heap_setCell_same w D 0 _ _ _ hD2
      have B3 : Below W0.heap.size W0 (w.setCell ⟨D, 0, none⟩ (.slice vo (t.map fun (n : Nat) => (n : Int)).length vc)) := hB.trans ⟨rfl, rfl, rfl, by simp, fun k hk => hb2.block k (by omega) (by omega)⟩
      have O3 := ht2.but hb2 (fun b e1 e2 => by have hg := ownI.int ht2 e1; rw [e2, hD2] at hg; obtain ⟨cs, hg⟩ := hg; injection hg with q1; injection q1 with _ q2 _; exact absurd q2 (by decide))
      have hln : (t.map fun (n : Nat) => (n : Int)).length = t.length := by simp
      rw [hln] at D3 B3 O3
      unfold ordAct; go_simp
      refine ⟨_, _, _, _, _, _, rfl, B3, .inr ⟨fun j hj => ?_, ⟨D, rfl, hD1, D3⟩, t, ht1, O3, ht3⟩⟩
      by_cases e8 : 6 = j
      · subst e8; exact lset_eq hs9 (by decide)
      · rw [getD_set_ne false e8]
        rcases (show j = 0 ∨ j = 1 ∨ j = 2 ∨ j = 3 ∨ j = 4 ∨ j = 5 by omega) with rfl | rfl | rfl | rfl | rfl | rfl <;> assumption
  · rintro listed a w ⟨u7, u25, u26, u27, u28, u29, rfl, hB, hcase⟩ hall
    rcases hcase with ⟨h8, -⟩ | ⟨-, g1, g2⟩
    · have := hall 6 (by decide); rw [h8] at this; cases this
    · exact hQ _ _ _ _ _ _ w hB g1 g2
end Go.Proofs.Ytjjkabgbcflipaa
