import Derived.Test.YtjjkabgbcflipaaCv25
set_option linter.unusedSimpArgs false
set_option linter.unusedVariables false
namespace Go.Proofs.Ytjjkabgbcflipaa
open Go Go.Proofs Go.RowKit Go.Shelf GM

/-- A list of rows of Bools that is one's own. -/
structure RbAt (lo : Nat) (W : World) (v : Value) (rs : List Nat) (P : Nat) (f : Nat → Nat → Bool) : Prop where
  own : W.ownsRow lo 33 1 v rs.length (rs.map fun r => .slice (some ⟨r, 0, none⟩) P P)
  row : ∀ k, k < rs.length → MkAt W (rs.getD k 0) P (f k)
  ap : ∀ r ∈ rs, v.ownBlock ≠ some r
theorem RbAt.nil {lo P : Nat} {W : World} {f : Nat → Nat → Bool} : RbAt lo W (.slice none 0 0) [] P f := ⟨World.ownsRow_nil .., by simp, by simp⟩
theorem RbAt.but {S : Nat → Prop} {lo P : Nat} {W W' : World} {v : Value} {rs : List Nat} {f : Nat → Nat → Bool} (h : RbAt lo W v rs P f) (hb : But S W W') (h1 : ∀ b, v.ownBlock = some b → ¬ S b) (h2 : ∀ k, k < rs.length → ¬ S (rs.getD k 0)) : RbAt lo W' v rs P f :=
  ⟨ownsRow_but h.own hb h1, fun k hk => (h.row k hk).but hb (h2 k hk), h.ap⟩
theorem RbAt.below {lo P : Nat} {W W' : World} {v : Value} {rs : List Nat} {f : Nat → Nat → Bool} (h : RbAt lo W v rs P f) (hb : Below W.heap.size W W') : RbAt lo W' v rs P f := h.but (S := fun _ => False) (But.of_below hb) (fun _ _ => id) (fun _ _ => id)
theorem RbAt.get {lo P : Nat} {W : World} {v : Value} {rs : List Nat} {f : Nat → Nat → Bool} (h : RbAt lo W v rs P f) (h0 : 0 < rs.length) : ∃ g c, v = .slice (some ⟨g, 0, none⟩) rs.length c ∧ g < W.heap.size ∧ ∀ k, k < rs.length → W.cell? ⟨g, k, none⟩ = some (.slice (some ⟨rs.getD k 0, 0, none⟩) P P) := by
  rcases id h.own.2 with ⟨e, hz⟩ | ⟨g, cap, cur, e, hlo, hg, -⟩
  · omega
  · subst e
    refine ⟨g, cap, rfl, (Array.getElem?_eq_some_iff.1 hg).1, fun k hk => ?_⟩
    rw [h.own.cellAt k (by omega), List.getElem?_map, List.getElem?_eq_getElem hk, List.getD_eq_getElem?_getD, List.getElem?_eq_getElem hk]
    rfl
theorem RbAt.slice {lo P : Nat} {W : World} {v : Value} {rs : List Nat} {f : Nat → Nat → Bool} (h : RbAt lo W v rs P f) : ∃ ao c, v = .slice ao rs.length c := by
  rcases id h.own.2 with ⟨e, hz⟩ | ⟨g, cap, cur, e, -⟩
  · exact ⟨none, 0, by rw [e, hz]⟩
  · exact ⟨_, cap, e⟩
theorem infoRowB2 : (Try.prog.info? 33).map (fun i => (i.zero, i.size, i.bytes)) = some (some nilS, 1, 24) := by kernel_rfl
theorem wpList_pushRb {lo P r : Nat} {W : World} {v : Value} {rs : List Nat} {f : Nat → Nat → Bool} {ops : Array Oper} {rest : List Oper} {o : Oper} {a : Act} {Q : Exit → Act → World → Prop}
    (hg : o.guard = none) (s x : Operand) (hop : o.op = Op.call { callee := Callee.builtin Builtin.append, args := #[s, x], argTypes := #[116, 116] })
    (hs : a.eval s = v) (hown : RbAt lo W v rs P f) (hp : MkAt W r P (f rs.length)) (hap : v.ownBlock ≠ some r) (hl : rs.length ≤ 100000) (hbase : lo ≤ W.heap.size)
    (ad : Nat) (hx : a.eval x = .slice (some ⟨ad, 0, none⟩) 1 1) (hc0 : W.cell? ⟨ad, 0, none⟩ = some (.slice (some ⟨r, 0, none⟩) P P))
    (hK : ∀ (g cap n : Nat) (w9 : World), n = rs.length + 1 → RbAt lo w9 (.slice (some ⟨g, 0, none⟩) n cap) (rs ++ [r]) P f → W.grownBy w9 v.ownBlock → wpList Try.prog ops Q rest (a.put o.dst (.slice (some ⟨g, 0, none⟩) n cap)) w9) :
    wpList Try.prog ops Q (o :: rest) a W := by
  obtain ⟨i0, hi, hz0, hz1, hz2⟩ := info_parts infoRowB2
  refine wpList_append_lies W hg s x 116 hop lo 33 i0 nilS 1 24 Try.underlying116 hi hz0 hz1 hz2 rfl (by decide) v rs.length (rs.map fun r => .slice (some ⟨r, 0, none⟩) P P) hs hown.own ⟨ad, 0, none⟩ 1 1 [.slice (some ⟨r, 0, none⟩) P P] hx rfl ?_ (by intro u hu; rw [List.mem_singleton] at hu; rw [hu]; rfl) (by decide) (by unfold maxLen; omega) (by omega) hbase _ rfl ?_
  · intro j u hu
    match j, hu with
    | 0, hu => simp at hu; subst hu; rw [addr_zero]; exact hc0
  · intro g cap w9 hown9 hgrow hgg hg9
    have hb := But.of_grown (S := fun b => v.ownBlock = some b) hgrow (fun _ e => e)
    refine hK g cap _ w9 rfl ⟨?_, fun k hk => ?_, fun q hq e => ?_⟩ hgrow
    · rw [List.length_append, List.map_append]
      exact hown9
    · rw [List.length_append, List.length_singleton] at hk
      by_cases hkl : k < rs.length
      · rw [show (rs ++ [r]).getD k 0 = rs.getD k 0 by rw [List.getD_eq_getElem?_getD, List.getD_eq_getElem?_getD, List.getElem?_append_left hkl]]
        exact (hown.row k hkl).but hb (fun e => hown.ap _ (by rw [List.getD_eq_getElem?_getD, List.getElem?_eq_getElem hkl]; exact List.getElem_mem hkl) e)
      · obtain rfl : k = rs.length := by omega
        rw [show (rs ++ [r]).getD rs.length 0 = r by rw [List.getD_eq_getElem?_getD, List.getElem?_append_right (Nat.le_refl _)]; simp]
        exact hp.but hb hap
    · have e : g = q := by simpa [Value.ownBlock] using e
      have hqv : v.ownBlock ≠ some q ∧ q < W.heap.size := by
        rcases List.mem_append.1 hq with hq | hq
        · obtain ⟨k, hk, rfl⟩ := List.getElem_of_mem hq
          have := (hown.row k hk).lt
          rw [List.getD_eq_getElem?_getD, List.getElem?_eq_getElem hk] at this
          exact ⟨hown.ap _ hq, this⟩
        · rw [List.mem_singleton] at hq
          subst hq
          exact ⟨hap, hp.lt⟩
      rcases hgg with h | h
      · exact hqv.1 (by rw [h, e])
      · omega
def eaAct (tb tc P p eb : Nat) (q0 q2 q4 q5 q6 q7 q8 q9 q12 q13 q14 q15 q16 q17 q18 q19 q20 q21 q22 q23 q42 q43 q44 q45 q46 q47 q48 q49 q50 q51 q52 q53 q54 q55 q56 q57 q58 q59 q60 q61 q62 q63 q64 q65 q66 q67 q68 q69 q70 q71 u11 u24 u25 u26 u27 u28 u29 u30 u31 u32 u33 u34 u35 u36 u37 u38 u39 u40 u41 : Value) : Act :=
  { tmps := #[q0, .slice (some ⟨tb, 0, none⟩) P tc, q2, .int .i64 (p : Int), q4, q5, q6, q7, q8, q9, .pointer (some ⟨eb, 0, none⟩), u11, q12, q13, q14, q15, q16, q17, q18, q19, q20, q21, q22, q23, u24, u25, u26, u27, u28, u29, u30, u31, u32, u33, u34, u35, u36, u37, u38, u39, u40, u41, q42, q43, q44, q45, q46, q47, q48, q49, q50, q51, q52, q53, q54, q55, q56, q57, q58, q59, q60, q61, q62, q63, q64, q65, q66, q67, q68, q69, q70, q71], defers := [] }
def eaI (tb tc P p eb f rp rf : Nat) (a1 a2 : Bool) (q0 q2 q4 q5 q6 q7 q8 q9 q12 q13 q14 q15 q16 q17 q18 q19 q20 q21 q22 q23 q42 q43 q44 q45 q46 q47 q48 q49 q50 q51 q52 q53 q54 q55 q56 q57 q58 q59 q60 q61 q62 q63 q64 q65 q66 q67 q68 q69 q70 q71 : Value) (W0 : World) (listed : Array Bool) (a : Act) (w : World) : Prop :=
  ∃ u11 u24 u25 u26 u27 u28 u29 u30 u31 u32 u33 u34 u35 u36 u37 u38 u39 u40 u41, a = eaAct tb tc P p eb q0 q2 q4 q5 q6 q7 q8 q9 q12 q13 q14 q15 q16 q17 q18 q19 q20 q21 q22 q23 q42 q43 q44 q45 q46 q47 q48 q49 q50 q51 q52 q53 q54 q55 q56 q57 q58 q59 q60 q61 q62 q63 q64 q65 q66 q67 q68 q69 q70 q71 u11 u24 u25 u26 u27 u28 u29 u30 u31 u32 u33 u34 u35 u36 u37 u38 u39 u40 u41 ∧ Below W0.heap.size W0 w ∧
    (listed.getD 0 false = true → u24 = .slice (some ⟨tb, 0, none⟩) P tc) ∧
    (listed.getD 1 false = true → u25 = .int .i64 (p : Int)) ∧
    (listed.getD 2 false = true → u26 = .pointer (some ⟨tb, p, none⟩)) ∧
    (listed.getD 3 false = true → u27 = .slice (some ⟨rp, 0, none⟩) P P) ∧
    (listed.getD 4 false = true → u28 = .pointer (some ⟨eb, 0, none⟩)) ∧
    (listed.getD 5 false = true → u29 = .int .i64 (f : Int)) ∧
    (listed.getD 6 false = true → u30 = .pointer (some ⟨rp, f, none⟩)) ∧
    (listed.getD 7 false = true → u31 = .bool a1) ∧
    (listed.getD 8 false = true → u32 = .bool a1) ∧
    (listed.getD 9 false = true → a1 = true → u33 = .slice (some ⟨tb, 0, none⟩) P tc) ∧
    (listed.getD 10 false = true → a1 = true → u34 = .pointer (some ⟨eb, 0, none⟩)) ∧
    (listed.getD 11 false = true → a1 = true → u35 = .int .i64 (f : Int)) ∧
    (listed.getD 12 false = true → a1 = true → u36 = .pointer (some ⟨tb, f, none⟩)) ∧
    (listed.getD 13 false = true → a1 = true → u37 = .slice (some ⟨rf, 0, none⟩) P P) ∧
    (listed.getD 14 false = true → a1 = true → u38 = .int .i64 (p : Int)) ∧
    (listed.getD 15 false = true → a1 = true → u39 = .pointer (some ⟨rf, p, none⟩)) ∧
    (listed.getD 16 false = true → a1 = true → u40 = .bool a2) ∧
    (listed.getD 17 false = true → u41 = .bool (a1 && a2)) ∧
    (listed.getD 18 false = true → u11 = .bool (a1 && a2))
set_option maxRecDepth 20000 in
set_option maxHeartbeats 4000000 in
theorem ea_region (tb tc P p eb f rp rf : Nat) (a1 a2 : Bool) (q0 q2 q4 q5 q6 q7 q8 q9 q12 q13 q14 q15 q16 q17 q18 q19 q20 q21 q22 q23 q42 q43 q44 q45 q46 q47 q48 q49 q50 q51 q52 q53 q54 q55 q56 q57 q58 q59 q60 q61 q62 q63 q64 q65 q66 q67 q68 q69 q70 q71 : Value) (W0 : World) (i11 i24 i25 i26 i27 i28 i29 i30 i31 i32 i33 i34 i35 i36 i37 i38 i39 i40 i41 : Value) (hp : p < P) (hf : f < P) (hP : P ≤ 1000) (ht : tb < W0.heap.size) (he : eb < W0.heap.size) (hrp : rp < W0.heap.size) (hrf : rf < W0.heap.size) (htp : W0.cell? ⟨tb, p, none⟩ = some (.slice (some ⟨rp, 0, none⟩) P P)) (htf : W0.cell? ⟨tb, f, none⟩ = some (.slice (some ⟨rf, 0, none⟩) P P)) (hef : W0.cell? ⟨eb, 0, none⟩ = some (.int .i64 (f : Int))) (hc1 : W0.cell? ⟨rp, f, none⟩ = some (.bool a1)) (hc2 : W0.cell? ⟨rf, p, none⟩ = some (.bool a2)) {Q : Exit → Act → World → Prop}
    (hQ : ∀ u11 u24 u25 u26 u27 u28 u29 u30 u31 u32 u33 u34 u35 u36 u37 u38 u39 u40 u41 w, Below W0.heap.size W0 w → (u24 = .slice (some ⟨tb, 0, none⟩) P tc) → (u25 = .int .i64 (p : Int)) → (u26 = .pointer (some ⟨tb, p, none⟩)) → (u27 = .slice (some ⟨rp, 0, none⟩) P P) → (u28 = .pointer (some ⟨eb, 0, none⟩)) → (u29 = .int .i64 (f : Int)) → (u30 = .pointer (some ⟨rp, f, none⟩)) → (u31 = .bool a1) → (u32 = .bool a1) → (a1 = true → u33 = .slice (some ⟨tb, 0, none⟩) P tc) → (a1 = true → u34 = .pointer (some ⟨eb, 0, none⟩)) → (a1 = true → u35 = .int .i64 (f : Int)) → (a1 = true → u36 = .pointer (some ⟨tb, f, none⟩)) → (a1 = true → u37 = .slice (some ⟨rf, 0, none⟩) P P) → (a1 = true → u38 = .int .i64 (p : Int)) → (a1 = true → u39 = .pointer (some ⟨rf, p, none⟩)) → (a1 = true → u40 = .bool a2) → (u41 = .bool (a1 && a2)) → (u11 = .bool (a1 && a2)) → Q .normal (eaAct tb tc P p eb q0 q2 q4 q5 q6 q7 q8 q9 q12 q13 q14 q15 q16 q17 q18 q19 q20 q21 q22 q23 q42 q43 q44 q45 q46 q47 q48 q49 q50 q51 q52 q53 q54 q55 q56 q57 q58 q59 q60 q61 q62 q63 q64 q65 q66 q67 q68 q69 q70 q71 u11 u24 u25 u26 u27 u28 u29 u30 u31 u32 u33 u34 u35 u36 u37 u38 u39 u40 u41) w) :
    (Code.region 5 #[{ dst := some 24, op := Op.move (Operand.tmp 1), type := 116, pos := "ref.go:99", after := #[], guard := none }, { dst := some 25, op := Op.move (Operand.tmp 3), type := 3, pos := "ref.go:99", after := #[], guard := none }, { dst := some 26, op := Op.indexAddr 116 (Operand.tmp 24) (Operand.tmp 25), type := 0, pos := "ref.go:99", after := #[{ on := 0, ground := Ground.data }, { on := 1, ground := Ground.data }], guard := none }, { dst := some 27, op := Op.load 33 (Operand.tmp 26), type := 33, pos := "ref.go:99", after := #[{ on := 2, ground := Ground.data }], guard := none }, { dst := some 28, op := Op.fieldAddr 55 (Operand.tmp 10) 0, type := 0, pos := "ref.go:99", after := #[], guard := none }, { dst := some 29, op := Op.load 3 (Operand.tmp 28), type := 3, pos := "ref.go:99", after := #[{ on := 4, ground := Ground.data }], guard := none }, { dst := some 30, op := Op.indexAddr 33 (Operand.tmp 27) (Operand.tmp 29), type := 0, pos := "ref.go:99", after := #[{ on := 3, ground := Ground.data }, { on := 5, ground := Ground.data }], guard := none }, { dst := some 31, op := Op.load 4 (Operand.tmp 30), type := 4, pos := "ref.go:99", after := #[{ on := 6, ground := Ground.data }], guard := none }, { dst := some 32, op := Op.move (Operand.tmp 31), type := 4, pos := "ref.go:99", after := #[{ on := 7, ground := Ground.data }], guard := none }, { dst := some 33, op := Op.move (Operand.tmp 1), type := 116, pos := "ref.go:99", after := #[{ on := 8, ground := Ground.guard }], guard := some (8, true) }, { dst := some 34, op := Op.fieldAddr 55 (Operand.tmp 10) 0, type := 0, pos := "ref.go:99", after := #[{ on := 8, ground := Ground.guard }], guard := some (8, true) }, { dst := some 35, op := Op.load 3 (Operand.tmp 34), type := 3, pos := "ref.go:99", after := #[{ on := 10, ground := Ground.data }, { on := 8, ground := Ground.guard }], guard := some (8, true) }, { dst := some 36, op := Op.indexAddr 116 (Operand.tmp 33) (Operand.tmp 35), type := 0, pos := "ref.go:99", after := #[{ on := 9, ground := Ground.data }, { on := 11, ground := Ground.data }, { on := 8, ground := Ground.guard }], guard := some (8, true) }, { dst := some 37, op := Op.load 33 (Operand.tmp 36), type := 33, pos := "ref.go:99", after := #[{ on := 12, ground := Ground.data }, { on := 8, ground := Ground.guard }], guard := some (8, true) }, { dst := some 38, op := Op.move (Operand.tmp 3), type := 3, pos := "ref.go:99", after := #[{ on := 8, ground := Ground.guard }], guard := some (8, true) }, { dst := some 39, op := Op.indexAddr 33 (Operand.tmp 37) (Operand.tmp 38), type := 0, pos := "ref.go:99", after := #[{ on := 13, ground := Ground.data }, { on := 14, ground := Ground.data }, { on := 8, ground := Ground.guard }], guard := some (8, true) }, { dst := some 40, op := Op.load 4 (Operand.tmp 39), type := 4, pos := "ref.go:99", after := #[{ on := 15, ground := Ground.data }, { on := 8, ground := Ground.guard }], guard := some (8, true) }, { dst := some 41, op := Op.pick (Operand.tmp 32) (Operand.tmp 40) (Operand.const (Value.bool false)), type := 4, pos := "ref.go:99", after := #[{ on := 8, ground := Ground.data }, { on := 16, ground := Ground.data }], guard := none }, { dst := some 11, op := Op.assign (Operand.tmp 41), type := 4, pos := "ref.go:99", after := #[{ on := 17, ground := Ground.data }, { on := 8, ground := Ground.chain }, { on := 0, ground := Ground.phase }, { on := 1, ground := Ground.phase }, { on := 2, ground := Ground.phase }, { on := 3, ground := Ground.phase }, { on := 4, ground := Ground.phase }, { on := 5, ground := Ground.phase }, { on := 6, ground := Ground.phase }, { on := 7, ground := Ground.phase }, { on := 8, ground := Ground.phase }, { on := 9, ground := Ground.phase }, { on := 10, ground := Ground.phase }, { on := 11, ground := Ground.phase }, { on := 12, ground := Ground.phase }, { on := 13, ground := Ground.phase }, { on := 14, ground := Ground.phase }, { on := 15, ground := Ground.phase }, { on := 16, ground := Ground.phase }, { on := 17, ground := Ground.phase }], guard := none }] true).wp Try.prog Q (eaAct tb tc P p eb q0 q2 q4 q5 q6 q7 q8 q9 q12 q13 q14 q15 q16 q17 q18 q19 q20 q21 q22 q23 q42 q43 q44 q45 q46 q47 q48 q49 q50 q51 q52 q53 q54 q55 q56 q57 q58 q59 q60 q61 q62 q63 q64 q65 q66 q67 q68 q69 q70 q71 (i11) (i24) (i25) (i26) (i27) (i28) (i29) (i30) (i31) (i32) (i33) (i34) (i35) (i36) (i37) (i38) (i39) (i40) (i41)) W0 := by
  refine wp_region_inv (by kernel_rfl) (by kernel_rfl) (eaI tb tc P p eb f rp rf a1 a2 q0 q2 q4 q5 q6 q7 q8 q9 q12 q13 q14 q15 q16 q17 q18 q19 q20 q21 q22 q23 q42 q43 q44 q45 q46 q47 q48 q49 q50 q51 q52 q53 q54 q55 q56 q57 q58 q59 q60 q61 q62 q63 q64 q65 q66 q67 q68 q69 q70 q71 W0) ?_ ?_ ?_
  · refine ⟨_, _, _, _, _, _, _, _, _, _, _, _, _, _, _, _, _, _, _, rfl, (Below.refl _ _).drew, ?_, ?_, ?_, ?_, ?_, ?_, ?_, ?_, ?_, ?_, ?_, ?_, ?_, ?_, ?_, ?_, ?_, ?_, ?_⟩ <;> (intro e; simp at e)
  · intro listed a w i o hI hs ho hl hd
    have hi9 : i < 19 := (Array.getElem?_eq_some_iff.1 ho).1
    obtain ⟨u11, u24, u25, u26, u27, u28, u29, u30, u31, u32, u33, u34, u35, u36, u37, u38, u39, u40, u41, rfl, hB, h0, h1, h2, h3, h4, h5, h6, h7, h8, h9, h10, h11, h12, h13, h14, h15, h16, h17, h18⟩ := hI
    have hlB := hB.size
    rcases (show i = 0 ∨ i = 1 ∨ i = 2 ∨ i = 3 ∨ i = 4 ∨ i = 5 ∨ i = 6 ∨ i = 7 ∨ i = 8 ∨ i = 9 ∨ i = 10 ∨ i = 11 ∨ i = 12 ∨ i = 13 ∨ i = 14 ∨ i = 15 ∨ i = 16 ∨ i = 17 ∨ i = 18 by omega) with rfl | rfl | rfl | rfl | rfl | rfl | rfl | rfl | rfl | rfl | rfl | rfl | rfl | rfl | rfl | rfl | rfl | rfl | rfl
    · have ho' : some _ = some o := ho
      cases ho'
      have hbw : Below w.heap.size w w := Below.refl _ _
      unfold eaAct; go_simp
      exact ⟨u11, .slice (some ⟨tb, 0, none⟩) P tc, u25, u26, u27, u28, u29, u30, u31, u32, u33, u34, u35, u36, u37, u38, u39, u40, u41, rfl, hB, fun _ => rfl, fun e1 => h1 (lset_ne (by decide) e1), fun e2 => h2 (lset_ne (by decide) e2), fun e3 => h3 (lset_ne (by decide) e3), fun e4 => h4 (lset_ne (by decide) e4), fun e5 => h5 (lset_ne (by decide) e5), fun e6 => h6 (lset_ne (by decide) e6), fun e7 => h7 (lset_ne (by decide) e7), fun e8 => h8 (lset_ne (by decide) e8), fun e9 => h9 (lset_ne (by decide) e9), fun e10 => h10 (lset_ne (by decide) e10), fun e11 => h11 (lset_ne (by decide) e11), fun e12 => h12 (lset_ne (by decide) e12), fun e13 => h13 (lset_ne (by decide) e13), fun e14 => h14 (lset_ne (by decide) e14), fun e15 => h15 (lset_ne (by decide) e15), fun e16 => h16 (lset_ne (by decide) e16), fun e17 => h17 (lset_ne (by decide) e17), fun e18 => h18 (lset_ne (by decide) e18)⟩
    · have ho' : some _ = some o := ho
      cases ho'
      have hbw : Below w.heap.size w w := Below.refl _ _
      unfold eaAct; go_simp
      exact ⟨u11, u24, .int .i64 (p : Int), u26, u27, u28, u29, u30, u31, u32, u33, u34, u35, u36, u37, u38, u39, u40, u41, rfl, hB, fun e0 => h0 (lset_ne (by decide) e0), fun _ => rfl, fun e2 => h2 (lset_ne (by decide) e2), fun e3 => h3 (lset_ne (by decide) e3), fun e4 => h4 (lset_ne (by decide) e4), fun e5 => h5 (lset_ne (by decide) e5), fun e6 => h6 (lset_ne (by decide) e6), fun e7 => h7 (lset_ne (by decide) e7), fun e8 => h8 (lset_ne (by decide) e8), fun e9 => h9 (lset_ne (by decide) e9), fun e10 => h10 (lset_ne (by decide) e10), fun e11 => h11 (lset_ne (by decide) e11), fun e12 => h12 (lset_ne (by decide) e12), fun e13 => h13 (lset_ne (by decide) e13), fun e14 => h14 (lset_ne (by decide) e14), fun e15 => h15 (lset_ne (by decide) e15), fun e16 => h16 (lset_ne (by decide) e16), fun e17 => h17 (lset_ne (by decide) e17), fun e18 => h18 (lset_ne (by decide) e18)⟩
    · have ho' : some _ = some o := ho
      cases ho'
      have d0 := hd { on := 0, ground := .data } (by simp) rfl
      have d1 := hd { on := 1, ground := .data } (by simp) rfl
      have hbw : Below w.heap.size w w := Below.refl _ _
      have p0 : (0 : Int) ≤ (p : Int) := by omega
      have p1 : (p : Int) < (P : Int) := by omega
      have e0 := h0 d0
      subst e0
      have e1 := h1 d1
      subst e1
      unfold eaAct; go_simp
      exact ⟨u11, .slice (some ⟨tb, 0, none⟩) P tc, .int .i64 (p : Int), .pointer (some ⟨tb, p, none⟩), u27, u28, u29, u30, u31, u32, u33, u34, u35, u36, u37, u38, u39, u40, u41, rfl, hB, fun e0 => h0 (lset_ne (by decide) e0), fun e1 => h1 (lset_ne (by decide) e1), fun _ => rfl, fun e3 => h3 (lset_ne (by decide) e3), fun e4 => h4 (lset_ne (by decide) e4), fun e5 => h5 (lset_ne (by decide) e5), fun e6 => h6 (lset_ne (by decide) e6), fun e7 => h7 (lset_ne (by decide) e7), fun e8 => h8 (lset_ne (by decide) e8), fun e9 => h9 (lset_ne (by decide) e9), fun e10 => h10 (lset_ne (by decide) e10), fun e11 => h11 (lset_ne (by decide) e11), fun e12 => h12 (lset_ne (by decide) e12), fun e13 => h13 (lset_ne (by decide) e13), fun e14 => h14 (lset_ne (by decide) e14), fun e15 => h15 (lset_ne (by decide) e15), fun e16 => h16 (lset_ne (by decide) e16), fun e17 => h17 (lset_ne (by decide) e17), fun e18 => h18 (lset_ne (by decide) e18)⟩
    · have ho' : some _ = some o := ho
      cases ho'
      have d2 := hd { on := 2, ground := .data } (by simp) rfl
      have hbw : Below w.heap.size w w := Below.refl _ _
      have c0 := (hB.cell (p := ⟨tb, p, none⟩) ht).trans htp
      have e2 := h2 d2
      subst e2
      unfold eaAct; go_simp
      exact ⟨u11, u24, u25, .pointer (some ⟨tb, p, none⟩), .slice (some ⟨rp, 0, none⟩) P P, u28, u29, u30, u31, u32, u33, u34, u35, u36, u37, u38, u39, u40, u41, rfl, hB, fun e0 => h0 (lset_ne (by decide) e0), fun e1 => h1 (lset_ne (by decide) e1), fun e2 => h2 (lset_ne (by decide) e2), fun _ => rfl, fun e4 => h4 (lset_ne (by decide) e4), fun e5 => h5 (lset_ne (by decide) e5), fun e6 => h6 (lset_ne (by decide) e6), fun e7 => h7 (lset_ne (by decide) e7), fun e8 => h8 (lset_ne (by decide) e8), fun e9 => h9 (lset_ne (by decide) e9), fun e10 => h10 (lset_ne (by decide) e10), fun e11 => h11 (lset_ne (by decide) e11), fun e12 => h12 (lset_ne (by decide) e12), fun e13 => h13 (lset_ne (by decide) e13), fun e14 => h14 (lset_ne (by decide) e14), fun e15 => h15 (lset_ne (by decide) e15), fun e16 => h16 (lset_ne (by decide) e16), fun e17 => h17 (lset_ne (by decide) e17), fun e18 => h18 (lset_ne (by decide) e18)⟩
    · have ho' : some _ = some o := ho
      cases ho'
      have hbw : Below w.heap.size w w := Below.refl _ _
      unfold eaAct; go_simp
      exact ⟨u11, u24, u25, u26, u27, .pointer (some ⟨eb, 0, none⟩), u29, u30, u31, u32, u33, u34, u35, u36, u37, u38, u39, u40, u41, rfl, hB, fun e0 => h0 (lset_ne (by decide) e0), fun e1 => h1 (lset_ne (by decide) e1), fun e2 => h2 (lset_ne (by decide) e2), fun e3 => h3 (lset_ne (by decide) e3), fun _ => rfl, fun e5 => h5 (lset_ne (by decide) e5), fun e6 => h6 (lset_ne (by decide) e6), fun e7 => h7 (lset_ne (by decide) e7), fun e8 => h8 (lset_ne (by decide) e8), fun e9 => h9 (lset_ne (by decide) e9), fun e10 => h10 (lset_ne (by decide) e10), fun e11 => h11 (lset_ne (by decide) e11), fun e12 => h12 (lset_ne (by decide) e12), fun e13 => h13 (lset_ne (by decide) e13), fun e14 => h14 (lset_ne (by decide) e14), fun e15 => h15 (lset_ne (by decide) e15), fun e16 => h16 (lset_ne (by decide) e16), fun e17 => h17 (lset_ne (by decide) e17), fun e18 => h18 (lset_ne (by decide) e18)⟩
    · have ho' : some _ = some o := ho
      cases ho'
      have d4 := hd { on := 4, ground := .data } (by simp) rfl
      have hbw : Below w.heap.size w w := Below.refl _ _
      have c0 := (hB.cell (p := ⟨eb, 0, none⟩) he).trans hef
      have e4 := h4 d4
      subst e4
      unfold eaAct; go_simp
      exact ⟨u11, u24, u25, u26, u27, .pointer (some ⟨eb, 0, none⟩), .int .i64 (f : Int), u30, u31, u32, u33, u34, u35, u36, u37, u38, u39, u40, u41, rfl, hB, fun e0 => h0 (lset_ne (by decide) e0), fun e1 => h1 (lset_ne (by decide) e1), fun e2 => h2 (lset_ne (by decide) e2), fun e3 => h3 (lset_ne (by decide) e3), fun e4 => h4 (lset_ne (by decide) e4), fun _ => rfl, fun e6 => h6 (lset_ne (by decide) e6), fun e7 => h7 (lset_ne (by decide) e7), fun e8 => h8 (lset_ne (by decide) e8), fun e9 => h9 (lset_ne (by decide) e9), fun e10 => h10 (lset_ne (by decide) e10), fun e11 => h11 (lset_ne (by decide) e11), fun e12 => h12 (lset_ne (by decide) e12), fun e13 => h13 (lset_ne (by decide) e13), fun e14 => h14 (lset_ne (by decide) e14), fun e15 => h15 (lset_ne (by decide) e15), fun e16 => h16 (lset_ne (by decide) e16), fun e17 => h17 (lset_ne (by decide) e17), fun e18 => h18 (lset_ne (by decide) e18)⟩
    · have ho' : some _ = some o := ho
      cases ho'
      have d3 := hd { on := 3, ground := .data } (by simp) rfl
      have d5 := hd { on := 5, ground := .data } (by simp) rfl
      have hbw : Below w.heap.size w w := Below.refl _ _
      have p0 : (0 : Int) ≤ (f : Int) := by omega
      have p1 : (f : Int) < (P : Int) := by omega
      have e3 := h3 d3
      subst e3
      have e5 := h5 d5
      subst e5
      unfold eaAct; go_simp
      exact ⟨u11, u24, u25, u26, .slice (some ⟨rp, 0, none⟩) P P, u28, .int .i64 (f : Int), .pointer (some ⟨rp, f, none⟩), u31, u32, u33, u34, u35, u36, u37, u38, u39, u40, u41, rfl, hB, fun e0 => h0 (lset_ne (by decide) e0), fun e1 => h1 (lset_ne (by decide) e1), fun e2 => h2 (lset_ne (by decide) e2), fun e3 => h3 (lset_ne (by decide) e3), fun e4 => h4 (lset_ne (by decide) e4), fun e5 => h5 (lset_ne (by decide) e5), fun _ => rfl, fun e7 => h7 (lset_ne (by decide) e7), fun e8 => h8 (lset_ne (by decide) e8), fun e9 => h9 (lset_ne (by decide) e9), fun e10 => h10 (lset_ne (by decide) e10), fun e11 => h11 (lset_ne (by decide) e11), fun e12 => h12 (lset_ne (by decide) e12), fun e13 => h13 (lset_ne (by decide) e13), fun e14 => h14 (lset_ne (by decide) e14), fun e15 => h15 (lset_ne (by decide) e15), fun e16 => h16 (lset_ne (by decide) e16), fun e17 => h17 (lset_ne (by decide) e17), fun e18 => h18 (lset_ne (by decide) e18)⟩
    · have ho' : some _ = some o := ho
      cases ho'
      have d6 := hd { on := 6, ground := .data } (by simp) rfl
      have hbw : Below w.heap.size w w := Below.refl _ _
      have c0 := (hB.cell (p := ⟨rp, f, none⟩) hrp).trans hc1
      have e6 := h6 d6
      subst e6
      unfold eaAct; go_simp
      exact ⟨u11, u24, u25, u26, u27, u28, u29, .pointer (some ⟨rp, f, none⟩), .bool a1, u32, u33, u34, u35, u36, u37, u38, u39, u40, u41, rfl, hB, fun e0 => h0 (lset_ne (by decide) e0), fun e1 => h1 (lset_ne (by decide) e1), fun e2 => h2 (lset_ne (by decide) e2), fun e3 => h3 (lset_ne (by decide) e3), fun e4 => h4 (lset_ne (by decide) e4), fun e5 => h5 (lset_ne (by decide) e5), fun e6 => h6 (lset_ne (by decide) e6), fun _ => rfl, fun e8 => h8 (lset_ne (by decide) e8), fun e9 => h9 (lset_ne (by decide) e9), fun e10 => h10 (lset_ne (by decide) e10), fun e11 => h11 (lset_ne (by decide) e11), fun e12 => h12 (lset_ne (by decide) e12), fun e13 => h13 (lset_ne (by decide) e13), fun e14 => h14 (lset_ne (by decide) e14), fun e15 => h15 (lset_ne (by decide) e15), fun e16 => h16 (lset_ne (by decide) e16), fun e17 => h17 (lset_ne (by decide) e17), fun e18 => h18 (lset_ne (by decide) e18)⟩
    · have ho' : some _ = some o := ho
      cases ho'
      have d7 := hd { on := 7, ground := .data } (by simp) rfl
      have hbw : Below w.heap.size w w := Below.refl _ _
      have e7 := h7 d7
      subst e7
      unfold eaAct; go_simp
      exact ⟨u11, u24, u25, u26, u27, u28, u29, u30, .bool a1, .bool a1, u33, u34, u35, u36, u37, u38, u39, u40, u41, rfl, hB, fun e0 => h0 (lset_ne (by decide) e0), fun e1 => h1 (lset_ne (by decide) e1), fun e2 => h2 (lset_ne (by decide) e2), fun e3 => h3 (lset_ne (by decide) e3), fun e4 => h4 (lset_ne (by decide) e4), fun e5 => h5 (lset_ne (by decide) e5), fun e6 => h6 (lset_ne (by decide) e6), fun e7 => h7 (lset_ne (by decide) e7), fun _ => rfl, fun e9 => h9 (lset_ne (by decide) e9), fun e10 => h10 (lset_ne (by decide) e10), fun e11 => h11 (lset_ne (by decide) e11), fun e12 => h12 (lset_ne (by decide) e12), fun e13 => h13 (lset_ne (by decide) e13), fun e14 => h14 (lset_ne (by decide) e14), fun e15 => h15 (lset_ne (by decide) e15), fun e16 => h16 (lset_ne (by decide) e16), fun e17 => h17 (lset_ne (by decide) e17), fun e18 => h18 (lset_ne (by decide) e18)⟩
    · have ho' : some _ = some o := ho
      cases ho'
      have d8 := hd { on := 8, ground := .guard } (by simp) rfl
      have hbw : Below w.heap.size w w := Below.refl _ _
      have eg := h8 d8
      subst eg
      cases a1 with
      | false =>
        unfold eaAct; go_simp
        exact ⟨u11, u24, u25, u26, u27, u28, u29, u30, u31, .bool false, undef, u34, u35, u36, u37, u38, u39, u40, u41, rfl, hB, fun e0 => h0 (lset_ne (by decide) e0), fun e1 => h1 (lset_ne (by decide) e1), fun e2 => h2 (lset_ne (by decide) e2), fun e3 => h3 (lset_ne (by decide) e3), fun e4 => h4 (lset_ne (by decide) e4), fun e5 => h5 (lset_ne (by decide) e5), fun e6 => h6 (lset_ne (by decide) e6), fun e7 => h7 (lset_ne (by decide) e7), fun e8 => h8 (lset_ne (by decide) e8), fun _ e => (by cases e), fun e10 => h10 (lset_ne (by decide) e10), fun e11 => h11 (lset_ne (by decide) e11), fun e12 => h12 (lset_ne (by decide) e12), fun e13 => h13 (lset_ne (by decide) e13), fun e14 => h14 (lset_ne (by decide) e14), fun e15 => h15 (lset_ne (by decide) e15), fun e16 => h16 (lset_ne (by decide) e16), fun e17 => h17 (lset_ne (by decide) e17), fun e18 => h18 (lset_ne (by decide) e18)⟩
      | true =>
        unfold eaAct; go_simp
        exact ⟨u11, u24, u25, u26, u27, u28, u29, u30, u31, .bool true, .slice (some ⟨tb, 0, none⟩) P tc, u34, u35, u36, u37, u38, u39, u40, u41, rfl, hB, fun e0 => h0 (lset_ne (by decide) e0), fun e1 => h1 (lset_ne (by decide) e1), fun e2 => h2 (lset_ne (by decide) e2), fun e3 => h3 (lset_ne (by decide) e3), fun e4 => h4 (lset_ne (by decide) e4), fun e5 => h5 (lset_ne (by decide) e5), fun e6 => h6 (lset_ne (by decide) e6), fun e7 => h7 (lset_ne (by decide) e7), fun e8 => h8 (lset_ne (by decide) e8), fun _ _ => rfl, fun e10 => h10 (lset_ne (by decide) e10), fun e11 => h11 (lset_ne (by decide) e11), fun e12 => h12 (lset_ne (by decide) e12), fun e13 => h13 (lset_ne (by decide) e13), fun e14 => h14 (lset_ne (by decide) e14), fun e15 => h15 (lset_ne (by decide) e15), fun e16 => h16 (lset_ne (by decide) e16), fun e17 => h17 (lset_ne (by decide) e17), fun e18 => h18 (lset_ne (by decide) e18)⟩
    · have ho' : some _ = some o := ho
      cases ho'
      have d8 := hd { on := 8, ground := .guard } (by simp) rfl
      have hbw : Below w.heap.size w w := Below.refl _ _
      have eg := h8 d8
      subst eg
      cases a1 with
      | false =>
        unfold eaAct; go_simp
        exact ⟨u11, u24, u25, u26, u27, u28, u29, u30, u31, .bool false, u33, undef, u35, u36, u37, u38, u39, u40, u41, rfl, hB, fun e0 => h0 (lset_ne (by decide) e0), fun e1 => h1 (lset_ne (by decide) e1), fun e2 => h2 (lset_ne (by decide) e2), fun e3 => h3 (lset_ne (by decide) e3), fun e4 => h4 (lset_ne (by decide) e4), fun e5 => h5 (lset_ne (by decide) e5), fun e6 => h6 (lset_ne (by decide) e6), fun e7 => h7 (lset_ne (by decide) e7), fun e8 => h8 (lset_ne (by decide) e8), fun e9 => h9 (lset_ne (by decide) e9), fun _ e => (by cases e), fun e11 => h11 (lset_ne (by decide) e11), fun e12 => h12 (lset_ne (by decide) e12), fun e13 => h13 (lset_ne (by decide) e13), fun e14 => h14 (lset_ne (by decide) e14), fun e15 => h15 (lset_ne (by decide) e15), fun e16 => h16 (lset_ne (by decide) e16), fun e17 => h17 (lset_ne (by decide) e17), fun e18 => h18 (lset_ne (by decide) e18)⟩
      | true =>
        unfold eaAct; go_simp
        exact ⟨u11, u24, u25, u26, u27, u28, u29, u30, u31, .bool true, u33, .pointer (some ⟨eb, 0, none⟩), u35, u36, u37, u38, u39, u40, u41, rfl, hB, fun e0 => h0 (lset_ne (by decide) e0), fun e1 => h1 (lset_ne (by decide) e1), fun e2 => h2 (lset_ne (by decide) e2), fun e3 => h3 (lset_ne (by decide) e3), fun e4 => h4 (lset_ne (by decide) e4), fun e5 => h5 (lset_ne (by decide) e5), fun e6 => h6 (lset_ne (by decide) e6), fun e7 => h7 (lset_ne (by decide) e7), fun e8 => h8 (lset_ne (by decide) e8), fun e9 => h9 (lset_ne (by decide) e9), fun _ _ => rfl, fun e11 => h11 (lset_ne (by decide) e11), fun e12 => h12 (lset_ne (by decide) e12), fun e13 => h13 (lset_ne (by decide) e13), fun e14 => h14 (lset_ne (by decide) e14), fun e15 => h15 (lset_ne (by decide) e15), fun e16 => h16 (lset_ne (by decide) e16), fun e17 => h17 (lset_ne (by decide) e17), fun e18 => h18 (lset_ne (by decide) e18)⟩
    · have ho' : some _ = some o := ho
      cases ho'
      have d10 := hd { on := 10, ground := .data } (by simp) rfl
      have d8 := hd { on := 8, ground := .guard } (by simp) rfl
      have hbw : Below w.heap.size w w := Below.refl _ _
      have c0 := (hB.cell (p := ⟨eb, 0, none⟩) he).trans hef
      have eg := h8 d8
      subst eg
      cases a1 with
      | false =>
        unfold eaAct; go_simp
        exact ⟨u11, u24, u25, u26, u27, u28, u29, u30, u31, .bool false, u33, u34, undef, u36, u37, u38, u39, u40, u41, rfl, hB, fun e0 => h0 (lset_ne (by decide) e0), fun e1 => h1 (lset_ne (by decide) e1), fun e2 => h2 (lset_ne (by decide) e2), fun e3 => h3 (lset_ne (by decide) e3), fun e4 => h4 (lset_ne (by decide) e4), fun e5 => h5 (lset_ne (by decide) e5), fun e6 => h6 (lset_ne (by decide) e6), fun e7 => h7 (lset_ne (by decide) e7), fun e8 => h8 (lset_ne (by decide) e8), fun e9 => h9 (lset_ne (by decide) e9), fun e10 => h10 (lset_ne (by decide) e10), fun _ e => (by cases e), fun e12 => h12 (lset_ne (by decide) e12), fun e13 => h13 (lset_ne (by decide) e13), fun e14 => h14 (lset_ne (by decide) e14), fun e15 => h15 (lset_ne (by decide) e15), fun e16 => h16 (lset_ne (by decide) e16), fun e17 => h17 (lset_ne (by decide) e17), fun e18 => h18 (lset_ne (by decide) e18)⟩
      | true =>
        have e10 := h10 d10 rfl
        subst e10
        unfold eaAct; go_simp
        exact ⟨u11, u24, u25, u26, u27, u28, u29, u30, u31, .bool true, u33, .pointer (some ⟨eb, 0, none⟩), .int .i64 (f : Int), u36, u37, u38, u39, u40, u41, rfl, hB, fun e0 => h0 (lset_ne (by decide) e0), fun e1 => h1 (lset_ne (by decide) e1), fun e2 => h2 (lset_ne (by decide) e2), fun e3 => h3 (lset_ne (by decide) e3), fun e4 => h4 (lset_ne (by decide) e4), fun e5 => h5 (lset_ne (by decide) e5), fun e6 => h6 (lset_ne (by decide) e6), fun e7 => h7 (lset_ne (by decide) e7), fun e8 => h8 (lset_ne (by decide) e8), fun e9 => h9 (lset_ne (by decide) e9), fun e10 => h10 (lset_ne (by decide) e10), fun _ _ => rfl, fun e12 => h12 (lset_ne (by decide) e12), fun e13 => h13 (lset_ne (by decide) e13), fun e14 => h14 (lset_ne (by decide) e14), fun e15 => h15 (lset_ne (by decide) e15), fun e16 => h16 (lset_ne (by decide) e16), fun e17 => h17 (lset_ne (by decide) e17), fun e18 => h18 (lset_ne (by decide) e18)⟩
    · have ho' : some _ = some o := ho
      cases ho'
      have d9 := hd { on := 9, ground := .data } (by simp) rfl
      have d11 := hd { on := 11, ground := .data } (by simp) rfl
      have d8 := hd { on := 8, ground := .guard } (by simp) rfl
      have hbw : Below w.heap.size w w := Below.refl _ _
      have p0 : (0 : Int) ≤ (f : Int) := by omega
      have p1 : (f : Int) < (P : Int) := by omega
      have eg := h8 d8
      subst eg
      cases a1 with
      | false =>
        unfold eaAct; go_simp
        exact ⟨u11, u24, u25, u26, u27, u28, u29, u30, u31, .bool false, u33, u34, u35, undef, u37, u38, u39, u40, u41, rfl, hB, fun e0 => h0 (lset_ne (by decide) e0), fun e1 => h1 (lset_ne (by decide) e1), fun e2 => h2 (lset_ne (by decide) e2), fun e3 => h3 (lset_ne (by decide) e3), fun e4 => h4 (lset_ne (by decide) e4), fun e5 => h5 (lset_ne (by decide) e5), fun e6 => h6 (lset_ne (by decide) e6), fun e7 => h7 (lset_ne (by decide) e7), fun e8 => h8 (lset_ne (by decide) e8), fun e9 => h9 (lset_ne (by decide) e9), fun e10 => h10 (lset_ne (by decide) e10), fun e11 => h11 (lset_ne (by decide) e11), fun _ e => (by cases e), fun e13 => h13 (lset_ne (by decide) e13), fun e14 => h14 (lset_ne (by decide) e14), fun e15 => h15 (lset_ne (by decide) e15), fun e16 => h16 (lset_ne (by decide) e16), fun e17 => h17 (lset_ne (by decide) e17), fun e18 => h18 (lset_ne (by decide) e18)⟩
      | true =>
        have e9 := h9 d9 rfl
        subst e9
        have e11 := h11 d11 rfl
        subst e11
        unfold eaAct; go_simp
        exact ⟨u11, u24, u25, u26, u27, u28, u29, u30, u31, .bool true, .slice (some ⟨tb, 0, none⟩) P tc, u34, .int .i64 (f : Int), .pointer (some ⟨tb, f, none⟩), u37, u38, u39, u40, u41, rfl, hB, fun e0 => h0 (lset_ne (by decide) e0), fun e1 => h1 (lset_ne (by decide) e1), fun e2 => h2 (lset_ne (by decide) e2), fun e3 => h3 (lset_ne (by decide) e3), fun e4 => h4 (lset_ne (by decide) e4), fun e5 => h5 (lset_ne (by decide) e5), fun e6 => h6 (lset_ne (by decide) e6), fun e7 => h7 (lset_ne (by decide) e7), fun e8 => h8 (lset_ne (by decide) e8), fun e9 => h9 (lset_ne (by decide) e9), fun e10 => h10 (lset_ne (by decide) e10), fun e11 => h11 (lset_ne (by decide) e11), fun _ _ => rfl, fun e13 => h13 (lset_ne (by decide) e13), fun e14 => h14 (lset_ne (by decide) e14), fun e15 => h15 (lset_ne (by decide) e15), fun e16 => h16 (lset_ne (by decide) e16), fun e17 => h17 (lset_ne (by decide) e17), fun e18 => h18 (lset_ne (by decide) e18)⟩
    · have ho' : some _ = some o := ho
      cases ho'
      have d12 := hd { on := 12, ground := .data } (by simp) rfl
      have d8 := hd { on := 8, ground := .guard } (by simp) rfl
      have hbw : Below w.heap.size w w := Below.refl _ _
      have c0 := (hB.cell (p := ⟨tb, f, none⟩) ht).trans htf
      have eg := h8 d8
      subst eg
      cases a1 with
      | false =>
        unfold eaAct; go_simp
        exact ⟨u11, u24, u25, u26, u27, u28, u29, u30, u31, .bool false, u33, u34, u35, u36, undef, u38, u39, u40, u41, rfl, hB, fun e0 => h0 (lset_ne (by decide) e0), fun e1 => h1 (lset_ne (by decide) e1), fun e2 => h2 (lset_ne (by decide) e2), fun e3 => h3 (lset_ne (by decide) e3), fun e4 => h4 (lset_ne (by decide) e4), fun e5 => h5 (lset_ne (by decide) e5), fun e6 => h6 (lset_ne (by decide) e6), fun e7 => h7 (lset_ne (by decide) e7), fun e8 => h8 (lset_ne (by decide) e8), fun e9 => h9 (lset_ne (by decide) e9), fun e10 => h10 (lset_ne (by decide) e10), fun e11 => h11 (lset_ne (by decide) e11), fun e12 => h12 (lset_ne (by decide) e12), fun _ e => (by cases e), fun e14 => h14 (lset_ne (by decide) e14), fun e15 => h15 (lset_ne (by decide) e15), fun e16 => h16 (lset_ne (by decide) e16), fun e17 => h17 (lset_ne (by decide) e17), fun e18 => h18 (lset_ne (by decide) e18)⟩
      | true =>
        have e12 := h12 d12 rfl
        subst e12
        unfold eaAct; go_simp
        exact ⟨u11, u24, u25, u26, u27, u28, u29, u30, u31, .bool true, u33, u34, u35, .pointer (some ⟨tb, f, none⟩), .slice (some ⟨rf, 0, none⟩) P P, u38, u39, u40, u41, rfl, hB, fun e0 => h0 (lset_ne (by decide) e0), fun e1 => h1 (lset_ne (by decide) e1), fun e2 => h2 (lset_ne (by decide) e2), fun e3 => h3 (lset_ne (by decide) e3), fun e4 => h4 (lset_ne (by decide) e4), fun e5 => h5 (lset_ne (by decide) e5), fun e6 => h6 (lset_ne (by decide) e6), fun e7 => h7 (lset_ne (by decide) e7), fun e8 => h8 (lset_ne (by decide) e8), fun e9 => h9 (lset_ne (by decide) e9), fun e10 => h10 (lset_ne (by decide) e10), fun e11 => h11 (lset_ne (by decide) e11), fun e12 => h12 (lset_ne (by decide) e12), fun _ _ => rfl, fun e14 => h14 (lset_ne (by decide) e14), fun e15 => h15 (lset_ne (by decide) e15), fun e16 => h16 (lset_ne (by decide) e16), fun e17 => h17 (lset_ne (by decide) e17), fun e18 => h18 (lset_ne (by decide) e18)⟩
    · have ho' : some _ = some o := ho
      cases ho'
      have d8 := hd { on := 8, ground := .guard } (by simp) rfl
      have hbw : Below w.heap.size w w := Below.refl _ _
      have eg := h8 d8
      subst eg
      cases a1 with
      | false =>
        unfold eaAct; go_simp
        exact ⟨u11, u24, u25, u26, u27, u28, u29, u30, u31, .bool false, u33, u34, u35, u36, u37, undef, u39, u40, u41, rfl, hB, fun e0 => h0 (lset_ne (by decide) e0), fun e1 => h1 (lset_ne (by decide) e1), fun e2 => h2 (lset_ne (by decide) e2), fun e3 => h3 (lset_ne (by decide) e3), fun e4 => h4 (lset_ne (by decide) e4), fun e5 => h5 (lset_ne (by decide) e5), fun e6 => h6 (lset_ne (by decide) e6), fun e7 => h7 (lset_ne (by decide) e7), fun e8 => h8 (lset_ne (by decide) e8), fun e9 => h9 (lset_ne (by decide) e9), fun e10 => h10 (lset_ne (by decide) e10), fun e11 => h11 (lset_ne (by decide) e11), fun e12 => h12 (lset_ne (by decide) e12), fun e13 => h13 (lset_ne (by decide) e13), fun _ e => (by cases e), fun e15 => h15 (lset_ne (by decide) e15), fun e16 => h16 (lset_ne (by decide) e16), fun e17 => h17 (lset_ne (by decide) e17), fun e18 => h18 (lset_ne (by decide) e18)⟩
      | true =>
        unfold eaAct; go_simp
        exact ⟨u11, u24, u25, u26, u27, u28, u29, u30, u31, .bool true, u33, u34, u35, u36, u37, .int .i64 (p : Int), u39, u40, u41, rfl, hB, fun e0 => h0 (lset_ne (by decide) e0), fun e1 => h1 (lset_ne (by decide) e1), fun e2 => h2 (lset_ne (by decide) e2), fun e3 => h3 (lset_ne (by decide) e3), fun e4 => h4 (lset_ne (by decide) e4), fun e5 => h5 (lset_ne (by decide) e5), fun e6 => h6 (lset_ne (by decide) e6), fun e7 => h7 (lset_ne (by decide) e7), fun e8 => h8 (lset_ne (by decide) e8), fun e9 => h9 (lset_ne (by decide) e9), fun e10 => h10 (lset_ne (by decide) e10), fun e11 => h11 (lset_ne (by decide) e11), fun e12 => h12 (lset_ne (by decide) e12), fun e13 => h13 (lset_ne (by decide) e13), fun _ _ => rfl, fun e15 => h15 (lset_ne (by decide) e15), fun e16 => h16 (lset_ne (by decide) e16), fun e17 => h17 (lset_ne (by decide) e17), fun e18 => h18 (lset_ne (by decide) e18)⟩
    · have ho' : some _ = some o := ho
      cases ho'
      have d13 := hd { on := 13, ground := .data } (by simp) rfl
      have d14 := hd { on := 14, ground := .data } (by simp) rfl
      have d8 := hd { on := 8, ground := .guard } (by simp) rfl
      have hbw : Below w.heap.size w w := Below.refl _ _
      have p0 : (0 : Int) ≤ (p : Int) := by omega
      have p1 : (p : Int) < (P : Int) := by omega
      have eg := h8 d8
      subst eg
      cases a1 with
      | false =>
        unfold eaAct; go_simp
        exact ⟨u11, u24, u25, u26, u27, u28, u29, u30, u31, .bool false, u33, u34, u35, u36, u37, u38, undef, u40, u41, rfl, hB, fun e0 => h0 (lset_ne (by decide) e0), fun e1 => h1 (lset_ne (by decide) e1), fun e2 => h2 (lset_ne (by decide) e2), fun e3 => h3 (lset_ne (by decide) e3), fun e4 => h4 (lset_ne (by decide) e4), fun e5 => h5 (lset_ne (by decide) e5), fun e6 => h6 (lset_ne (by decide) e6), fun e7 => h7 (lset_ne (by decide) e7), fun e8 => h8 (lset_ne (by decide) e8), fun e9 => h9 (lset_ne (by decide) e9), fun e10 => h10 (lset_ne (by decide) e10), fun e11 => h11 (lset_ne (by decide) e11), fun e12 => h12 (lset_ne (by decide) e12), fun e13 => h13 (lset_ne (by decide) e13), fun e14 => h14 (lset_ne (by decide) e14), fun _ e => (by cases e), fun e16 => h16 (lset_ne (by decide) e16), fun e17 => h17 (lset_ne (by decide) e17), fun e18 => h18 (lset_ne (by decide) e18)⟩
      | true =>
        have e13 := h13 d13 rfl
        subst e13
        have e14 := h14 d14 rfl
        subst e14
        unfold eaAct; go_simp
        exact ⟨u11, u24, u25, u26, u27, u28, u29, u30, u31, .bool true, u33, u34, u35, u36, .slice (some ⟨rf, 0, none⟩) P P, .int .i64 (p : Int), .pointer (some ⟨rf, p, none⟩), u40, u41, rfl, hB, fun e0 => h0 (lset_ne (by decide) e0), fun e1 => h1 (lset_ne (by decide) e1), fun e2 => h2 (lset_ne (by decide) e2), fun e3 => h3 (lset_ne (by decide) e3), fun e4 => h4 (lset_ne (by decide) e4), fun e5 => h5 (lset_ne (by decide) e5), fun e6 => h6 (lset_ne (by decide) e6), fun e7 => h7 (lset_ne (by decide) e7), fun e8 => h8 (lset_ne (by decide) e8), fun e9 => h9 (lset_ne (by decide) e9), fun e10 => h10 (lset_ne (by decide) e10), fun e11 => h11 (lset_ne (by decide) e11), fun e12 => h12 (lset_ne (by decide) e12), fun e13 => h13 (lset_ne (by decide) e13), fun e14 => h14 (lset_ne (by decide) e14), fun _ _ => rfl, fun e16 => h16 (lset_ne (by decide) e16), fun e17 => h17 (lset_ne (by decide) e17), fun e18 => h18 (lset_ne (by decide) e18)⟩
    · have ho' : some _ = some o := ho
      cases ho'
      have d15 := hd { on := 15, ground := .data } (by simp) rfl
      have d8 := hd { on := 8, ground := .guard } (by simp) rfl
      have hbw : Below w.heap.size w w := Below.refl _ _
      have c0 := (hB.cell (p := ⟨rf, p, none⟩) hrf).trans hc2
      have eg := h8 d8
      subst eg
      cases a1 with
      | false =>
        unfold eaAct; go_simp
        exact ⟨u11, u24, u25, u26, u27, u28, u29, u30, u31, .bool false, u33, u34, u35, u36, u37, u38, u39, undef, u41, rfl, hB, fun e0 => h0 (lset_ne (by decide) e0), fun e1 => h1 (lset_ne (by decide) e1), fun e2 => h2 (lset_ne (by decide) e2), fun e3 => h3 (lset_ne (by decide) e3), fun e4 => h4 (lset_ne (by decide) e4), fun e5 => h5 (lset_ne (by decide) e5), fun e6 => h6 (lset_ne (by decide) e6), fun e7 => h7 (lset_ne (by decide) e7), fun e8 => h8 (lset_ne (by decide) e8), fun e9 => h9 (lset_ne (by decide) e9), fun e10 => h10 (lset_ne (by decide) e10), fun e11 => h11 (lset_ne (by decide) e11), fun e12 => h12 (lset_ne (by decide) e12), fun e13 => h13 (lset_ne (by decide) e13), fun e14 => h14 (lset_ne (by decide) e14), fun e15 => h15 (lset_ne (by decide) e15), fun _ e => (by cases e), fun e17 => h17 (lset_ne (by decide) e17), fun e18 => h18 (lset_ne (by decide) e18)⟩
      | true =>
        have e15 := h15 d15 rfl
        subst e15
        unfold eaAct; go_simp
        exact ⟨u11, u24, u25, u26, u27, u28, u29, u30, u31, .bool true, u33, u34, u35, u36, u37, u38, .pointer (some ⟨rf, p, none⟩), .bool a2, u41, rfl, hB, fun e0 => h0 (lset_ne (by decide) e0), fun e1 => h1 (lset_ne (by decide) e1), fun e2 => h2 (lset_ne (by decide) e2), fun e3 => h3 (lset_ne (by decide) e3), fun e4 => h4 (lset_ne (by decide) e4), fun e5 => h5 (lset_ne (by decide) e5), fun e6 => h6 (lset_ne (by decide) e6), fun e7 => h7 (lset_ne (by decide) e7), fun e8 => h8 (lset_ne (by decide) e8), fun e9 => h9 (lset_ne (by decide) e9), fun e10 => h10 (lset_ne (by decide) e10), fun e11 => h11 (lset_ne (by decide) e11), fun e12 => h12 (lset_ne (by decide) e12), fun e13 => h13 (lset_ne (by decide) e13), fun e14 => h14 (lset_ne (by decide) e14), fun e15 => h15 (lset_ne (by decide) e15), fun _ _ => rfl, fun e17 => h17 (lset_ne (by decide) e17), fun e18 => h18 (lset_ne (by decide) e18)⟩
    · have ho' : some _ = some o := ho
      cases ho'
      have d8 := hd { on := 8, ground := .data } (by simp) rfl
      have d16 := hd { on := 16, ground := .data } (by simp) rfl
      have hbw : Below w.heap.size w w := Below.refl _ _
      have eg := h8 d8
      subst eg
      cases a1 with
      | false =>
        unfold eaAct; go_simp
        exact ⟨u11, u24, u25, u26, u27, u28, u29, u30, u31, .bool false, u33, u34, u35, u36, u37, u38, u39, u40, .bool false, rfl, hB, fun e0 => h0 (lset_ne (by decide) e0), fun e1 => h1 (lset_ne (by decide) e1), fun e2 => h2 (lset_ne (by decide) e2), fun e3 => h3 (lset_ne (by decide) e3), fun e4 => h4 (lset_ne (by decide) e4), fun e5 => h5 (lset_ne (by decide) e5), fun e6 => h6 (lset_ne (by decide) e6), fun e7 => h7 (lset_ne (by decide) e7), fun e8 => h8 (lset_ne (by decide) e8), fun e9 => h9 (lset_ne (by decide) e9), fun e10 => h10 (lset_ne (by decide) e10), fun e11 => h11 (lset_ne (by decide) e11), fun e12 => h12 (lset_ne (by decide) e12), fun e13 => h13 (lset_ne (by decide) e13), fun e14 => h14 (lset_ne (by decide) e14), fun e15 => h15 (lset_ne (by decide) e15), fun e16 => h16 (lset_ne (by decide) e16), fun _ => rfl, fun e18 => h18 (lset_ne (by decide) e18)⟩
      | true =>
        have e16 := h16 d16 rfl
        subst e16
        unfold eaAct; go_simp
        exact ⟨u11, u24, u25, u26, u27, u28, u29, u30, u31, .bool true, u33, u34, u35, u36, u37, u38, u39, .bool a2, .bool a2, rfl, hB, fun e0 => h0 (lset_ne (by decide) e0), fun e1 => h1 (lset_ne (by decide) e1), fun e2 => h2 (lset_ne (by decide) e2), fun e3 => h3 (lset_ne (by decide) e3), fun e4 => h4 (lset_ne (by decide) e4), fun e5 => h5 (lset_ne (by decide) e5), fun e6 => h6 (lset_ne (by decide) e6), fun e7 => h7 (lset_ne (by decide) e7), fun e8 => h8 (lset_ne (by decide) e8), fun e9 => h9 (lset_ne (by decide) e9), fun e10 => h10 (lset_ne (by decide) e10), fun e11 => h11 (lset_ne (by decide) e11), fun e12 => h12 (lset_ne (by decide) e12), fun e13 => h13 (lset_ne (by decide) e13), fun e14 => h14 (lset_ne (by decide) e14), fun e15 => h15 (lset_ne (by decide) e15), fun e16 => h16 (lset_ne (by decide) e16), fun _ => rfl, fun e18 => h18 (lset_ne (by decide) e18)⟩
    · have ho' : some _ = some o := ho
      cases ho'
      have d17 := hd { on := 17, ground := .data } (by simp) rfl
      have d8 := hd { on := 8, ground := .chain } (by simp) rfl
      have d0 := hd { on := 0, ground := .phase } (by simp) rfl
      have d1 := hd { on := 1, ground := .phase } (by simp) rfl
      have d2 := hd { on := 2, ground := .phase } (by simp) rfl
      have d3 := hd { on := 3, ground := .phase } (by simp) rfl
      have d4 := hd { on := 4, ground := .phase } (by simp) rfl
      have d5 := hd { on := 5, ground := .phase } (by simp) rfl
      have d6 := hd { on := 6, ground := .phase } (by simp) rfl
      have d7 := hd { on := 7, ground := .phase } (by simp) rfl
      have d8 := hd { on := 8, ground := .phase } (by simp) rfl
      have d9 := hd { on := 9, ground := .phase } (by simp) rfl
      have d10 := hd { on := 10, ground := .phase } (by simp) rfl
      have d11 := hd { on := 11, ground := .phase } (by simp) rfl
      have d12 := hd { on := 12, ground := .phase } (by simp) rfl
      have d13 := hd { on := 13, ground := .phase } (by simp) rfl
      have d14 := hd { on := 14, ground := .phase } (by simp) rfl
      have d15 := hd { on := 15, ground := .phase } (by simp) rfl
      have d16 := hd { on := 16, ground := .phase } (by simp) rfl
      have d17 := hd { on := 17, ground := .phase } (by simp) rfl
      have hbw : Below w.heap.size w w := Below.refl _ _
      have e0 := h0 d0
      subst e0
      have e1 := h1 d1
      subst e1
      have e2 := h2 d2
      subst e2
      have e3 := h3 d3
      subst e3
      have e4 := h4 d4
      subst e4
      have e5 := h5 d5
      subst e5
      have e6 := h6 d6
      subst e6
      have e7 := h7 d7
      subst e7
      have e8 := h8 d8
      subst e8
      have e17 := h17 d17
      subst e17
      unfold eaAct; go_simp
      exact ⟨.bool (a1 && a2), .slice (some ⟨tb, 0, none⟩) P tc, .int .i64 (p : Int), .pointer (some ⟨tb, p, none⟩), .slice (some ⟨rp, 0, none⟩) P P, .pointer (some ⟨eb, 0, none⟩), .int .i64 (f : Int), .pointer (some ⟨rp, f, none⟩), .bool a1, .bool a1, u33, u34, u35, u36, u37, u38, u39, u40, .bool (a1 && a2), rfl, hB, fun e0 => h0 (lset_ne (by decide) e0), fun e1 => h1 (lset_ne (by decide) e1), fun e2 => h2 (lset_ne (by decide) e2), fun e3 => h3 (lset_ne (by decide) e3), fun e4 => h4 (lset_ne (by decide) e4), fun e5 => h5 (lset_ne (by decide) e5), fun e6 => h6 (lset_ne (by decide) e6), fun e7 => h7 (lset_ne (by decide) e7), fun e8 => h8 (lset_ne (by decide) e8), fun e9 => h9 (lset_ne (by decide) e9), fun e10 => h10 (lset_ne (by decide) e10), fun e11 => h11 (lset_ne (by decide) e11), fun e12 => h12 (lset_ne (by decide) e12), fun e13 => h13 (lset_ne (by decide) e13), fun e14 => h14 (lset_ne (by decide) e14), fun e15 => h15 (lset_ne (by decide) e15), fun e16 => h16 (lset_ne (by decide) e16), fun e17 => h17 (lset_ne (by decide) e17), fun _ => rfl⟩
  · rintro listed a w ⟨u11, u24, u25, u26, u27, u28, u29, u30, u31, u32, u33, u34, u35, u36, u37, u38, u39, u40, u41, rfl, hB, h0, h1, h2, h3, h4, h5, h6, h7, h8, h9, h10, h11, h12, h13, h14, h15, h16, h17, h18⟩ hall
    exact hQ _ _ _ _ _ _ _ _ _ _ _ _ _ _ _ _ _ _ _ w hB (h0 (hall 0 (by decide))) (h1 (hall 1 (by decide))) (h2 (hall 2 (by decide))) (h3 (hall 3 (by decide))) (h4 (hall 4 (by decide))) (h5 (hall 5 (by decide))) (h6 (hall 6 (by decide))) (h7 (hall 7 (by decide))) (h8 (hall 8 (by decide))) (h9 (hall 9 (by decide))) (h10 (hall 10 (by decide))) (h11 (hall 11 (by decide))) (h12 (hall 12 (by decide))) (h13 (hall 13 (by decide))) (h14 (hall 14 (by decide))) (h15 (hall 15 (by decide))) (h16 (hall 16 (by decide))) (h17 (hall 17 (by decide))) (h18 (hall 18 (by decide)))
end Go.Proofs.Ytjjkabgbcflipaa
