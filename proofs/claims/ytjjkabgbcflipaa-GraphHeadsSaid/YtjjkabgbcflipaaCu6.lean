import Derived.Test.YtjjkabgbcflipaaCu5
import Derived.Laws.EntriesVeiled
set_option linter.unusedSimpArgs false
set_option linter.unusedVariables false
namespace Go.Proofs.Ytjjkabgbcflipaa
open Go Go.Proofs Go.RowKit Go.Shelf GM

attribute [local go_sem] Oper.semAt_some

/-- A number that is appended to an own row, inside a fence. -/
theorem wpListIn_push {F : Fence} {n0 : Nat} {lo : Nat} {W : World} {v : Value} {l : List Int} {ops : Array Oper} {rest : List Oper} {o : Oper} {a : Act} {Q : Exit → Act → World → Prop}
    (hg : o.guard = none) (s x : Operand) (hop : o.op = Op.call { callee := Callee.builtin Builtin.append, args := #[s, x], argTypes := #[51, 51] })
    (hs : a.eval s = v) (hown : ownI lo W v l) (hl : l.length ≤ 1200000) (hbase : lo ≤ W.heap.size)
    (ad : Nat) (z : Int) (hx : a.eval x = .slice (some ⟨ad, 0, none⟩) 1 1) (hc : W.cell? ⟨ad, 0, none⟩ = some (.int .i64 z))
    (hK : ∀ (g cap n : Nat) (w9 : World), n = l.length + 1 → ownI lo w9 (.slice (some ⟨g, 0, none⟩) n cap) (l ++ [z]) → W.grownBy w9 v.ownBlock → (v.ownBlock = some g ∨ g = W.heap.size) → wpListIn F n0 Try.prog ops Q rest (a.put o.dst (.slice (some ⟨g, 0, none⟩) n cap)) w9) :
    wpListIn F n0 Try.prog ops Q (o :: rest) a W := by
  obtain ⟨i0, hi, hz0, hz1, hz2⟩ := info_parts infoInt64
  refine wpListIn_plain hg fun K hK' => ?_
  obtain ⟨g, cap, w', hr, h2, h3, h4, h5⟩ := run_append_lies (P := Try.prog) W 51 o.type lo 3 i0 (.int .i64 0) 1 8 Try.underlying51 hi hz0 hz1 hz2 rfl (by decide) v l.length (intCells l) hown ⟨ad, 0, none⟩ 1 1 [.int .i64 z] rfl
    (fun j u hu => by
      match j, hu with
      | 0, hu => simp at hu; subst hu; rw [addr_zero]; exact hc) (by intro u hu; simp at hu; subst hu; rfl) (by decide) (by unfold maxLen; omega) (by omega) hbase _ rfl
  rw [show intCells l ++ [Value.int .i64 z] = intCells (l ++ [z]) by simp [intCells]] at h2
  unfold Oper.wpIn
  refine ⟨?_, ?_⟩
  · simp [Oper.about, hop, resolve, Target.leads, Sem.run_pure]
  · rw [Oper.semAt_plain F _ _ (by rw [hop]; intro c hc'; cases hc')]
    simp [execOp, hop, resolve, invoke, builtin, hs, hx, hr, Result.andThen]
    exact hK' _ _ (hK g cap _ w' rfl (by unfold ownI; rw [List.length_append]; exact h2) h3 h4)
section
variable {lo M O BM BV BS P : Nat} {es : List Nat} {ls : List (List Nat)} {ve vl v : Value} {W W' : World} {mk : Nat → Bool} {ord : List Nat}
/-- A visit's state abides the turn of a block that is no cells. -/
theorem StAt.turn {row : Option Nat} (h : StAt lo M O BM BV BS P es ls ve vl W v mk ord) (hg : W.grownBy W' row) (hr : ∀ r, row = some r → lo ≤ r ∧ ∃ o : Obj, W.heap[r]? = some o ∧ o.isCells = false) : StAt lo M O BM BV BS P es ls ve vl W' v mk ord := by
  have hb : But (fun b => row = some b) W W' := But.of_grown hg (fun _ e => e)
  have hn : ∀ b, b < lo → ¬ row = some b := fun b hb e => by have := (hr b e).1; omega
  have hs := h.size; have d1 := h.dbm.1; have d2 := h.dbv.1; have d3 := h.dbs.1; have d4 := h.dmo.1; have d5 := h.dmo.2.1
  refine ⟨(hb.cell (by dsimp only; omega) (hn _ d1)).trans h.bm, (hb.cell (by dsimp only; omega) (hn _ d2)).trans h.bv0, (hb.cell (by dsimp only; omega) (hn _ d2)).trans h.bv1, (hb.cell (by dsimp only; omega) (hn _ d3)).trans h.bs, (hb.cell (by dsimp only; omega) (hn _ d5)).trans h.o, (hb.frozen (by dsimp only; omega) (hn _ d5)).trans h.fo,
    h.own.but hb (fun b e1 e2 => ?_), fun k hk => (hb.cell (by dsimp only; omega) (hn _ d4)).trans (h.mc k hk), fun k => (hb.frozen (by dsimp only; omega) (hn _ d4)).trans (h.mf k), h.view.keep (KA.of_but hb (fun b hA _ => hn b hA.1)) (fun _ h _ => h), h.dbm, h.dbv, h.dbs, h.dmo, Nat.le_trans hs hb.size⟩
  obtain ⟨-, o, ho, hc⟩ := hr b e2
  rcases h.own.2 with ⟨e, -⟩ | ⟨g, cap, cur, e, -, hg', -⟩
  · rw [e] at e1; cases e1
  · rw [e] at e1; cases e1
    dsimp only at ho
    rw [hg'] at ho; cases ho; cases hc
theorem cntF_union (mk : Nat → Bool) (t : List Nat) (P : Nat) : cntF (unionB mk t) P ≤ cntF mk P := by
  unfold cntF
  rw [← List.countP_eq_length_filter, ← List.countP_eq_length_filter]
  refine List.countP_mono_left fun x _ h => ?_
  simp only [unionB, Bool.not_or, Bool.and_eq_true] at h
  exact h.1
theorem cntF_pos {mk : Nat → Bool} {P p : Nat} (hp : p < P) (hm : mk p = false) : 1 ≤ cntF mk P := by have := cntF_set hp hm; omega
/-- Whatever is no cells stays where a visit writes. -/
theorem StAt.keeps {B : Nat} (h : StAt lo M O BM BV BS P es ls ve vl W v mk ord) (hb : But (Wr M O v) W W') (hB : lo ≤ B) : KeepsFrom B W W' := by
  refine ⟨hb.size, fun k o hk ho hc => ?_⟩
  have hlt := (Array.getElem?_eq_some_iff.1 ho).1
  have d4 := h.dmo.1; have d5 := h.dmo.2.1
  rw [hb.block k hlt (fun e => ?_)]; exact ho
  rcases e with e | e | e
  · omega
  · omega
  · rcases h.own.2 with ⟨e2, -⟩ | ⟨g, cap, cur, e2, -, hg', -⟩
    · rw [e2] at e; cases e
    · rw [e2] at e; cases e
      dsimp only at ho
      rw [hg'] at ho; cases ho; cases hc
/-- A visit's state within a step: these points have been taken. -/
def IV (lo M O BM BV BS P : Nat) (es : List Nat) (ls : List (List Nat)) (ve vl v : Value) (mk : Nat → Bool) (ord : List Nat) (W2 : World) (pre : List (Fin P)) (W : World) : Prop :=
  ∃ t v', VL (nxt es ls) (fun x => mk x = true) (vals pre) t ∧ t.length + cntF (unionB mk t) P ≤ cntF mk P ∧ StAt lo M O BM BV BS P es ls ve vl W v' (unionB mk t) (ord ++ t) ∧ But (Wr M O v) W2 W ∧ Arr W2 v v'
theorem IV.own {W2 : World} (hs : lo ≤ W2.heap.size) : OwnFrom W2.heap.size (IV lo M O BM BV BS P es ls ve vl v mk ord W2) := by
  rintro s X Y row ⟨t, v', h1, h2, h3, h4, h5⟩ hg hr
  refine ⟨t, v', h1, h2, h3.turn hg (fun r e => ⟨Nat.le_trans hs (hr r e).1, (hr r e).2⟩), h4.trans (But.of_grown (S := fun b => row = some b) hg (fun _ e => e)) (fun k hk e => ?_), h5⟩
  have := (hr k e).1; omega
end
/-- What a step of a visit does. -/
def StepQ (lo M O BM BV BS P : Nat) (es : List Nat) (ls : List (List Nat)) (ve vl : Value) (p : Nat) (W : World) (v : Value) (mk : Nat → Bool) (ord : List Nat) : Ending → World → Prop := fun e W' =>
  (∃ u, e = .returned u) ∧ ∃ t v', VL (nxt es ls) (fun x => mk x = true) [p] t ∧ t.length + cntF (unionB mk t) P ≤ cntF mk P ∧ StAt lo M O BM BV BS P es ls ve vl W' v' (unionB mk t) (ord ++ t) ∧ But (Wr M O v) W W' ∧ Arr W v v'
set_option maxRecDepth 100000 in
set_option maxHeartbeats 8000000 in
theorem step_any {lo M O BM BV BS P : Nat} {es : List Nat} {ls : List (List Nat)} {ve vl : Value} (hP : P ≤ 100000) (hls : ∀ p, (rowD ls p).length ≤ 100000) (hes : es.length ≤ 100000) :
    ∀ (k p : Nat) (W : World) (v : Value) (mk : Nat → Bool) (ord : List Nat), p < P → cntF mk P ≤ k → ord.length + cntF mk P ≤ 1000000 → StAt lo M O BM BV BS P es ls ve vl W v mk ord →
    Calls Try.prog 69 #[.int .i64 (p : Int), .pointer (some ⟨BM, 0, none⟩), .pointer (some ⟨BV, 0, none⟩), .pointer (some ⟨BS, 0, none⟩), .pointer (some ⟨O, 0, none⟩)] W (StepQ lo M O BM BV BS P es ls ve vl p W v mk ord) := by
  intro k
  induction k with
  | zero =>
    intro p W v mk ord hp hc hb h
    have hm : mk p = true := by
      cases e : mk p with
      | true => rfl
      | false => have := cntF_pos hp e; omega
    have y0 := h.bm; have y1 := h.mc p hp
    rw [hm] at y1
    have p0 : (0 : Int) ≤ (p : Int) := by omega
    have p1 : (p : Int) < (P : Int) := by omega
    have HH := Lib.hid h; have HM := Lib.hid hm
    clear h hm 
    go_enter Try.func69, Try.ntmps69
    go_wp2
    refine bodyPost_ret (results_none rfl _ _ _) rfl ?_
    exact ⟨⟨_, rfl⟩, [], v, .old HM.out .nil, by rw [unionB_nil]; simp, by rw [unionB_nil, List.append_nil]; exact HH.out, But.refl _ _, .inl rfl⟩
  | succ k ih =>
    intro p W v mk ord hp hc hb h
    cases hm : mk p with
    | true =>
      have y0 := h.bm; have y1 := h.mc p hp
      rw [hm] at y1
      have p0 : (0 : Int) ≤ (p : Int) := by omega
      have p1 : (p : Int) < (P : Int) := by omega
      have HH := Lib.hid h; have HM := Lib.hid hm
      clear h hm ih
      go_enter Try.func69, Try.ntmps69
      go_wp2
      refine bodyPost_ret (results_none rfl _ _ _) rfl ?_
      exact ⟨⟨_, rfl⟩, [], v, .old HM.out .nil, by rw [unionB_nil]; simp, by rw [unionB_nil, List.append_nil]; exact HH.out, But.refl _ _, .inl rfl⟩
    | false =>
      have hset := cntF_set hp hm
      have p0 : (0 : Int) ≤ (p : Int) := by omega
      have p1 : (p : Int) < (P : Int) := by omega
      have y0 := h.bm; have y1 := h.mc p hp; have y2 := h.mf p
      rw [hm] at y1
      obtain ⟨hM, hbM⟩ := h.mark hp
      obtain ⟨eo, ec, rfl⟩ := hM.view.ends.slice
      obtain ⟨tb, tc, rfl, -⟩ := hM.view.tab
      have x0 := hM.bv0; have x1 := hM.bv1
      have CN := next_any (.slice eo es.length ec) (.slice (some ⟨tb, 0, none⟩) P tc) (.slice (some ⟨(W.setCell ⟨M, p, none⟩ (.bool true)).heap.size, 0, none⟩) 1 1) eo (some ⟨tb, 0, none⟩) (some ⟨(W.setCell ⟨M, p, none⟩ (.bool true)).heap.size, 0, none⟩) es.length ec P tc 1 1 ((W.setCell ⟨M, p, none⟩ (.bool true)).alloc (Obj.cells #[.int .i64 (p : Int)] 3)) rfl rfl rfl
      rw [show (W.setCell ⟨M, p, none⟩ (.bool true)).heap.size = W.heap.size by simp] at CN
      have HMK := Lib.hid hM; have HBM := Lib.hid hbM; have IH := Lib.hid ih; have KN := Lib.hid CN; have HSET := Lib.hid hset; have HMP := Lib.hid hm
      clear hM hbM ih CN hset hm h
      refine (callsIn_wide (n := 3)).1 ?_
      refine callsIn_of_wp_marks Try.func69 rfl trivial ?_ rfl
      simp only [Try.ntmps69, List.size_toArray, List.length_cons, List.length_nil, Nat.reduceAdd, Nat.reduceSub, Array.replicate_succ, Array.replicate_zero, List.push_toArray, List.append_toArray, List.nil_append, List.cons_append]
      gi_wp2_with fail
      refine ⟨trivial, (callsIn_wide.2 KN.out).mono ?_⟩
      rintro e w' ⟨rfl, rfl⟩
      have hz1 : (W.setCell ⟨M, p, none⟩ (.bool true)).heap.size = W.heap.size := by simp
      have HM1 := HMK.out
      have HB1 := HBM.out
      clear KN HMK HBM y0 y1 y2 x0 x1
      generalize W.setCell ⟨M, p, none⟩ (.bool true) = W1 at *
      have hzA : (W1.alloc (Obj.cells #[.int .i64 (p : Int)] 3)).heap.size = W.heap.size + 1 := by rw [World.size_alloc, hz1]
      have bA : Below W1.heap.size W1 (W1.alloc (Obj.cells #[.int .i64 (p : Int)] 3)) := (Below.refl _ _).alloc (Nat.le_refl _) _
      have cA : (W1.alloc (Obj.cells #[.int .i64 (p : Int)] 3)).cell? ⟨W.heap.size, 0, none⟩ = some (.int .i64 (p : Int)) := by rw [← hz1]; go_cell
      generalize W1.alloc (Obj.cells #[.int .i64 (p : Int)] 3) = WA at *
      have bB : Below WA.heap.size WA ((WA.alloc (.cells #[.slice eo es.length ec, .slice (some ⟨tb, 0, none⟩) P tc] 89)).alloc (.cells #[.slice (some ⟨W.heap.size, 0, none⟩) 1 1] 51)) := ((Below.refl _ _).alloc (Nat.le_refl _) _).alloc (by simp) _
      have c0 : ((WA.alloc (.cells #[.slice eo es.length ec, .slice (some ⟨tb, 0, none⟩) P tc] 89)).alloc (.cells #[.slice (some ⟨W.heap.size, 0, none⟩) 1 1] 51)).cell? ⟨W.heap.size + 1, 0, none⟩ = some (.slice eo es.length ec) := by rw [← hzA]; go_cell
      have c1 : ((WA.alloc (.cells #[.slice eo es.length ec, .slice (some ⟨tb, 0, none⟩) P tc] 89)).alloc (.cells #[.slice (some ⟨W.heap.size, 0, none⟩) 1 1] 51)).cell? ⟨W.heap.size + 1, 1, none⟩ = some (.slice (some ⟨tb, 0, none⟩) P tc) := by rw [← hzA]; go_cell
      have c2 : ((WA.alloc (.cells #[.slice eo es.length ec, .slice (some ⟨tb, 0, none⟩) P tc] 89)).alloc (.cells #[.slice (some ⟨W.heap.size, 0, none⟩) 1 1] 51)).cell? ⟨W.heap.size + 1 + 1, 0, none⟩ = some (.slice (some ⟨W.heap.size, 0, none⟩) 1 1) := by rw [← hzA]; go_cell
      have hz2 : ((WA.alloc (.cells #[.slice eo es.length ec, .slice (some ⟨tb, 0, none⟩) P tc] 89)).alloc (.cells #[.slice (some ⟨W.heap.size, 0, none⟩) 1 1] 51)).heap.size = W.heap.size + 1 + 1 + 1 := by simp [hzA]
      rw [hzA]
      generalize (WA.alloc (.cells #[.slice eo es.length ec, .slice (some ⟨tb, 0, none⟩) P tc] 89)).alloc (.cells #[.slice (some ⟨W.heap.size, 0, none⟩) 1 1] 51) = W2 at *
      have cA2 := (bB.cell (p := ⟨W.heap.size, 0, none⟩) (by dsimp only; omega)).trans cA
      have bC : Below W1.heap.size W1 W2 := Below.chain bA bB
      have HS2 := Lib.hid (HM1.below bC)
      have HB2 := Lib.hid (HB1.next bC)
      have hown : ∀ b, v.ownBlock = some b → lo ≤ b ∧ b < W.heap.size := fun b e => by have := HM1.own.lt e; omega
      have hlo : lo ≤ W.heap.size := by have := HM1.size; omega
      have hMO := HM1.dmo
      clear HM1 HB1 bA cA bB bC
      gi_wp2_with fail
      have HS2' := HS2.out
      have hsz2 : W2.heap.size = W.heap.size + 1 + 1 + 1 := hz2
      have hown2 : ∀ b, v.ownBlock = some b → lo ≤ b ∧ b < W.heap.size := hown
      obtain ⟨A, hA⟩ : ∃ A : Nat → Prop, A = fun b => b < W2.heap.size ∧ b ≠ M ∧ b ≠ O ∧ v.ownBlock ≠ some b := ⟨_, rfl⟩
      have aN : ∀ b, W.heap.size ≤ b → b < W2.heap.size → A b := fun b h1 h2 => by
        rw [hA]
        exact ⟨h2, by omega, by omega, fun e => by have := hown b e; omega⟩
      have hIR : IR A W2 (.slice (some ⟨W.heap.size, 0, none⟩) 1 1) [p] := by
        refine ⟨_, 1, rfl, .inr ⟨W.heap.size, 0, rfl, aN _ (Nat.le_refl _) (by omega), by omega, fun k hk => ?_⟩⟩
        have hk0 : k = 0 := by simpa using hk
        subst hk0
        exact cA2
      have hVR : VR A W2 (.slice eo es.length ec) (.slice (some ⟨tb, 0, none⟩) P tc) P es ls := HS2'.view.keep (KA.refl _ _) (fun b hb hl => by
        rw [hA]
        exact ⟨hl, hb.2.1, hb.2.2, fun e => by have := hown b e; have := hb.1; omega⟩)
      have hst := next_stops 2 (by omega) (W.heap.size + 1 + 1) (W.heap.size + 1) [p] W2 hIR (by simpa using hp) hVR hP (by simp) hls hes (aN _ (by omega) (by omega)) (by omega) c2 (aN _ (by omega) (by omega)) (by omega) c0 c1
      have HA := Lib.hid hA
      clear hA aN hIR hVR HS2'
      refine wpIn_rangeFunc_ownG rfl (by omega) (gf := 92) (lb := #[.pointer (some ⟨W.heap.size + 1 + 1, 0, none⟩), .pointer (some ⟨W.heap.size + 1, 0, none⟩)]) (by simp [Act.eval]) trivial (enters_of Try.func92 (by kernel_rfl) rfl)
        hst (fun {A B C} h k => h.trans k) ?hKb (Below.refl _ _) (fun _ => rfl)
        (IV lo M O BM BV BS P es ls (.slice eo es.length ec) (.slice (some ⟨tb, 0, none⟩) P tc) v (setB mk p) ord W2)
        (fun _ _ _ => False)
        (IV.own (by omega))
        (fun _ _ _ _ _ hs _ _ => hs)
        ⟨[], v, .nil, by rw [unionB_nil]; simp, by rw [unionB_nil, List.append_nil]; exact HS2.out, But.refl _ _, .inl rfl⟩
        (fun x => { tmps := #[.int .i64 (p : Int), .pointer (some ⟨BM, 0, none⟩), .pointer (some ⟨BV, 0, none⟩), .pointer (some ⟨BS, 0, none⟩), .pointer (some ⟨O, 0, none⟩), undef, .int .i64 (x.val : Int), .slice (some ⟨M, 0, none⟩) P P, .int .i64 (p : Int), .pointer (some ⟨M, p, none⟩), .bool false, .slice (some ⟨M, 0, none⟩) P P, .int .i64 (p : Int), .pointer (some ⟨M, p, none⟩), .agg #[.slice eo es.length ec, .slice (some ⟨tb, 0, none⟩) P tc], .int .i64 (p : Int), .slice (some ⟨W.heap.size, 0, none⟩) 1 1, .func (.func 92) #[] #[.pointer (some ⟨W.heap.size + 1 + 1, 0, none⟩), .pointer (some ⟨W.heap.size + 1, 0, none⟩)], .int .i64 (x.val : Int), undef, undef, undef, undef, undef, undef, undef], defers := [] }) ?assign ?body ?done ?stop
      case hKb =>
        intro W3 lp o o' hl _ _ _
        refine ⟨by simp, fun b hb hlt => World.putObj_heap_other ?_⟩
        rw [HA.out] at hb
        have := hb.1; omega
      case assign =>
        intro lp x W3 K hK
        unfold qEnc
        gi_wp2
        exact hK
      case body =>
        rintro lp pre x W3 ⟨t, v', hVL, hcn, hSt, hB, hAr⟩ hlt
        have z0 := hSt.bs
        have hle := cntF_union (setB mk p) t P
        have hset := HSET.out
        have C := IH.out x.val W3 v' (unionB (setB mk p) t) (ord ++ t) x.isLt (by omega) (by simp only [List.length_append]; omega) hSt
        have KC := Lib.hid C; have HVL := Lib.hid hVL; have HSt := Lib.hid hSt; have HB := Lib.hid hB; have HAr := Lib.hid hAr
        clear C hVL hSt hB hAr
        gi_wp2_with fail
        refine ⟨trivial, (CallsIn.inRound lp (callsIn_wide.2 KC.out)).mono ?_⟩
        rintro e W4 ⟨⟨u, rfl⟩, t2, v2, g1, g2, g3, g4, g5⟩
        have hW := Wr.trans HB.out HAr.out g4 g5
        have hvl : VL (nxt es ls) (fun x => setB mk p x = true) (vals (pre ++ [x])) (t ++ t2) := by
          rw [vals, List.map_append]
          exact HVL.out.app (g1.congr (fun y => unionB_iff _ _ _))
        rw [unionB_app] at g2 g3
        rw [List.append_assoc] at g3
        have hkf := HSt.out.keeps (B := W2.heap.size) g4 (by have := HS2.out.size; omega)
        have hka : KA A W3 W4 := KA.of_but g4 (fun b hb _ e => by
          rw [HA.out] at hb
          rcases e with e | e | e
          · exact hb.2.1 e
          · exact hb.2.2.1 e
          · rcases HAr.out with q | q
            · exact hb.2.2.2 (q ▸ e)
            · have := q b e; have := hb.1; omega)
        gi_wp2
        exact ⟨hkf, hka, t ++ t2, v2, hvl, by rw [List.length_append]; omega, g3, hW.1, hW.2⟩
      case done =>
        rintro D ys W3 hD hys ⟨t, v', hVL, hcn, hSt, hB, hAr⟩ hK
        rw [hys] at hVL
        rw [List.flatMap_cons, List.flatMap_nil, List.append_nil] at hVL
        have z0 := hSt.o; have z1 := hSt.fo
        obtain ⟨vo, vc, hve, -, -, -⟩ := hSt.own.slice
        subst hve
        have HVL := Lib.hid hVL; have HSt := Lib.hid hSt; have HB := Lib.hid hB; have HAr := Lib.hid hAr; have HK := Lib.hid hK
        clear hVL hSt hB hAr hK
        have HSa := Lib.hid (HSt.out.below ((Below.refl _ _).alloc (Nat.le_refl _) (Obj.cells #[.int .i64 (p : Int)] 3)))
        gi_wp2_with (gi_at_builtin; refine wpListIn_push (lo := lo) (l := (ord ++ t).map fun (n : Nat) => (n : Int)) rfl (.tmp 22) (.tmp 24) rfl (by simp [Act.eval, Act.put]) HSa.out.own (by rw [List.length_map, List.length_append]; have := HSET.out; omega) HSa.out.size W3.heap.size p (by simp [Act.eval, Act.put]) (by go_cell) ?_; intro g cap n9 w9 hn9 h9 hg9 hgg; refine Hid.out ?_)
        subst hn9
        have hPu := HSa.out.push (p := p) (ord := ord ++ t) (by rw [List.map_append]; exact h9) hg9 hgg
        have hsz3 : W3.heap.size < (W3.alloc (Obj.cells #[.int .i64 (p : Int)] 3)).heap.size := by simp
        have hDl := (Array.getElem?_eq_some_iff.1 HK.out).1
        have hK2 : (W3.alloc (Obj.cells #[.int .i64 (p : Int)] 3)).heap[D]? = some (.deferred (some [])) := (((Below.refl _ W3).alloc (Nat.le_refl _) (Obj.cells #[.int .i64 (p : Int)] 3)).block D hDl).trans HK.out
        have hDS := hPu.2.1.block D (by simp; omega) (fun e => by
          have hlo3 := HS2.out.size
          rcases e with e | e | e
          · omega
          · omega
          · rcases HSt.out.own.2 with ⟨e2, -⟩ | ⟨g', cap', cur', e2, -, hg', -⟩
            · rw [e2] at e; cases e
            · rw [e2] at e
              have e3 : g' = D := by cases e; rfl
              have := HK.out
              rw [← e3, hg'] at this; cases this)
        have hD5 := hDS.trans hK2
        have hb1 := But.of_grown (S := fun b => (Value.slice vo ((ord ++ t).map fun (n : Nat) => (n : Int)).length vc).ownBlock = some b) hg9 (fun _ e => e)
        have hnO : ¬ (Value.slice vo ((ord ++ t).map fun (n : Nat) => (n : Int)).length vc).ownBlock = some O := fun e => by have := (HSa.out.own.lt e).1; omega
        have w0 := hb1.cell (p := ⟨O, 0, none⟩) (by have := HSa.out.size; dsimp only; omega) hnO
        have w1 := hb1.frozen (p := ⟨O, 0, none⟩) (by have := HSa.out.size; dsimp only; omega) hnO
        rw [HSa.out.o] at w0
        rw [HSa.out.fo] at w1
        have hlen : (List.map (fun (n : Nat) => (n : Int)) (ord ++ t)).length = ord.length + t.length := by simp
        rw [hlen] at hPu hD5
        have HPu := Lib.hid hPu; have HD5 := Lib.hid hD5; have HLEN := Lib.hid hlen; clear hlen
        clear hPu hsz3 hDl hK2 hDS hb1 hnO h9 hg9 hgg hD5
        refine Lib.hid ?_
        gi_wp2
        refine ⟨by simp, .inl ⟨_, _, rfl, run_takeDeferred HD5.out, ?_⟩⟩
        have a1 : But (Wr M O v) W W3 := HB2.out.trans HB.out (fun _ _ e => e)
        have a2 : Arr W v (.slice vo ((ord ++ t).map fun (n : Nat) => (n : Int)).length vc) := HAr.out.imp_right (fun h b e => Nat.le_trans HB2.out.size (h b e))
        rw [HLEN.out] at a2
        have a3 := Wr.trans (a1.next ((Below.refl _ W3).alloc (Nat.le_refl _) (Obj.cells #[.int .i64 (p : Int)] 3))) a2 HPu.out.2.1 (HPu.out.2.2.imp_right (fun h b e => h b e))
        have hset := HSET.out
        refine ⟨_, results_none rfl _ _ _, ⟨_, rfl⟩, t ++ [p], _, ?_, ?_, ?_, a3.1.trans (But.of_grown (S := fun b => some D = some b) (grownBy_putObj' _ D _) (fun _ e => e)) (fun k hk e => ?_), a3.2⟩
        · exact .new (by rw [HMP.out]; simp) (HVL.out.congr (fun x => setB_iff mk p x)) .nil
        · rw [← unionB_set, List.length_append, List.length_singleton]; omega
        · have := HPu.out.1.turn (grownBy_putObj' _ D (.deferred none)) (fun r e => by cases e; exact ⟨by have := HS2.out.size; omega, _, HD5.out, rfl⟩)
          rw [unionB_set, List.append_assoc] at this
          exact this
        · cases e; omega
      case stop =>
        rintro D c pre W3 _ _ h _
        exact h.elim
end Go.Proofs.Ytjjkabgbcflipaa
namespace Go.Proofs.Ytjjkabgbcflipaa
open Go Go.Proofs Go.RowKit Go.Shelf GM

/-- Marks in memory. -/
structure MkAt (W : World) (M P : Nat) (mk : Nat → Bool) : Prop where
  mc : ∀ k, k < P → W.cell? ⟨M, k, none⟩ = some (.bool (mk k))
  mf : ∀ k, W.frozen? ⟨M, k, none⟩ = false
  lt : M < W.heap.size
theorem MkAt.but {S : Nat → Prop} {W W' : World} {M P : Nat} {mk : Nat → Bool} (h : MkAt W M P mk) (hb : But S W W') (hn : ¬ S M) : MkAt W' M P mk :=
  ⟨fun k hk => (hb.cell (p := ⟨M, k, none⟩) h.lt hn).trans (h.mc k hk), fun k => (hb.frozen (p := ⟨M, k, none⟩) h.lt hn).trans (h.mf k), Nat.lt_of_lt_of_le h.lt hb.size⟩
theorem MkAt.below {W W' : World} {M P : Nat} {mk : Nat → Bool} (h : MkAt W M P mk) (hb : Below W.heap.size W W') : MkAt W' M P mk := h.but (S := fun _ => False) (But.of_below hb) id
def VisitQ (P : Nat) (es : List Nat) (ls : List (List Nat)) (M from_ : Nat) (w : World) (mk : Nat → Bool) : Ending → World → Prop := fun e w' =>
  ∃ t v', e = .returned v' ∧ VL (nxt es ls) (fun x => mk x = true) [from_] t ∧ ownI w.heap.size w' v' (t.map fun (n : Nat) => (n : Int)) ∧ MkAt w' M P (unionB mk t) ∧ But (fun b => b = M) w w' ∧ t.length + cntF (unionB mk t) P ≤ cntF mk P
theorem cntF_le (mk : Nat → Bool) (P : Nat) : cntF mk P ≤ P := by
  unfold cntF
  exact Nat.le_trans (List.length_filter_le _ _) (by simp)
set_option maxRecDepth 20000 in
set_option maxHeartbeats 4000000 in
theorem visit_any {P : Nat} {es : List Nat} {ls : List (List Nat)} {ve vl : Value} (w : World) (hP : P ≤ 100000) (hls : ∀ p, (rowD ls p).length ≤ 100000) (hes : es.length ≤ 100000) (M p : Nat) (mk : Nat → Bool) (hp : p < P)
    (hv : VR (fun b => b < w.heap.size ∧ b ≠ M) w ve vl P es ls) (hm : MkAt w M P mk) :
    Calls Try.prog 52 #[.agg #[ve, vl], .int .i64 (p : Int), .slice (some ⟨M, 0, none⟩) P P] w (VisitQ P es ls M p w mk) := by
  obtain ⟨eo, ec, rfl⟩ := hv.ends.slice
  obtain ⟨tb, tc, rfl, -⟩ := hv.tab
  have hsz : ((((w.alloc (Obj.cells #[.slice eo es.length ec, .slice (some ⟨tb, 0, none⟩) P tc] 89)).alloc (Obj.cells #[.slice (some ⟨M, 0, none⟩) P P] 33)).alloc (Obj.cells #[nilS] 51)).alloc (Obj.cells #[.func (.func 69) #[] #[.pointer (some ⟨w.heap.size + 1, 0, none⟩), .pointer (some ⟨w.heap.size, 0, none⟩), .pointer (some ⟨w.heap.size + 1 + 1 + 1, 0, none⟩), .pointer (some ⟨w.heap.size + 1 + 1, 0, none⟩)]] 109)).heap.size = w.heap.size + 1 + 1 + 1 + 1 := by simp
  have hb : Below w.heap.size w ((((w.alloc (Obj.cells #[.slice eo es.length ec, .slice (some ⟨tb, 0, none⟩) P tc] 89)).alloc (Obj.cells #[.slice (some ⟨M, 0, none⟩) P P] 33)).alloc (Obj.cells #[nilS] 51)).alloc (Obj.cells #[.func (.func 69) #[] #[.pointer (some ⟨w.heap.size + 1, 0, none⟩), .pointer (some ⟨w.heap.size, 0, none⟩), .pointer (some ⟨w.heap.size + 1 + 1 + 1, 0, none⟩), .pointer (some ⟨w.heap.size + 1 + 1, 0, none⟩)]] 109)) := by go_grown
  have k0 : ((((w.alloc (Obj.cells #[.slice eo es.length ec, .slice (some ⟨tb, 0, none⟩) P tc] 89)).alloc (Obj.cells #[.slice (some ⟨M, 0, none⟩) P P] 33)).alloc (Obj.cells #[nilS] 51)).alloc (Obj.cells #[.func (.func 69) #[] #[.pointer (some ⟨w.heap.size + 1, 0, none⟩), .pointer (some ⟨w.heap.size, 0, none⟩), .pointer (some ⟨w.heap.size + 1 + 1 + 1, 0, none⟩), .pointer (some ⟨w.heap.size + 1 + 1, 0, none⟩)]] 109)).cell? ⟨w.heap.size + 1, 0, none⟩ = some (.slice (some ⟨M, 0, none⟩) P P) := by go_cell
  have k1 : ((((w.alloc (Obj.cells #[.slice eo es.length ec, .slice (some ⟨tb, 0, none⟩) P tc] 89)).alloc (Obj.cells #[.slice (some ⟨M, 0, none⟩) P P] 33)).alloc (Obj.cells #[nilS] 51)).alloc (Obj.cells #[.func (.func 69) #[] #[.pointer (some ⟨w.heap.size + 1, 0, none⟩), .pointer (some ⟨w.heap.size, 0, none⟩), .pointer (some ⟨w.heap.size + 1 + 1 + 1, 0, none⟩), .pointer (some ⟨w.heap.size + 1 + 1, 0, none⟩)]] 109)).cell? ⟨w.heap.size, 0, none⟩ = some (.slice eo es.length ec) := by go_cell
  have k2 : ((((w.alloc (Obj.cells #[.slice eo es.length ec, .slice (some ⟨tb, 0, none⟩) P tc] 89)).alloc (Obj.cells #[.slice (some ⟨M, 0, none⟩) P P] 33)).alloc (Obj.cells #[nilS] 51)).alloc (Obj.cells #[.func (.func 69) #[] #[.pointer (some ⟨w.heap.size + 1, 0, none⟩), .pointer (some ⟨w.heap.size, 0, none⟩), .pointer (some ⟨w.heap.size + 1 + 1 + 1, 0, none⟩), .pointer (some ⟨w.heap.size + 1 + 1, 0, none⟩)]] 109)).cell? ⟨w.heap.size, 1, none⟩ = some (.slice (some ⟨tb, 0, none⟩) P tc) := by go_cell
  have k3 : ((((w.alloc (Obj.cells #[.slice eo es.length ec, .slice (some ⟨tb, 0, none⟩) P tc] 89)).alloc (Obj.cells #[.slice (some ⟨M, 0, none⟩) P P] 33)).alloc (Obj.cells #[nilS] 51)).alloc (Obj.cells #[.func (.func 69) #[] #[.pointer (some ⟨w.heap.size + 1, 0, none⟩), .pointer (some ⟨w.heap.size, 0, none⟩), .pointer (some ⟨w.heap.size + 1 + 1 + 1, 0, none⟩), .pointer (some ⟨w.heap.size + 1 + 1, 0, none⟩)]] 109)).cell? ⟨w.heap.size + 1 + 1 + 1, 0, none⟩ = some (.func (.func 69) #[] #[.pointer (some ⟨w.heap.size + 1, 0, none⟩), .pointer (some ⟨w.heap.size, 0, none⟩), .pointer (some ⟨w.heap.size + 1 + 1 + 1, 0, none⟩), .pointer (some ⟨w.heap.size + 1 + 1, 0, none⟩)]) := by go_cell
  have k4 : ((((w.alloc (Obj.cells #[.slice eo es.length ec, .slice (some ⟨tb, 0, none⟩) P tc] 89)).alloc (Obj.cells #[.slice (some ⟨M, 0, none⟩) P P] 33)).alloc (Obj.cells #[nilS] 51)).alloc (Obj.cells #[.func (.func 69) #[] #[.pointer (some ⟨w.heap.size + 1, 0, none⟩), .pointer (some ⟨w.heap.size, 0, none⟩), .pointer (some ⟨w.heap.size + 1 + 1 + 1, 0, none⟩), .pointer (some ⟨w.heap.size + 1 + 1, 0, none⟩)]] 109)).cell? ⟨w.heap.size + 1 + 1, 0, none⟩ = some nilS := by go_cell
  have k5 : ((((w.alloc (Obj.cells #[.slice eo es.length ec, .slice (some ⟨tb, 0, none⟩) P tc] 89)).alloc (Obj.cells #[.slice (some ⟨M, 0, none⟩) P P] 33)).alloc (Obj.cells #[nilS] 51)).alloc (Obj.cells #[.func (.func 69) #[] #[.pointer (some ⟨w.heap.size + 1, 0, none⟩), .pointer (some ⟨w.heap.size, 0, none⟩), .pointer (some ⟨w.heap.size + 1 + 1 + 1, 0, none⟩), .pointer (some ⟨w.heap.size + 1 + 1, 0, none⟩)]] 109)).frozen? ⟨w.heap.size + 1 + 1, 0, none⟩ = false := by go_cell
  obtain ⟨ws, hws⟩ : ∃ ws, ((((w.alloc (Obj.cells #[.slice eo es.length ec, .slice (some ⟨tb, 0, none⟩) P tc] 89)).alloc (Obj.cells #[.slice (some ⟨M, 0, none⟩) P P] 33)).alloc (Obj.cells #[nilS] 51)).alloc (Obj.cells #[.func (.func 69) #[] #[.pointer (some ⟨w.heap.size + 1, 0, none⟩), .pointer (some ⟨w.heap.size, 0, none⟩), .pointer (some ⟨w.heap.size + 1 + 1 + 1, 0, none⟩), .pointer (some ⟨w.heap.size + 1 + 1, 0, none⟩)]] 109)) = ws := ⟨_, rfl⟩
  rw [hws] at hsz hb k0 k1 k2 k3 k4 k5
  have hlt := hm.lt
  have hSt : StAt (w.heap.size + 1 + 1 + 1 + 1) M (w.heap.size + 1 + 1) (w.heap.size + 1) w.heap.size (w.heap.size + 1 + 1 + 1) P es ls (.slice eo es.length ec) (.slice (some ⟨tb, 0, none⟩) P tc) ws nilS mk [] := by
    have hk : KA (fun b => b < w.heap.size ∧ b ≠ M) w ws := KA.of_below hb
    refine ⟨k0, k1, k2, k3, k4, k5, ownI.nil, (hm.below hb).mc, (hm.below hb).mf, hv.keep hk (fun b h _ => ⟨by omega, h.2, by omega⟩), by omega, by omega, by omega, by omega, by omega⟩
  have C := step_any (BM := w.heap.size + 1) (BV := w.heap.size) (BS := w.heap.size + 1 + 1 + 1) hP hls hes (cntF mk P) p ws nilS mk [] hp (Nat.le_refl _) (by have := cntF_le mk P; simp; omega) hSt
  have KC := Lib.hid C; have HB := Lib.hid hb; have HWS := Lib.hid hws; have HSZ := Lib.hid hsz; have HLT := Lib.hid hlt
  clear C hSt hb hws hsz hv hm k0 k1 k2 k3 k4 k5
  go_enter Try.func52, Try.ntmps52
  go_wp2_with fail
  rw [HWS.out]
  refine KC.out.mono ?_
  rintro e w1 ⟨⟨u, rfl⟩, t, v', g1, g2, g3, g4, g5⟩
  rw [List.nil_append] at g3
  obtain ⟨vo, vc, hve, -, -, -⟩ := g3.own.slice
  rw [List.length_map] at hve
  subst hve
  have z0 := g3.o
  have G := Lib.hid (And.intro g1 (And.intro g2 (And.intro g3 (And.intro g4 g5))))
  clear g1 g2 g3 g4 g5 KC
  go_wp2
  go_ret
  obtain ⟨g1, g2, g3, g4, g5⟩ := G.out
  have hlo := HLT.out
  refine ⟨t, .slice vo t.length vc, rfl, g1, ownI.mono (lo' := w.heap.size) g3.own (by omega), ⟨g3.mc, g3.mf, ?_⟩, ?_, g2⟩
  · have := g4.size; have := HSZ.out; omega
  · refine (But.of_below (S := fun b => b = M) HB.out).trans g4 (fun k hk e => ?_)
    rcases e with e | e | e
    · exact e
    · omega
    · cases e
end Go.Proofs.Ytjjkabgbcflipaa
