/-
  sign: Refine's regions.
-/
import Derived.Test.YtmnbjkbkjmgmkaaDoorSgB
set_option linter.unusedSimpArgs false
set_option linter.unusedVariables false
namespace Go.Proofs.YtmnbjkbkjmgmkaaDoor
open Go Go.Proofs Go.RowKit Go.Shelf

attribute [local go_sem] Oper.semAt_some


set_option maxRecDepth 100000 in
set_option maxHeartbeats 4000000 in
theorem refine_region9 {l m : Nat} {Q : Exit → Act → World → Prop} {W : World} (q0 q1 q2 q4 q6 q7 q8 q9 q10 q11 q13 q14 q15 q16 q17 q18 q19 q20 q21 q22 q23 q24 q25 q26 q27 q28 q29 q30 q31 q32 q33 q34 q35 q36 q37 q38 q39 q40 q41 q42 q43 : Value) {N o2 a t rv : Nat} (ho : o2 < 6) (ha : a < 3) (ht : t < 8) (hrv : rv < 8) (hQ : ¬ LetsOut Q) (hP : ∀ c a1 a2 w1, Q (.panic c) a1 w1 → Q (.panic c) a2 w1)
    (c0 : W.cell? ⟨N, 0, none⟩ = some (.int .i64 (o2 : Int))) (c1 : W.cell? ⟨N + 1, 0, none⟩ = some (.int .i64 (t : Int))) (c2 : W.cell? ⟨1, o2 * 3 + a, none⟩ = some (.int .i64 (rv : Int))) 
    (hend : Q .normal { tmps := #[q0, q1, q2, .pointer (some ⟨N, 0, none⟩), q4, .pointer (some ⟨N + 1, 0, none⟩), q6, q7, q8, q9, q10, q11, .int .i64 (a : Int), .int .i64 (rv &&& t : Nat), q14, q15, q16, q17, q18, q19, q20, q21, q22, q23, q24, q25, .int .i64 (o2 : Int), .int .i64 (a : Int), .pointer (some ⟨1, o2 * 3, none⟩), .pointer (some ⟨1, o2 * 3 + a, none⟩), .int .i64 (rv : Int), .int .i64 (t : Int), .int .i64 (rv &&& t : Nat), q33, q34, q35, q36, q37, q38, q39, q40, q41, q42, q43], defers := [] } (W.drew)) :
    (Code.region 9 #[{ dst := some 26, op := Op.load 3 (Operand.tmp 3), type := 3, pos := "sign.go:121", after := #[], guard := none }, { dst := some 27, op := Op.move (Operand.tmp 12), type := 3, pos := "sign.go:121", after := #[], guard := none }, { dst := some 28, op := Op.indexAddr 72 (Operand.global 1) (Operand.tmp 26), type := 0, pos := "sign.go:121", after := #[{ on := 0, ground := Ground.data }], guard := none }, { dst := some 29, op := Op.indexAddr 71 (Operand.tmp 28) (Operand.tmp 27), type := 0, pos := "sign.go:121", after := #[{ on := 2, ground := Ground.data }, { on := 1, ground := Ground.data }], guard := none }, { dst := some 30, op := Op.load 3 (Operand.tmp 29), type := 3, pos := "sign.go:121", after := #[{ on := 3, ground := Ground.data }], guard := none }, { dst := some 31, op := Op.load 3 (Operand.tmp 5), type := 3, pos := "sign.go:121", after := #[], guard := none }, { dst := some 32, op := Op.binOp BinOp.and 3 (Operand.tmp 30) (Operand.tmp 31) 3, type := 3, pos := "sign.go:121", after := #[{ on := 4, ground := Ground.data }, { on := 5, ground := Ground.data }], guard := none }, { dst := some 13, op := Op.assign (Operand.tmp 32), type := 3, pos := "sign.go:121", after := #[{ on := 6, ground := Ground.data }, { on := 0, ground := Ground.phase }, { on := 1, ground := Ground.phase }, { on := 2, ground := Ground.phase }, { on := 3, ground := Ground.phase }, { on := 4, ground := Ground.phase }, { on := 5, ground := Ground.phase }, { on := 6, ground := Ground.phase }], guard := none }] true).wpIn (Fence.wide.inRound l) m Tryd.prog Q { tmps := #[q0, q1, q2, .pointer (some ⟨N, 0, none⟩), q4, .pointer (some ⟨N + 1, 0, none⟩), q6, q7, q8, q9, q10, q11, .int .i64 (a : Int), q13, q14, q15, q16, q17, q18, q19, q20, q21, q22, q23, q24, q25, q26, q27, q28, q29, q30, q31, q32, q33, q34, q35, q36, q37, q38, q39, q40, q41, q42, q43], defers := [] } W := by
  have hand := bAnd hrv ht
  have p0 : (0 : Int) ≤ (o2 : Int) := by omega
  have p1 : (o2 : Int) < 6 := by omega
  have p2 : (0 : Int) ≤ (a : Int) := by omega
  have p3 : (a : Int) < 3 := by omega
  refine wpIn_region_hot (fun j => false) (fun w' => w'.cell? ⟨N, 0, none⟩ = some (.int .i64 (o2 : Int)) ∧ w'.cell? ⟨N + 1, 0, none⟩ = some (.int .i64 (t : Int)) ∧ w'.cell? ⟨1, o2 * 3 + a, none⟩ = some (.int .i64 (rv : Int))) (by kernel_rfl) (by kernel_rfl) hQ ⟨c0, c1, c2⟩ (fun hHeld => ?_)
  refine hot_take (i := 0) (oi := { dst := some 26, op := Op.load 3 (Operand.tmp 3), type := 3, pos := "sign.go:121", after := #[], guard := none }) (v := ?v0) rfl (by kernel_rfl) (by kernel_rfl) (by kernel_rfl) rfl (by kernel_rfl) (by kernel_rfl) (fun _ _ _ h => hP _ _ _ _ h) (Or.inl ⟨by rfl, ?h0⟩) (by assumption) ?r0
  case h0 => (intro w hSw; (try dsimp only at hSw); obtain ⟨s0, s1, s2⟩ := hSw; go_simp; try with_reducible rfl)
  (try simp only [Act.put, List.setIfInBounds_toArray, List.set_cons_zero, List.set_cons_succ])
  refine hot_take (i := 1) (oi := { dst := some 27, op := Op.move (Operand.tmp 12), type := 3, pos := "sign.go:121", after := #[], guard := none }) (v := ?v1) rfl (by kernel_rfl) (by kernel_rfl) (by kernel_rfl) rfl (by kernel_rfl) (by kernel_rfl) (fun _ _ _ h => hP _ _ _ _ h) (Or.inl ⟨by rfl, ?h1⟩) (by assumption) ?r1
  case h1 => (intro w hSw; (try dsimp only at hSw); obtain ⟨s0, s1, s2⟩ := hSw; go_simp; try with_reducible rfl)
  (try simp only [Act.put, List.setIfInBounds_toArray, List.set_cons_zero, List.set_cons_succ])
  refine hot_take (i := 2) (oi := { dst := some 28, op := Op.indexAddr 72 (Operand.global 1) (Operand.tmp 26), type := 0, pos := "sign.go:121", after := #[{ on := 0, ground := Ground.data }], guard := none }) (v := ?v2) rfl (by kernel_rfl) (by kernel_rfl) (by kernel_rfl) rfl (by kernel_rfl) (by kernel_rfl) (fun _ _ _ h => hP _ _ _ _ h) (Or.inl ⟨by rfl, ?h2⟩) (by assumption) ?r2
  case h2 => (intro w hSw; (try dsimp only at hSw); obtain ⟨s0, s1, s2⟩ := hSw; go_simp; try with_reducible rfl)
  (try simp only [Act.put, List.setIfInBounds_toArray, List.set_cons_zero, List.set_cons_succ])
  refine hot_take (i := 3) (oi := { dst := some 29, op := Op.indexAddr 71 (Operand.tmp 28) (Operand.tmp 27), type := 0, pos := "sign.go:121", after := #[{ on := 2, ground := Ground.data }, { on := 1, ground := Ground.data }], guard := none }) (v := ?v3) rfl (by kernel_rfl) (by kernel_rfl) (by kernel_rfl) rfl (by kernel_rfl) (by kernel_rfl) (fun _ _ _ h => hP _ _ _ _ h) (Or.inl ⟨by rfl, ?h3⟩) (by assumption) ?r3
  case h3 => (intro w hSw; (try dsimp only at hSw); obtain ⟨s0, s1, s2⟩ := hSw; go_simp; try with_reducible rfl)
  (try simp only [Act.put, List.setIfInBounds_toArray, List.set_cons_zero, List.set_cons_succ])
  refine hot_take (i := 4) (oi := { dst := some 30, op := Op.load 3 (Operand.tmp 29), type := 3, pos := "sign.go:121", after := #[{ on := 3, ground := Ground.data }], guard := none }) (v := ?v4) rfl (by kernel_rfl) (by kernel_rfl) (by kernel_rfl) rfl (by kernel_rfl) (by kernel_rfl) (fun _ _ _ h => hP _ _ _ _ h) (Or.inl ⟨by rfl, ?h4⟩) (by assumption) ?r4
  case h4 => (intro w hSw; (try dsimp only at hSw); obtain ⟨s0, s1, s2⟩ := hSw; go_simp; try with_reducible rfl)
  (try simp only [Act.put, List.setIfInBounds_toArray, List.set_cons_zero, List.set_cons_succ])
  refine hot_take (i := 5) (oi := { dst := some 31, op := Op.load 3 (Operand.tmp 5), type := 3, pos := "sign.go:121", after := #[], guard := none }) (v := ?v5) rfl (by kernel_rfl) (by kernel_rfl) (by kernel_rfl) rfl (by kernel_rfl) (by kernel_rfl) (fun _ _ _ h => hP _ _ _ _ h) (Or.inl ⟨by rfl, ?h5⟩) (by assumption) ?r5
  case h5 => (intro w hSw; (try dsimp only at hSw); obtain ⟨s0, s1, s2⟩ := hSw; go_simp; try with_reducible rfl)
  (try simp only [Act.put, List.setIfInBounds_toArray, List.set_cons_zero, List.set_cons_succ])
  refine hot_take (i := 6) (oi := { dst := some 32, op := Op.binOp BinOp.and 3 (Operand.tmp 30) (Operand.tmp 31) 3, type := 3, pos := "sign.go:121", after := #[{ on := 4, ground := Ground.data }, { on := 5, ground := Ground.data }], guard := none }) (v := ?v6) rfl (by kernel_rfl) (by kernel_rfl) (by kernel_rfl) rfl (by kernel_rfl) (by kernel_rfl) (fun _ _ _ h => hP _ _ _ _ h) (Or.inl ⟨by rfl, ?h6⟩) (by assumption) ?r6
  case h6 => (intro w hSw; (try dsimp only at hSw); obtain ⟨s0, s1, s2⟩ := hSw; go_simp; try with_reducible rfl)
  (try simp only [Act.put, List.setIfInBounds_toArray, List.set_cons_zero, List.set_cons_succ])
  refine hot_take (i := 7) (oi := { dst := some 13, op := Op.assign (Operand.tmp 32), type := 3, pos := "sign.go:121", after := #[{ on := 6, ground := Ground.data }, { on := 0, ground := Ground.phase }, { on := 1, ground := Ground.phase }, { on := 2, ground := Ground.phase }, { on := 3, ground := Ground.phase }, { on := 4, ground := Ground.phase }, { on := 5, ground := Ground.phase }, { on := 6, ground := Ground.phase }], guard := none }) (v := ?v7) rfl (by kernel_rfl) (by kernel_rfl) (by kernel_rfl) rfl (by kernel_rfl) (by kernel_rfl) (fun _ _ _ h => hP _ _ _ _ h) (Or.inl ⟨by rfl, ?h7⟩) (by assumption) ?r7
  case h7 => (intro w hSw; (try dsimp only at hSw); obtain ⟨s0, s1, s2⟩ := hSw; go_simp; try with_reducible rfl)
  (try simp only [Act.put, List.setIfInBounds_toArray, List.set_cons_zero, List.set_cons_succ])
  refine hot_done (by kernel_rfl) ?_ _
  exact hend

set_option maxRecDepth 100000 in
set_option maxHeartbeats 4000000 in
theorem refine_region11 {l m : Nat} {Q : Exit → Act → World → Prop} {W : World} (q0 q1 q2 q3 q4 q5 q6 q7 q8 q9 q11 q13 q14 q15 q16 q17 q18 q19 q20 q21 q22 q23 q24 q25 q26 q27 q28 q29 q30 q31 q32 q33 q34 q35 q36 q37 q38 q39 q40 q41 q42 q43 : Value) {B a acc : Nat} (ha : a < 3) (hac : acc < 8) (hQ : ¬ LetsOut Q) (hP : ∀ c a1 a2 w1, Q (.panic c) a1 w1 → Q (.panic c) a2 w1)
    (c0 : W.cell? ⟨B, 0, none⟩ = some (.int .i64 (acc : Int))) (f0 : W.frozen? ⟨B, 0, none⟩ = false)
    (hend : Q .normal { tmps := #[q0, q1, q2, q3, q4, q5, q6, q7, q8, q9, .pointer (some ⟨B, 0, none⟩), q11, .int .i64 (a : Int), q13, q14, q15, q16, q17, q18, q19, q20, q21, q22, q23, q24, q25, q26, q27, q28, q29, q30, q31, q32, q33, q34, .int .i64 (acc : Int), .int .i64 (a : Int), .int .i64 (2 ^ a : Nat), .int .i64 (acc ||| 2 ^ a : Nat), q39, q40, q41, q42, q43], defers := [] } (W.drew.setCell ⟨B, 0, none⟩ (.int .i64 (acc ||| 2 ^ a : Nat)))) :
    (Code.region 11 #[{ dst := some 35, op := Op.load 3 (Operand.tmp 10), type := 3, pos := "sign.go:122", after := #[], guard := none }, { dst := some 36, op := Op.move (Operand.tmp 12), type := 3, pos := "sign.go:122", after := #[], guard := none }, { dst := some 37, op := Op.binOp BinOp.shl 3 (Operand.const (Value.int IntKind.i64 1)) (Operand.tmp 36) 3, type := 3, pos := "sign.go:122", after := #[{ on := 1, ground := Ground.data }], guard := none }, { dst := some 38, op := Op.binOp BinOp.or 3 (Operand.tmp 35) (Operand.tmp 37) 3, type := 3, pos := "sign.go:122", after := #[{ on := 0, ground := Ground.data }, { on := 2, ground := Ground.data }], guard := none }, { dst := none, op := Op.store 3 (Operand.tmp 10) (Operand.tmp 38), type := 0, pos := "sign.go:122", after := #[{ on := 3, ground := Ground.data }, { on := 0, ground := Ground.phase }, { on := 1, ground := Ground.phase }, { on := 2, ground := Ground.phase }, { on := 3, ground := Ground.phase }], guard := none }] true).wpIn (Fence.wide.inRound l) m Tryd.prog Q { tmps := #[q0, q1, q2, q3, q4, q5, q6, q7, q8, q9, .pointer (some ⟨B, 0, none⟩), q11, .int .i64 (a : Int), q13, q14, q15, q16, q17, q18, q19, q20, q21, q22, q23, q24, q25, q26, q27, q28, q29, q30, q31, q32, q33, q34, q35, q36, q37, q38, q39, q40, q41, q42, q43], defers := [] } W := by
  have h2 : 2 ^ a < 8 := by rcases (show a = 0 ∨ a = 1 ∨ a = 2 by omega) with rfl | rfl | rfl <;> decide
  have hor := bOr hac h2
  have hw : IntKind.i64.wrap ((2 : Int) ^ a) = ((2 ^ a : Nat) : Int) := by rcases (show a = 0 ∨ a = 1 ∨ a = 2 by omega) with rfl | rfl | rfl <;> rfl
  generalize 2 ^ a = pa at *
  refine wpIn_region_hot (fun j => j == 4) (fun w' => w'.cell? ⟨B, 0, none⟩ = some (.int .i64 (acc : Int))) (by kernel_rfl) (by kernel_rfl) hQ c0 (fun hHeld => ?_)
  refine hot_take (i := 0) (oi := { dst := some 35, op := Op.load 3 (Operand.tmp 10), type := 3, pos := "sign.go:122", after := #[], guard := none }) (v := ?v0) rfl (by kernel_rfl) (by kernel_rfl) (by kernel_rfl) rfl (by kernel_rfl) (by kernel_rfl) (fun _ _ _ h => hP _ _ _ _ h) (Or.inl ⟨by rfl, ?h0⟩) (by assumption) ?r0
  case h0 => (intro w hSw; (try dsimp only at hSw); obtain s0 := hSw; go_simp; try with_reducible rfl)
  (try simp only [Act.put, List.setIfInBounds_toArray, List.set_cons_zero, List.set_cons_succ])
  refine hot_take (i := 1) (oi := { dst := some 36, op := Op.move (Operand.tmp 12), type := 3, pos := "sign.go:122", after := #[], guard := none }) (v := ?v1) rfl (by kernel_rfl) (by kernel_rfl) (by kernel_rfl) rfl (by kernel_rfl) (by kernel_rfl) (fun _ _ _ h => hP _ _ _ _ h) (Or.inl ⟨by rfl, ?h1⟩) (by assumption) ?r1
  case h1 => (intro w hSw; (try dsimp only at hSw); obtain s0 := hSw; go_simp; try with_reducible rfl)
  (try simp only [Act.put, List.setIfInBounds_toArray, List.set_cons_zero, List.set_cons_succ])
  refine hot_take (i := 2) (oi := { dst := some 37, op := Op.binOp BinOp.shl 3 (Operand.const (Value.int IntKind.i64 1)) (Operand.tmp 36) 3, type := 3, pos := "sign.go:122", after := #[{ on := 1, ground := Ground.data }], guard := none }) (v := ?v2) rfl (by kernel_rfl) (by kernel_rfl) (by kernel_rfl) rfl (by kernel_rfl) (by kernel_rfl) (fun _ _ _ h => hP _ _ _ _ h) (Or.inl ⟨by rfl, ?h2⟩) (by assumption) ?r2
  case h2 => (intro w hSw; (try dsimp only at hSw); obtain s0 := hSw; go_simp; try with_reducible rfl)
  (try simp only [Act.put, List.setIfInBounds_toArray, List.set_cons_zero, List.set_cons_succ])
  refine hot_take (i := 3) (oi := { dst := some 38, op := Op.binOp BinOp.or 3 (Operand.tmp 35) (Operand.tmp 37) 3, type := 3, pos := "sign.go:122", after := #[{ on := 0, ground := Ground.data }, { on := 2, ground := Ground.data }], guard := none }) (v := ?v3) rfl (by kernel_rfl) (by kernel_rfl) (by kernel_rfl) rfl (by kernel_rfl) (by kernel_rfl) (fun _ _ _ h => hP _ _ _ _ h) (Or.inl ⟨by rfl, ?h3⟩) (by assumption) ?r3
  case h3 => (intro w hSw; (try dsimp only at hSw); obtain s0 := hSw; go_simp; try with_reducible rfl)
  (try simp only [Act.put, List.setIfInBounds_toArray, List.set_cons_zero, List.set_cons_succ])
  refine hot_one (i := 4) (oi := { dst := none, op := Op.store 3 (Operand.tmp 10) (Operand.tmp 38), type := 0, pos := "sign.go:122", after := #[{ on := 3, ground := Ground.data }, { on := 0, ground := Ground.phase }, { on := 1, ground := Ground.phase }, { on := 2, ground := Ground.phase }, { on := 3, ground := Ground.phase }], guard := none }) rfl (by kernel_rfl) (fun K hK => ?_)
  go_simp
  refine hK.out _ _ (fun h => by cases h) ?_
  clear hK K
  refine hot_done (by kernel_rfl) ?_ _
  exact hend

set_option maxHeartbeats 1000000 in
theorem isComparison_any (o : Int) (w : World) : Calls Tryd.prog 51 #[.int .i64 o] w fun e w' => e = .returned (.bool (decide (2 ≤ o ∧ o ≤ 5))) ∧ w' = w := by
  by_cases e2 : o = 2
  · subst e2
    go_enter Tryd.func51, Tryd.ntmps51
    go_wp2
    go_ret
    exact ⟨rfl, rfl⟩
  by_cases e3 : o = 3
  · subst e3
    go_enter Tryd.func51, Tryd.ntmps51
    go_wp2
    go_ret
    exact ⟨rfl, rfl⟩
  by_cases e4 : o = 4
  · subst e4
    go_enter Tryd.func51, Tryd.ntmps51
    go_wp2
    go_ret
    exact ⟨rfl, rfl⟩
  by_cases e5 : o = 5
  · subst e5
    go_enter Tryd.func51, Tryd.ntmps51
    go_wp2
    go_ret
    exact ⟨rfl, rfl⟩
  rw [decide_eq_false (by omega)]
  go_enter Tryd.func51, Tryd.ntmps51
  go_wp2
  go_ret
  exact ⟨rfl, rfl⟩
set_option maxHeartbeats 4000000 in
theorem refine_arg (o s t : Int) (w : World) (h : ¬ (2 ≤ o ∧ o ≤ 5)) :
    Calls Tryd.prog 33 #[.int .i64 o, .int .i64 s, .int .i64 t] w fun e w' => e = .returned (.tuple #[.int .i64 0, .int .i64 0, .int .i64 1]) ∧ Below w.heap.size w w' := by
  have C1 := fun W => isComparison_any o W
  rw [decide_eq_false h] at C1
  have K1 := Lib.hid C1; clear C1 h
  go_enter Tryd.func33, Tryd.ntmps33
  go_wp2_with (go_at_call 51; refine (K1.out _).mono ?_; rintro e w1 ⟨rfl, rfl⟩)
  refine bodyPost_ret (by first | (simp [results, Tryd.results33, go_sem]; done) | (simp [results, Tryd.results33, go_sem]; rfl)) rfl ?_
  exact ⟨rfl, by go_grown⟩
set_option maxHeartbeats 4000000 in
theorem refine_bad (o s t : Int) (w : World) (ho : 2 ≤ o ∧ o ≤ 5) (h : errB s t ≠ 0) :
    Calls Tryd.prog 33 #[.int .i64 o, .int .i64 s, .int .i64 t] w fun e w' => e = .returned (.tuple #[.int .i64 0, .int .i64 0, .int .i64 2]) ∧ Below w.heap.size w w' := by
  have C1 := fun W => isComparison_any o W
  rw [decide_eq_true ho] at C1
  have C2 := fun W => sgBoth_any s t W
  have e2 : errB s t = 2 := by rcases errB_cases s t with ⟨-, -, e⟩ | ⟨-, e⟩
                               · exact absurd e h
                               · exact e
  rw [e2] at C2
  have K1 := Lib.hid C1; have K2 := Lib.hid C2; clear C1 C2 ho h e2
  go_enter Tryd.func33, Tryd.ntmps33
  go_wp2_with (first | (go_at_call 51; refine (K1.out _).mono ?_; rintro e w1 ⟨rfl, rfl⟩) | (go_at_call 47; refine (K2.out _).mono ?_; rintro e w1 ⟨rfl, rfl⟩))
  refine bodyPost_ret (by first | (simp [results, Tryd.results33, go_sem]; done) | (simp [results, Tryd.results33, go_sem]; rfl)) rfl ?_
  exact ⟨rfl, by go_grown⟩
theorem rfnStep_lt {o t : Nat} (ht : t < 8) (p : Nat × Nat) (a : Nat) (ha : a < 3) (h : p.1 < 8 ∧ p.2 < 8) : (rfnStep o t p a).1 < 8 ∧ (rfnStep o t p a).2 < 8 := by
  unfold rfnStep
  split
  · exact h
  · have h2 : 2 ^ a < 8 := by rcases (show a = 0 ∨ a = 1 ∨ a = 2 by omega) with rfl | rfl | rfl <;> decide
    exact ⟨or_lt8 h.1 h2, or_lt8 h.2 (and_lt8 (parS_lt _ _))⟩
theorem rfnL_lt {o t : Nat} (ht : t < 8) (l : List (Fin 3)) : (rfnL o t (vals3 l)).1 < 8 ∧ (rfnL o t (vals3 l)).2 < 8 := by
  have : ∀ (l : List (Fin 3)) (p : Nat × Nat), p.1 < 8 ∧ p.2 < 8 → ((vals3 l).foldl (rfnStep o t) p).1 < 8 ∧ ((vals3 l).foldl (rfnStep o t) p).2 < 8 := by
    intro l
    induction l with
    | nil => exact fun _ h => h
    | cons a l ih => exact fun p h => ih _ (rfnStep_lt ht p a.val a.isLt h)
  exact this l (0, 0) ⟨by decide, by decide⟩
theorem par18_at : ∀ o2 : Fin 6, ∀ a : Fin 3, 2 ≤ o2.val → par18.getD (o2.val * 3 + a.val) 0 = parS (o2.val - 2) a.val := by decide

set_option maxRecDepth 100000 in
set_option maxHeartbeats 8000000 in
theorem refine_in (n o2 s t : Nat) (hn : 6 ≤ n) (ho2 : 2 ≤ o2) (ho : o2 < 6) (hs : s < 8) (ht : t < 8) (w : World) (hT : SgTab w) :
    CallsIn Fence.wide n Tryd.prog 33 #[.int .i64 (o2 : Int), .int .i64 (s : Int), .int .i64 (t : Int)] w fun e w' => e = .returned (.tuple #[.int .i64 ((rfn (o2 - 2) s t).1 : Nat), .int .i64 ((rfn (o2 - 2) s t).2 : Nat), .int .i64 0]) ∧ Below w.heap.size w w' := by
  have h1 : 1 ≤ n := by omega
  have C1 := fun W => isComparison_any (o2 : Int) W
  rw [decide_eq_true (by omega)] at C1
  have C2 := fun W => sgBoth_any s t W
  rw [errB_ok (okS_of hs) (okS_of ht)] at C2
  have K1 := Lib.hid C1; have K2 := Lib.hid C2; clear C1 C2
  have HT := Lib.hid hT; clear hT
  refine callsIn_of_wp_marks Tryd.func33 rfl trivial ?_ rfl
  simp only [Tryd.ntmps33, List.size_toArray, List.length_cons, List.length_nil, Nat.reduceAdd, Nat.reduceSub, Array.replicate_succ, Array.replicate_zero, List.push_toArray, List.append_toArray, List.nil_append, List.cons_append]
  gi_wp2_with (first | (refine ⟨trivial, ?_⟩; gi_at_call 51; refine (callsIn_wide.2 (K1.out _)).mono ?_; rintro e w' ⟨rfl, rfl⟩) | (refine ⟨trivial, ?_⟩; gi_at_call 47; refine (callsIn_wide.2 (K2.out _)).mono ?_; rintro e w' ⟨rfl, rfl⟩) | (refine ⟨trivial, ?_⟩; gi_at_call 52; refine (places_in Fence.wide _ trivial rfl _ _).mono ?_; rintro e w' ⟨rfl, rfl⟩))
  have bO := ((((Boxed.new w 3 (.int .i64 (o2 : Int))).alloc (.cells #[.int .i64 (t : Int)] 3)).alloc (.cells #[.int .i64 0] 3)).alloc (.cells #[.int .i64 0] 3)).alloc (.cells #[.int .i64 (s : Int)] 3)
  have bT := (((Boxed.new (w.alloc (.cells #[.int .i64 (o2 : Int)] 3)) 3 (.int .i64 (t : Int))).alloc (.cells #[.int .i64 0] 3)).alloc (.cells #[.int .i64 0] 3)).alloc (.cells #[.int .i64 (s : Int)] 3)
  have bL := ((Boxed.new ((w.alloc (.cells #[.int .i64 (o2 : Int)] 3)).alloc (.cells #[.int .i64 (t : Int)] 3)) 3 (.int .i64 0)).alloc (.cells #[.int .i64 0] 3)).alloc (.cells #[.int .i64 (s : Int)] 3)
  have bR := (Boxed.new (((w.alloc (.cells #[.int .i64 (o2 : Int)] 3)).alloc (.cells #[.int .i64 (t : Int)] 3)).alloc (.cells #[.int .i64 0] 3)) 3 (.int .i64 0)).alloc (.cells #[.int .i64 (s : Int)] 3)
  have bS := Boxed.new ((((w.alloc (.cells #[.int .i64 (o2 : Int)] 3)).alloc (.cells #[.int .i64 (t : Int)] 3)).alloc (.cells #[.int .i64 0] 3)).alloc (.cells #[.int .i64 0] 3)) 3 (.int .i64 (s : Int))
  simp only [World.size_alloc] at bT bL bR bS
  have hB0 : Below w.heap.size w (((((w.alloc (.cells #[.int .i64 (o2 : Int)] 3)).alloc (.cells #[.int .i64 (t : Int)] 3)).alloc (.cells #[.int .i64 0] 3)).alloc (.cells #[.int .i64 0] 3)).alloc (.cells #[.int .i64 (s : Int)] 3)) := (((((Below.refl _ w).alloc (Nat.le_refl _) _).alloc (by simp) _).alloc (by simp; omega) _).alloc (by simp; omega) _).alloc (by simp; omega) _
  have hsz : (((((w.alloc (.cells #[.int .i64 (o2 : Int)] 3)).alloc (.cells #[.int .i64 (t : Int)] 3)).alloc (.cells #[.int .i64 0] 3)).alloc (.cells #[.int .i64 0] 3)).alloc (.cells #[.int .i64 (s : Int)] 3)).heap.size = w.heap.size + 5 := by simp
  obtain ⟨W0, hW0⟩ : ∃ W0, ((((w.alloc (.cells #[.int .i64 (o2 : Int)] 3)).alloc (.cells #[.int .i64 (t : Int)] 3)).alloc (.cells #[.int .i64 0] 3)).alloc (.cells #[.int .i64 0] 3)).alloc (.cells #[.int .i64 (s : Int)] 3) = W0 := ⟨_, rfl⟩
  rw [hW0] at bO bT bL bR bS hB0 hsz ⊢
  clear hW0
  have hBS : w.heap.size + 1 + 1 + 1 + 1 < W0.heap.size := by omega
  refine wpIn_rangeFunc_ownG rfl h1 (gf := 60) (lb := #[.pointer (some ⟨w.heap.size + 1 + 1 + 1 + 1, 0, none⟩)]) rfl trivial (enters_of Tryd.func60 (by kernel_rfl) rfl)
    (places_stops Fence.wide (n - 1) trivial rfl (by omega) (w.heap.size + 1 + 1 + 1 + 1) s hs W0 hBS bS.cell) Kb.trans (kb_b hBS) (Below.refl _ _) (by intro x; rfl)
    (fun pre W => ((Boxed W (w.heap.size + 1 + 1) 3 (.int .i64 ((rfnL (o2 - 2) t (vals3 pre)).1 : Nat)) ∧ Boxed W (w.heap.size + 1 + 1 + 1) 3 (.int .i64 ((rfnL (o2 - 2) t (vals3 pre)).2 : Nat))) ∧ (Boxed W w.heap.size 3 (.int .i64 (o2 : Int)) ∧ Boxed W (w.heap.size + 1) 3 (.int .i64 (t : Int)))) ∧ Below w.heap.size w W)
    (fun _ _ _ => False)
    (OwnFrom.and (OwnFrom.and (OwnFrom.and (Own.from (boxed_own _ _ _) _) (Own.from (boxed_own _ _ _) _)) (OwnFrom.and (Own.from (boxed_own _ _ _) _) (Own.from (boxed_own _ _ _) _))) (ownFrom_below (Nat.le_refl _) (by omega)))
    (fun _ _ _ _ _ hs _ _ => hs)
    ⟨⟨⟨bL, bR⟩, bO, bT⟩, hB0⟩
    (fun x => { tmps := #[.int .i64 (o2 : Int), .int .i64 (s : Int), .int .i64 (t : Int), .pointer (some ⟨w.heap.size, 0, none⟩), undef, .pointer (some ⟨w.heap.size + 1, 0, none⟩), .int .i64 0, .int .i64 0, .int .i64 0, .int .i64 0, .pointer (some ⟨w.heap.size + 1 + 1, 0, none⟩), .pointer (some ⟨w.heap.size + 1 + 1 + 1, 0, none⟩), .int .i64 (x.val : Int), undef, .int .i64 (o2 : Int), .bool true, .bool false, .int .i64 (s : Int), .int .i64 (t : Int), .int .i64 0, .int .i64 0, .bool false, undef, .int .i64 (s : Int), .func (.func 60) #[] #[.pointer (some ⟨w.heap.size + 1 + 1 + 1 + 1, 0, none⟩)], .int .i64 (x.val : Int), undef, undef, undef, undef, undef, undef, undef, undef, undef, undef, undef, undef, undef, undef, undef, undef, undef, undef], defers := [] })
    ?assign ?body ?done ?stop
  case assign =>
    intro l x W K hK
    unfold plEnc
    gi_wp2
    exact hK
  case body =>
    rintro l pre x W ⟨⟨⟨bL1, bR1⟩, bO1, bT1⟩, hB1⟩ _
    have hlt := rfnL_lt (o := o2 - 2) ht pre
    have hpar := (HT.out.on hB1).par (o2 * 3 + x.val) (by have := x.isLt; omega)
    rw [par18_at ⟨o2, ho⟩ x ho2] at hpar
    have hsn := rfnL_snoc (o2 - 2) t (vals3 pre) x.val
    rw [← vals3_snoc] at hsn
    unfold rfnStep at hsn
    have hrl := parS_lt (o2 - 2) x.val
    dsimp only at hpar
    generalize parS (o2 - 2) x.val = rv at *
    generalize rfnL (o2 - 2) t (vals3 pre) = p at *
    gi_wp2_with fail
    refine refine_region9 (N := w.heap.size) (o2 := o2) (a := x.val) (t := t) (rv := rv) _ _ _ _ _ _ _ _ _ _ _ _ _ _ _ _ _ _ _ _ _ _ _ _ _ _ _ _ _ _ _ _ _ _ _ _ _ _ _ _ _ ho x.isLt ht hrl (by rintro ⟨_, _, h⟩; exact h) (fun _ _ _ _ h => h) bO1.cell bT1.cell hpar ?_
    have hfl : rv &&& t < 8 := and_lt8 hrl
    have hlt2 := bR1.lt
    have bL3 : Boxed W.drew (w.heap.size + 1 + 1) 3 (.int .i64 (p.1 : Int)) := bL1
    have bR3 : Boxed W.drew (w.heap.size + 1 + 1 + 1) 3 (.int .i64 (p.2 : Int)) := bR1
    have bO3 : Boxed W.drew w.heap.size 3 (.int .i64 (o2 : Int)) := bO1
    have bT3 : Boxed W.drew (w.heap.size + 1) 3 (.int .i64 (t : Int)) := bT1
    have k0 : Kb (w.heap.size + 1 + 1 + 1 + 1) W W.drew := Kb.refl _ _
    have hB3 := hB1.drew
    have kf0 := KeepsOthers.drew W
    by_cases hz : rv &&& t = 0
    · rw [if_pos hz] at hsn
      have HZ := Lib.hid hz
      rw [hz]
      clear hz
      gi_wp2
      exact ⟨kf0.from _, k0, ⟨⟨⟨by rw [hsn]; exact bL3, by rw [hsn]; exact bR3⟩, bO3, bT3⟩, hB3⟩⟩
    · rw [if_neg hz] at hsn
      have hor2 := bOr hlt.2 hfl
      generalize rv &&& t = f at *
      have t1 : ((f : Int) != 0) = true := by rw [bne_iff_ne]; omega
      gi_wp2_with fail
      generalize W.drew = W1 at *
      refine refine_region11 (B := w.heap.size + 1 + 1) (a := x.val) (acc := p.1) _ _ _ _ _ _ _ _ _ _ _ _ _ _ _ _ _ _ _ _ _ _ _ _ _ _ _ _ _ _ _ _ _ _ _ _ _ _ _ _ _ _ x.isLt hlt.1 (by rintro ⟨_, _, h⟩; exact h) (fun _ _ _ _ h => h) bL3.cell bL3.frozen ?_
      have bL4 : Boxed W1.drew (w.heap.size + 1 + 1) 3 (.int .i64 (p.1 : Int)) := bL3
      have bR4 : Boxed W1.drew (w.heap.size + 1 + 1 + 1) 3 (.int .i64 (p.2 : Int)) := bR3
      have bO4 : Boxed W1.drew w.heap.size 3 (.int .i64 (o2 : Int)) := bO3
      have bT4 : Boxed W1.drew (w.heap.size + 1) 3 (.int .i64 (t : Int)) := bT3
      have bL5 := bL4.set (.int .i64 (p.1 ||| 2 ^ x.val : Nat))
      have bR5 := bR4.other (B' := w.heap.size + 1 + 1) (by omega) (.int .i64 (p.1 ||| 2 ^ x.val : Nat))
      have bO5 := bO4.other (B' := w.heap.size + 1 + 1) (by omega) (.int .i64 (p.1 ||| 2 ^ x.val : Nat))
      have bT5 := bT4.other (B' := w.heap.size + 1 + 1) (by omega) (.int .i64 (p.1 ||| 2 ^ x.val : Nat))
      have k5 : Kb (w.heap.size + 1 + 1 + 1 + 1) W (W1.drew.setCell ⟨w.heap.size + 1 + 1, 0, none⟩ (.int .i64 (p.1 ||| 2 ^ x.val : Nat))) := Kb.set (W' := W1.drew) k0 _ _ (by simp)
      have hB5 := hB3.drew.setCell (p := ⟨w.heap.size + 1 + 1, 0, none⟩) (by simp; omega) (.int .i64 (p.1 ||| 2 ^ x.val : Nat))
      have kf5 := (kf0.trans (KeepsOthers.drew W1)).trans (KeepsOthers.setCell W1.drew ⟨w.heap.size + 1 + 1, 0, none⟩ (.int .i64 (p.1 ||| 2 ^ x.val : Nat)))
      clear bL4 bR4 bO4 bT4 bL3 bR3 bO3 bT3 k0 hB3 kf0
      generalize W1.drew.setCell ⟨w.heap.size + 1 + 1, 0, none⟩ (.int .i64 (p.1 ||| 2 ^ x.val : Nat)) = W5 at *
      have c5 := bR5.cell
      have f5 := bR5.frozen
      gi_wp2
      exact ⟨(kf5.trans (KeepsOthers.setCell _ _ _)).from _, k5.set _ _ (by simp), ⟨⟨⟨by rw [hsn]; exact bL5.other (by omega) _, by rw [hsn]; exact bR5.set _⟩, bO5.other (by omega) _, bT5.other (by omega) _⟩, hB5.setCell (p := ⟨w.heap.size + 1 + 1 + 1, 0, none⟩) (by simp; omega) _⟩⟩
  case done =>
    rintro D zs W hD hz ⟨⟨⟨bL1, bR1⟩, bO1, bT1⟩, hB1⟩ hK
    rw [hz] at bL1 bR1
    have c1 := bL1.cell
    have c2 := bR1.cell
    gi_wp2_with fail
    gi_region
    all_goals gi_wp2
    all_goals refine ⟨by simp, .inl ⟨_, _, rfl, run_takeDeferred (w := W.drew) hK, ?_⟩⟩
    all_goals refine ⟨_, by first | (simp [results, Tryd.results33, go_sem]; done) | (simp [results, Tryd.results33, go_sem]; exact ⟨rfl, rfl⟩), rfl, hB1.drew.trans (belowK_b (w := w) (Nat.le_refl _) W.drew D _ _ (by omega) hK rfl rfl)⟩
  case stop =>
    rintro D c pre W _ _ h _
    exact h.elim
theorem refine_any (o2 s t : Nat) (ho2 : 2 ≤ o2) (ho : o2 < 6) (hs : s < 8) (ht : t < 8) (w : World) (hT : SgTab w) :
    Calls Tryd.prog 33 #[.int .i64 (o2 : Int), .int .i64 (s : Int), .int .i64 (t : Int)] w fun e w' => e = .returned (.tuple #[.int .i64 ((rfn (o2 - 2) s t).1 : Nat), .int .i64 ((rfn (o2 - 2) s t).2 : Nat), .int .i64 0]) ∧ Below w.heap.size w w' :=
  (callsIn_wide (n := 6)).1 (refine_in 6 o2 s t (Nat.le_refl _) ho2 ho hs ht w hT)
end Go.Proofs.YtmnbjkbkjmgmkaaDoor
