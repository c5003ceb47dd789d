import Derived.Test.YtmnbjkbkjmgmkaaGreatDoorCut3
import Derived.Test.YtmnbjkbkjmgmkaaGreatDoorCut2
import Derived.Test.YtmnbjkbkjmgmkaaGreatDoorCut1
import Derived.Test.YtmnbjkbkjmgmkaaGreatDoorCut12

set_option linter.unusedVariables false
/-
  sign: Refine's regions.
-/
set_option linter.unusedSimpArgs false
set_option linter.unusedVariables false
namespace Go.Proofs.YtmnbjkbkjmgmkaaGreatDoor
open Go Go.Proofs Go.RowKit Go.Shelf
attribute [local go_sem] Oper.semAt_some
set_option maxRecDepth 100000 in
set_option maxHeartbeats 4000000 in
theorem refine_region9 {l m : Nat} {Q : Exit → Act → World → Prop} {W : World} (q0 q1 q2 q4 q6 q7 q8 q9 q10 q11 q13 q14 q15 q16 q17 q18 q19 q20 q21 q22 q23 q24 q25 q26 q27 q28 q29 q30 q31 q32 q33 q34 q35 q36 q37 q38 q39 q40 q41 q42 q43 : Value) {N o2 a t rv : Nat} (ho : o2 < 6) (ha : a < 3) (ht : t < 8) (hrv : rv < 8) (hQ : ¬ LetsOut Q) (hP : ∀ c a1 a2 w1, Q (.panic c) a1 w1 → Q (.panic c) a2 w1)
    (c0 : W.cell? ⟨N, 0, none⟩ = some (.int .i64 (o2 : Int))) (c1 : W.cell? ⟨N + 1, 0, none⟩ = some (.int .i64 (t : Int))) (c2 : W.cell? ⟨0, o2 * 3 + a, none⟩ = some (.int .i64 (rv : Int))) 
    (hend : Q .normal { tmps := #[q0, q1, q2, .pointer (some ⟨N, 0, none⟩), q4, .pointer (some ⟨N + 1, 0, none⟩), q6, q7, q8, q9, q10, q11, .int .i64 (a : Int), .int .i64 (rv &&& t : Nat), q14, q15, q16, q17, q18, q19, q20, q21, q22, q23, q24, q25, .int .i64 (o2 : Int), .int .i64 (a : Int), .pointer (some ⟨0, o2 * 3, none⟩), .pointer (some ⟨0, o2 * 3 + a, none⟩), .int .i64 (rv : Int), .int .i64 (t : Int), .int .i64 (rv &&& t : Nat), q33, q34, q35, q36, q37, q38, q39, q40, q41, q42, q43], defers := [] } (W.drew)) :
    (Code.region 9 #[{ dst := some 26, op := Op.load 3 (Operand.tmp 3), type := 3, pos := "sign.go:121", after := #[], guard := none }, { dst := some 27, op := Op.move (Operand.tmp 12), type := 3, pos := "sign.go:121", after := #[], guard := none }, { dst := some 28, op := Op.indexAddr 56 (Operand.global 0) (Operand.tmp 26), type := 0, pos := "sign.go:121", after := #[{ on := 0, ground := Ground.data }], guard := none }, { dst := some 29, op := Op.indexAddr 55 (Operand.tmp 28) (Operand.tmp 27), type := 0, pos := "sign.go:121", after := #[{ on := 2, ground := Ground.data }, { on := 1, ground := Ground.data }], guard := none }, { dst := some 30, op := Op.load 3 (Operand.tmp 29), type := 3, pos := "sign.go:121", after := #[{ on := 3, ground := Ground.data }], guard := none }, { dst := some 31, op := Op.load 3 (Operand.tmp 5), type := 3, pos := "sign.go:121", after := #[], guard := none }, { dst := some 32, op := Op.binOp BinOp.and 3 (Operand.tmp 30) (Operand.tmp 31) 3, type := 3, pos := "sign.go:121", after := #[{ on := 4, ground := Ground.data }, { on := 5, ground := Ground.data }], guard := none }, { dst := some 13, op := Op.assign (Operand.tmp 32), type := 3, pos := "sign.go:121", after := #[{ on := 6, ground := Ground.data }, { on := 0, ground := Ground.phase }, { on := 1, ground := Ground.phase }, { on := 2, ground := Ground.phase }, { on := 3, ground := Ground.phase }, { on := 4, ground := Ground.phase }, { on := 5, ground := Ground.phase }, { on := 6, ground := Ground.phase }], guard := none }] true).wpIn (Fence.wide.inRound l) m Tryz.prog Q { tmps := #[q0, q1, q2, .pointer (some ⟨N, 0, none⟩), q4, .pointer (some ⟨N + 1, 0, none⟩), q6, q7, q8, q9, q10, q11, .int .i64 (a : Int), q13, q14, q15, q16, q17, q18, q19, q20, q21, q22, q23, q24, q25, q26, q27, q28, q29, q30, q31, q32, q33, q34, q35, q36, q37, q38, q39, q40, q41, q42, q43], defers := [] } W := by
  have hand := bAnd hrv ht
  have p0 : (0 : Int) ≤ (o2 : Int) := by omega
  have p1 : (o2 : Int) < 6 := by omega
  have p2 : (0 : Int) ≤ (a : Int) := by omega
  have p3 : (a : Int) < 3 := by omega
  refine wpIn_region_hot (fun j => false) (fun w' => w'.cell? ⟨N, 0, none⟩ = some (.int .i64 (o2 : Int)) ∧ w'.cell? ⟨N + 1, 0, none⟩ = some (.int .i64 (t : Int)) ∧ w'.cell? ⟨0, o2 * 3 + a, none⟩ = some (.int .i64 (rv : Int))) (by kernel_rfl) (by kernel_rfl) hQ ⟨c0, c1, c2⟩ (fun hHeld => ?_)
  refine hot_take (i := 0) (oi := { dst := some 26, op := Op.load 3 (Operand.tmp 3), type := 3, pos := "sign.go:121", after := #[], guard := none }) (v := ?v0) rfl (by kernel_rfl) (by kernel_rfl) (by kernel_rfl) rfl (by kernel_rfl) (by kernel_rfl) (fun _ _ _ h => hP _ _ _ _ h) (Or.inl ⟨by rfl, ?h0⟩) (by assumption) ?r0
  case h0 => (intro w hSw; (try dsimp only at hSw); obtain ⟨s0, s1, s2⟩ := hSw; go_simp; try with_reducible rfl)
  (try simp only [Act.put, List.setIfInBounds_toArray, List.set_cons_zero, List.set_cons_succ])
  refine hot_take (i := 1) (oi := { dst := some 27, op := Op.move (Operand.tmp 12), type := 3, pos := "sign.go:121", after := #[], guard := none }) (v := ?v1) rfl (by kernel_rfl) (by kernel_rfl) (by kernel_rfl) rfl (by kernel_rfl) (by kernel_rfl) (fun _ _ _ h => hP _ _ _ _ h) (Or.inl ⟨by rfl, ?h1⟩) (by assumption) ?r1
  case h1 => (intro w hSw; (try dsimp only at hSw); obtain ⟨s0, s1, s2⟩ := hSw; go_simp; try with_reducible rfl)
  (try simp only [Act.put, List.setIfInBounds_toArray, List.set_cons_zero, List.set_cons_succ])
  refine hot_take (i := 2) (oi := { dst := some 28, op := Op.indexAddr 56 (Operand.global 0) (Operand.tmp 26), type := 0, pos := "sign.go:121", after := #[{ on := 0, ground := Ground.data }], guard := none }) (v := ?v2) rfl (by kernel_rfl) (by kernel_rfl) (by kernel_rfl) rfl (by kernel_rfl) (by kernel_rfl) (fun _ _ _ h => hP _ _ _ _ h) (Or.inl ⟨by rfl, ?h2⟩) (by assumption) ?r2
  case h2 => (intro w hSw; (try dsimp only at hSw); obtain ⟨s0, s1, s2⟩ := hSw; go_simp; try with_reducible rfl)
  (try simp only [Act.put, List.setIfInBounds_toArray, List.set_cons_zero, List.set_cons_succ])
  refine hot_take (i := 3) (oi := { dst := some 29, op := Op.indexAddr 55 (Operand.tmp 28) (Operand.tmp 27), type := 0, pos := "sign.go:121", after := #[{ on := 2, ground := Ground.data }, { on := 1, ground := Ground.data }], guard := none }) (v := ?v3) rfl (by kernel_rfl) (by kernel_rfl) (by kernel_rfl) rfl (by kernel_rfl) (by kernel_rfl) (fun _ _ _ h => hP _ _ _ _ h) (Or.inl ⟨by rfl, ?h3⟩) (by assumption) ?r3
  case h3 => (intro w hSw; (try dsimp only at hSw); obtain ⟨s0, s1, s2⟩ := hSw; go_simp; try with_reducible rfl)
  (try simp only [Act.put, List.setIfInBounds_toArray, List.set_cons_zero, List.set_cons_succ])
  refine hot_take (i := 4) (oi := { dst := some 30, op := Op.load 3 (Operand.tmp 29), type := 3, pos := "sign.go:121", after := #[{ on := 3, ground := Ground.data }], guard := none }) (v := ?v4) rfl (by kernel_rfl) (by kernel_rfl) (by kernel_rfl) rfl (by kernel_rfl) (by kernel_rfl) (fun _ _ _ h => hP _ _ _ _ h) (Or.inl ⟨by rfl, ?h4⟩) (by assumption) ?r4
  case h4 => (intro w hSw; (try dsimp only at hSw); obtain ⟨s0, s1, s2⟩ := hSw; go_simp; try with_reducible rfl)
  (try simp only [Act.put, List.setIfInBounds_toArray, List.set_cons_zero, List.set_cons_succ])
  refine hot_take (i := 5) (oi := { dst := some 31, op := Op.load 3 (Operand.tmp 5), type := 3, pos := "sign.go:121", after := #[], guard := none }) (v := ?v5) rfl (by kernel_rfl) (by kernel_rfl) (by kernel_rfl) rfl (by kernel_rfl) (by kernel_rfl) (fun _ _ _ h => hP _ _ _ _ h) (Or.inl ⟨by rfl, ?h5⟩) (by assumption) ?r5
  case h5 => (intro w hSw; (try dsimp only at hSw); obtain ⟨s0, s1, s2⟩ := hSw; go_simp; try with_reducible rfl)
  (try simp only [Act.put, List.setIfInBounds_toArray, List.set_cons_zero, List.set_cons_succ])
  refine hot_take (i := 6) (oi := { dst := some 32, op := Op.binOp BinOp.and 3 (Operand.tmp 30) (Operand.tmp 31) 3, type := 3, pos := "sign.go:121", after := #[{ on := 4, ground := Ground.data }, { on := 5, ground := Ground.data }], guard := none }) (v := ?v6) rfl (by kernel_rfl) (by kernel_rfl) (by kernel_rfl) rfl (by kernel_rfl) (by kernel_rfl) (fun _ _ _ h => hP _ _ _ _ h) (Or.inl ⟨by rfl, ?h6⟩) (by assumption) ?r6
  case h6 => (intro w hSw; (try dsimp only at hSw); obtain ⟨s0, s1, s2⟩ := hSw; go_simp; try with_reducible rfl)
  (try simp only [Act.put, List.setIfInBounds_toArray, List.set_cons_zero, List.set_cons_succ])
  refine hot_take (i := 7) (oi := { dst := some 13, op := Op.assign (Operand.tmp 32), type := 3, pos := "sign.go:121", after := #[{ on := 6, ground := Ground.data }, { on := 0, ground := Ground.phase }, { on := 1, ground := Ground.phase }, { on := 2, ground := Ground.phase }, { on := 3, ground := Ground.phase }, { on := 4, ground := Ground.phase }, { on := 5, ground := Ground.phase }, { on := 6, ground := Ground.phase }], guard := none }) (v := ?v7) rfl (by kernel_rfl) (by kernel_rfl) (by kernel_rfl) rfl (by kernel_rfl) (by kernel_rfl) (fun _ _ _ h => hP _ _ _ _ h) (Or.inl ⟨by rfl, ?h7⟩) (by assumption) ?r7
  case h7 => (intro w hSw; (try dsimp only at hSw); obtain ⟨s0, s1, s2⟩ := hSw; go_simp; try with_reducible rfl)
  (try simp only [Act.put, List.setIfInBounds_toArray, List.set_cons_zero, List.set_cons_succ])
  refine hot_done (by kernel_rfl) ?_ _
  exact hend
set_option maxRecDepth 100000 in
set_option maxHeartbeats 4000000 in
theorem refine_region11 {l m : Nat} {Q : Exit → Act → World → Prop} {W : World} (q0 q1 q2 q3 q4 q5 q6 q7 q8 q9 q11 q13 q14 q15 q16 q17 q18 q19 q20 q21 q22 q23 q24 q25 q26 q27 q28 q29 q30 q31 q32 q33 q34 q35 q36 q37 q38 q39 q40 q41 q42 q43 : Value) {B a acc : Nat} (ha : a < 3) (hac : acc < 8) (hQ : ¬ LetsOut Q) (hP : ∀ c a1 a2 w1, Q (.panic c) a1 w1 → Q (.panic c) a2 w1)
    (c0 : W.cell? ⟨B, 0, none⟩ = some (.int .i64 (acc : Int))) (f0 : W.frozen? ⟨B, 0, none⟩ = false)
    (hend : Q .normal { tmps := #[q0, q1, q2, q3, q4, q5, q6, q7, q8, q9, .pointer (some ⟨B, 0, none⟩), q11, .int .i64 (a : Int), q13, q14, q15, q16, q17, q18, q19, q20, q21, q22, q23, q24, q25, q26, q27, q28, q29, q30, q31, q32, q33, q34, .int .i64 (acc : Int), .int .i64 (a : Int), .int .i64 (2 ^ a : Nat), .int .i64 (acc ||| 2 ^ a : Nat), q39, q40, q41, q42, q43], defers := [] } (W.drew.setCell ⟨B, 0, none⟩ (.int .i64 (acc ||| 2 ^ a : Nat)))) :
    (Code.region 11 #[{ dst := some 35, op := Op.load 3 (Operand.tmp 10), type := 3, pos := "sign.go:122", after := #[], guard := none }, { dst := some 36, op := Op.move (Operand.tmp 12), type := 3, pos := "sign.go:122", after := #[], guard := none }, { dst := some 37, op := Op.binOp BinOp.shl 3 (Operand.const (Value.int IntKind.i64 1)) (Operand.tmp 36) 3, type := 3, pos := "sign.go:122", after := #[{ on := 1, ground := Ground.data }], guard := none }, { dst := some 38, op := Op.binOp BinOp.or 3 (Operand.tmp 35) (Operand.tmp 37) 3, type := 3, pos := "sign.go:122", after := #[{ on := 0, ground := Ground.data }, { on := 2, ground := Ground.data }], guard := none }, { dst := none, op := Op.store 3 (Operand.tmp 10) (Operand.tmp 38), type := 0, pos := "sign.go:122", after := #[{ on := 3, ground := Ground.data }, { on := 0, ground := Ground.phase }, { on := 1, ground := Ground.phase }, { on := 2, ground := Ground.phase }, { on := 3, ground := Ground.phase }], guard := none }] true).wpIn (Fence.wide.inRound l) m Tryz.prog Q { tmps := #[q0, q1, q2, q3, q4, q5, q6, q7, q8, q9, .pointer (some ⟨B, 0, none⟩), q11, .int .i64 (a : Int), q13, q14, q15, q16, q17, q18, q19, q20, q21, q22, q23, q24, q25, q26, q27, q28, q29, q30, q31, q32, q33, q34, q35, q36, q37, q38, q39, q40, q41, q42, q43], defers := [] } W := by
  have h2 : 2 ^ a < 8 := by rcases (show a = 0 ∨ a = 1 ∨ a = 2 by omega) with rfl | rfl | rfl <;> decide
  have hor := bOr hac h2
  have hw : IntKind.i64.wrap ((2 : Int) ^ a) = ((2 ^ a : Nat) : Int) := by rcases (show a = 0 ∨ a = 1 ∨ a = 2 by omega) with rfl | rfl | rfl <;> rfl
  generalize 2 ^ a = pa at *
  refine wpIn_region_hot (fun j => j == 4) (fun w' => w'.cell? ⟨B, 0, none⟩ = some (.int .i64 (acc : Int))) (by kernel_rfl) (by kernel_rfl) hQ c0 (fun hHeld => ?_)
  refine hot_take (i := 0) (oi := { dst := some 35, op := Op.load 3 (Operand.tmp 10), type := 3, pos := "sign.go:122", after := #[], guard := none }) (v := ?v0) rfl (by kernel_rfl) (by kernel_rfl) (by kernel_rfl) rfl (by kernel_rfl) (by kernel_rfl) (fun _ _ _ h => hP _ _ _ _ h) (Or.inl ⟨by rfl, ?h0⟩) (by assumption) ?r0
  case h0 => (intro w hSw; (try dsimp only at hSw); obtain s0 := hSw; go_simp; try with_reducible rfl)
  (try simp only [Act.put, List.setIfInBounds_toArray, List.set_cons_zero, List.set_cons_succ])
  refine hot_take (i := 1) (oi := { dst := some 36, op := Op.move (Operand.tmp 12), type := 3, pos := "sign.go:122", after := #[], guard := none }) (v := ?v1) rfl (by kernel_rfl) (by kernel_rfl) (by kernel_rfl) rfl (by kernel_rfl) (by kernel_rfl) (fun _ _ _ h => hP _ _ _ _ h) (Or.inl ⟨by rfl, ?h1⟩) (by assumption) ?r1
  case h1 => (intro w hSw; (try dsimp only at hSw); obtain s0 := hSw; go_simp; try with_reducible rfl)
  (try simp only [Act.put, List.setIfInBounds_toArray, List.set_cons_zero, List.set_cons_succ])
  refine hot_take (i := 2) (oi := { dst := some 37, op := Op.binOp BinOp.shl 3 (Operand.const (Value.int IntKind.i64 1)) (Operand.tmp 36) 3, type := 3, pos := "sign.go:122", after := #[{ on := 1, ground := Ground.data }], guard := none }) (v := ?v2) rfl (by kernel_rfl) (by kernel_rfl) (by kernel_rfl) rfl (by kernel_rfl) (by kernel_rfl) (fun _ _ _ h => hP _ _ _ _ h) (Or.inl ⟨by rfl, ?h2⟩) (by assumption) ?r2
  case h2 => (intro w hSw; (try dsimp only at hSw); obtain s0 := hSw; go_simp; try with_reducible rfl)
  (try simp only [Act.put, List.setIfInBounds_toArray, List.set_cons_zero, List.set_cons_succ])
  refine hot_take (i := 3) (oi := { dst := some 38, op := Op.binOp BinOp.or 3 (Operand.tmp 35) (Operand.tmp 37) 3, type := 3, pos := "sign.go:122", after := #[{ on := 0, ground := Ground.data }, { on := 2, ground := Ground.data }], guard := none }) (v := ?v3) rfl (by kernel_rfl) (by kernel_rfl) (by kernel_rfl) rfl (by kernel_rfl) (by kernel_rfl) (fun _ _ _ h => hP _ _ _ _ h) (Or.inl ⟨by rfl, ?h3⟩) (by assumption) ?r3
  case h3 => (intro w hSw; (try dsimp only at hSw); obtain s0 := hSw; go_simp; try with_reducible rfl)
  (try simp only [Act.put, List.setIfInBounds_toArray, List.set_cons_zero, List.set_cons_succ])
  refine hot_one (i := 4) (oi := { dst := none, op := Op.store 3 (Operand.tmp 10) (Operand.tmp 38), type := 0, pos := "sign.go:122", after := #[{ on := 3, ground := Ground.data }, { on := 0, ground := Ground.phase }, { on := 1, ground := Ground.phase }, { on := 2, ground := Ground.phase }, { on := 3, ground := Ground.phase }], guard := none }) rfl (by kernel_rfl) (fun K hK => ?_)
  go_simp
  refine hK.out _ _ (fun h => by cases h) ?_
  clear hK K
  refine hot_done (by kernel_rfl) ?_ _
  exact hend
set_option maxHeartbeats 1000000 in
theorem isComparison_any (o : Int) (w : World) : Calls Tryz.prog 32 #[.int .i64 o] w fun e w' => e = .returned (.bool (decide (2 ≤ o ∧ o ≤ 5))) ∧ w' = w := by
  by_cases e2 : o = 2
  · subst e2
    go_enter Tryz.func32, Tryz.ntmps32
    go_wp2
    go_ret
    exact ⟨rfl, rfl⟩
  by_cases e3 : o = 3
  · subst e3
    go_enter Tryz.func32, Tryz.ntmps32
    go_wp2
    go_ret
    exact ⟨rfl, rfl⟩
  by_cases e4 : o = 4
  · subst e4
    go_enter Tryz.func32, Tryz.ntmps32
    go_wp2
    go_ret
    exact ⟨rfl, rfl⟩
  by_cases e5 : o = 5
  · subst e5
    go_enter Tryz.func32, Tryz.ntmps32
    go_wp2
    go_ret
    exact ⟨rfl, rfl⟩
  rw [decide_eq_false (by omega)]
  go_enter Tryz.func32, Tryz.ntmps32
  go_wp2
  go_ret
  exact ⟨rfl, rfl⟩
set_option maxHeartbeats 4000000 in
theorem refine_arg (o s t : Int) (w : World) (h : ¬ (2 ≤ o ∧ o ≤ 5)) :
    Calls Tryz.prog 17 #[.int .i64 o, .int .i64 s, .int .i64 t] w fun e w' => e = .returned (.tuple #[.int .i64 0, .int .i64 0, .int .i64 1]) ∧ Below w.heap.size w w' := by
  have C1 := fun W => isComparison_any o W
  rw [decide_eq_false h] at C1
  have K1 := Lib.hid C1; clear C1 h
  go_enter Tryz.func17, Tryz.ntmps17
  go_wp2_with (go_at_call 32; refine (K1.out _).mono ?_; rintro e w1 ⟨rfl, rfl⟩)
  refine bodyPost_ret (by first | (simp [results, Tryz.results17, go_sem]; done) | (simp [results, Tryz.results17, go_sem]; rfl)) rfl ?_
  exact ⟨rfl, by go_grown⟩
set_option maxHeartbeats 4000000 in
theorem refine_bad (o s t : Int) (w : World) (ho : 2 ≤ o ∧ o ≤ 5) (h : errB s t ≠ 0) :
    Calls Tryz.prog 17 #[.int .i64 o, .int .i64 s, .int .i64 t] w fun e w' => e = .returned (.tuple #[.int .i64 0, .int .i64 0, .int .i64 2]) ∧ Below w.heap.size w w' := by
  have C1 := fun W => isComparison_any o W
  rw [decide_eq_true ho] at C1
  have C2 := fun W => sgBoth_any s t W
  have e2 : errB s t = 2 := by rcases errB_cases s t with ⟨-, -, e⟩ | ⟨-, e⟩
                               · exact absurd e h
                               · exact e
  rw [e2] at C2
  have K1 := Lib.hid C1; have K2 := Lib.hid C2; clear C1 C2 ho h e2
  go_enter Tryz.func17, Tryz.ntmps17
  go_wp2_with (first | (go_at_call 32; refine (K1.out _).mono ?_; rintro e w1 ⟨rfl, rfl⟩) | (go_at_call 33; refine (K2.out _).mono ?_; rintro e w1 ⟨rfl, rfl⟩))
  refine bodyPost_ret (by first | (simp [results, Tryz.results17, go_sem]; done) | (simp [results, Tryz.results17, go_sem]; rfl)) rfl ?_
  exact ⟨rfl, by go_grown⟩
theorem rfnStep_lt {o t : Nat} (ht : t < 8) (p : Nat × Nat) (a : Nat) (ha : a < 3) (h : p.1 < 8 ∧ p.2 < 8) : (rfnStep o t p a).1 < 8 ∧ (rfnStep o t p a).2 < 8 := by
  unfold rfnStep
  split
  · exact h
  · have h2 : 2 ^ a < 8 := by rcases (show a = 0 ∨ a = 1 ∨ a = 2 by omega) with rfl | rfl | rfl <;> decide
    exact ⟨or_lt8 h.1 h2, or_lt8 h.2 (and_lt8 (parS_lt _ _))⟩
theorem rfnL_lt {o t : Nat} (ht : t < 8) (l : List (Fin 3)) : (rfnL o t (vals3 l)).1 < 8 ∧ (rfnL o t (vals3 l)).2 < 8 := by
  have : ∀ (l : List (Fin 3)) (p : Nat × Nat), p.1 < 8 ∧ p.2 < 8 → ((vals3 l).foldl (rfnStep o t) p).1 < 8 ∧ ((vals3 l).foldl (rfnStep o t) p).2 < 8 := by
    intro l
    induction l with
    | nil => exact fun _ h => h
    | cons a l ih => exact fun p h => ih _ (rfnStep_lt ht p a.val a.isLt h)
  exact this l (0, 0) ⟨by decide, by decide⟩
theorem par18_at : ∀ o2 : Fin 6, ∀ a : Fin 3, 2 ≤ o2.val → par18.getD (o2.val * 3 + a.val) 0 = parS (o2.val - 2) a.val := by decide
set_option maxRecDepth 100000 in
set_option maxHeartbeats 8000000 in
theorem refine_in (n o2 s t : Nat) (hn : 6 ≤ n) (ho2 : 2 ≤ o2) (ho : o2 < 6) (hs : s < 8) (ht : t < 8) (w : World) (hT : SgTab w) :
    CallsIn Fence.wide n Tryz.prog 17 #[.int .i64 (o2 : Int), .int .i64 (s : Int), .int .i64 (t : Int)] w fun e w' => e = .returned (.tuple #[.int .i64 ((rfn (o2 - 2) s t).1 : Nat), .int .i64 ((rfn (o2 - 2) s t).2 : Nat), .int .i64 0]) ∧ Below w.heap.size w w' := by
  have h1 : 1 ≤ n := by omega
  have C1 := fun W => isComparison_any (o2 : Int) W
  rw [decide_eq_true (by omega)] at C1
  have C2 := fun W => sgBoth_any s t W
  rw [errB_ok (okS_of hs) (okS_of ht)] at C2
  have K1 := Lib.hid C1; have K2 := Lib.hid C2; clear C1 C2
  have HT := Lib.hid hT; clear hT
  refine callsIn_of_wp_marks Tryz.func17 rfl trivial ?_ rfl
  simp only [Tryz.ntmps17, List.size_toArray, List.length_cons, List.length_nil, Nat.reduceAdd, Nat.reduceSub, Array.replicate_succ, Array.replicate_zero, List.push_toArray, List.append_toArray, List.nil_append, List.cons_append]
  gi_wp2_with (first | (refine ⟨trivial, ?_⟩; gi_at_call 32; refine (callsIn_wide.2 (K1.out _)).mono ?_; rintro e w' ⟨rfl, rfl⟩) | (refine ⟨trivial, ?_⟩; gi_at_call 33; refine (callsIn_wide.2 (K2.out _)).mono ?_; rintro e w' ⟨rfl, rfl⟩) | (refine ⟨trivial, ?_⟩; gi_at_call 34; refine (places_in Fence.wide _ trivial rfl _ _).mono ?_; rintro e w' ⟨rfl, rfl⟩))
  have bO := ((((Boxed.new w 3 (.int .i64 (o2 : Int))).alloc (.cells #[.int .i64 (t : Int)] 3)).alloc (.cells #[.int .i64 0] 3)).alloc (.cells #[.int .i64 0] 3)).alloc (.cells #[.int .i64 (s : Int)] 3)
  have bT := (((Boxed.new (w.alloc (.cells #[.int .i64 (o2 : Int)] 3)) 3 (.int .i64 (t : Int))).alloc (.cells #[.int .i64 0] 3)).alloc (.cells #[.int .i64 0] 3)).alloc (.cells #[.int .i64 (s : Int)] 3)
  have bL := ((Boxed.new ((w.alloc (.cells #[.int .i64 (o2 : Int)] 3)).alloc (.cells #[.int .i64 (t : Int)] 3)) 3 (.int .i64 0)).alloc (.cells #[.int .i64 0] 3)).alloc (.cells #[.int .i64 (s : Int)] 3)
  have bR := (Boxed.new (((w.alloc (.cells #[.int .i64 (o2 : Int)] 3)).alloc (.cells #[.int .i64 (t : Int)] 3)).alloc (.cells #[.int .i64 0] 3)) 3 (.int .i64 0)).alloc (.cells #[.int .i64 (s : Int)] 3)
  have bS := Boxed.new ((((w.alloc (.cells #[.int .i64 (o2 : Int)] 3)).alloc (.cells #[.int .i64 (t : Int)] 3)).alloc (.cells #[.int .i64 0] 3)).alloc (.cells #[.int .i64 0] 3)) 3 (.int .i64 (s : Int))
  simp only [World.size_alloc] at bT bL bR bS
  have hB0 : Below w.heap.size w (((((w.alloc (.cells #[.int .i64 (o2 : Int)] 3)).alloc (.cells #[.int .i64 (t : Int)] 3)).alloc (.cells #[.int .i64 0] 3)).alloc (.cells #[.int .i64 0] 3)).alloc (.cells #[.int .i64 (s : Int)] 3)) := (((((Below.refl _ w).alloc (Nat.le_refl _) _).alloc (by simp) _).alloc (by simp; omega) _).alloc (by simp; omega) _).alloc (by simp; omega) _
  have hsz : (((((w.alloc (.cells #[.int .i64 (o2 : Int)] 3)).alloc (.cells #[.int .i64 (t : Int)] 3)).alloc (.cells #[.int .i64 0] 3)).alloc (.cells #[.int .i64 0] 3)).alloc (.cells #[.int .i64 (s : Int)] 3)).heap.size = w.heap.size + 5 := by simp
  obtain ⟨W0, hW0⟩ : ∃ W0, ((((w.alloc (.cells #[.int .i64 (o2 : Int)] 3)).alloc (.cells #[.int .i64 (t : Int)] 3)).alloc (.cells #[.int .i64 0] 3)).alloc (.cells #[.int .i64 0] 3)).alloc (.cells #[.int .i64 (s : Int)] 3) = W0 := ⟨_, rfl⟩
  rw [hW0] at bO bT bL bR bS hB0 hsz ⊢
  clear hW0
  have hBS : w.heap.size + 1 + 1 + 1 + 1 < W0.heap.size := by omega
  refine wpIn_rangeFunc_ownG rfl h1 (gf := 50) (lb := #[.pointer (some ⟨w.heap.size + 1 + 1 + 1 + 1, 0, none⟩)]) rfl trivial (enters_of Tryz.func50 (by kernel_rfl) rfl)
    (places_stops Fence.wide (n - 1) trivial rfl (by omega) (w.heap.size + 1 + 1 + 1 + 1) s hs W0 hBS bS.cell) Kb.trans (kb_b hBS) (Below.refl _ _) (by intro x; rfl)
    (fun pre W => ((Boxed W (w.heap.size + 1 + 1) 3 (.int .i64 ((rfnL (o2 - 2) t (vals3 pre)).1 : Nat)) ∧ Boxed W (w.heap.size + 1 + 1 + 1) 3 (.int .i64 ((rfnL (o2 - 2) t (vals3 pre)).2 : Nat))) ∧ (Boxed W w.heap.size 3 (.int .i64 (o2 : Int)) ∧ Boxed W (w.heap.size + 1) 3 (.int .i64 (t : Int)))) ∧ Below w.heap.size w W)
    (fun _ _ _ => False)
    (OwnFrom.and (OwnFrom.and (OwnFrom.and (Own.from (boxed_own _ _ _) _) (Own.from (boxed_own _ _ _) _)) (OwnFrom.and (Own.from (boxed_own _ _ _) _) (Own.from (boxed_own _ _ _) _))) (ownFrom_below (Nat.le_refl _) (by omega)))
    (fun _ _ _ _ _ hs _ _ => hs)
    ⟨⟨⟨bL, bR⟩, bO, bT⟩, hB0⟩
    (fun x => { tmps := #[.int .i64 (o2 : Int), .int .i64 (s : Int), .int .i64 (t : Int), .pointer (some ⟨w.heap.size, 0, none⟩), undef, .pointer (some ⟨w.heap.size + 1, 0, none⟩), .int .i64 0, .int .i64 0, .int .i64 0, .int .i64 0, .pointer (some ⟨w.heap.size + 1 + 1, 0, none⟩), .pointer (some ⟨w.heap.size + 1 + 1 + 1, 0, none⟩), .int .i64 (x.val : Int), undef, .int .i64 (o2 : Int), .bool true, .bool false, .int .i64 (s : Int), .int .i64 (t : Int), .int .i64 0, .int .i64 0, .bool false, undef, .int .i64 (s : Int), .func (.func 50) #[] #[.pointer (some ⟨w.heap.size + 1 + 1 + 1 + 1, 0, none⟩)], .int .i64 (x.val : Int), undef, undef, undef, undef, undef, undef, undef, undef, undef, undef, undef, undef, undef, undef, undef, undef, undef, undef], defers := [] })
    ?assign ?body ?done ?stop
  case assign =>
    intro l x W K hK
    unfold plEnc
    gi_wp2
    exact hK
  case body =>
    rintro l pre x W ⟨⟨⟨bL1, bR1⟩, bO1, bT1⟩, hB1⟩ _
    have hlt := rfnL_lt (o := o2 - 2) ht pre
    have hpar := (HT.out.on hB1).par (o2 * 3 + x.val) (by have := x.isLt; omega)
    rw [par18_at ⟨o2, ho⟩ x ho2] at hpar
    have hsn := rfnL_snoc (o2 - 2) t (vals3 pre) x.val
    rw [← vals3_snoc] at hsn
    unfold rfnStep at hsn
    have hrl := parS_lt (o2 - 2) x.val
    dsimp only at hpar
    generalize parS (o2 - 2) x.val = rv at *
    generalize rfnL (o2 - 2) t (vals3 pre) = p at *
    gi_wp2_with fail
    refine refine_region9 (N := w.heap.size) (o2 := o2) (a := x.val) (t := t) (rv := rv) _ _ _ _ _ _ _ _ _ _ _ _ _ _ _ _ _ _ _ _ _ _ _ _ _ _ _ _ _ _ _ _ _ _ _ _ _ _ _ _ _ ho x.isLt ht hrl (by rintro ⟨_, _, h⟩; exact h) (fun _ _ _ _ h => h) bO1.cell bT1.cell hpar ?_
    have hfl : rv &&& t < 8 := and_lt8 hrl
    have hlt2 := bR1.lt
    have bL3 : Boxed W.drew (w.heap.size + 1 + 1) 3 (.int .i64 (p.1 : Int)) := bL1
    have bR3 : Boxed W.drew (w.heap.size + 1 + 1 + 1) 3 (.int .i64 (p.2 : Int)) := bR1
    have bO3 : Boxed W.drew w.heap.size 3 (.int .i64 (o2 : Int)) := bO1
    have bT3 : Boxed W.drew (w.heap.size + 1) 3 (.int .i64 (t : Int)) := bT1
    have k0 : Kb (w.heap.size + 1 + 1 + 1 + 1) W W.drew := Kb.refl _ _
    have hB3 := hB1.drew
    have kf0 := KeepsOthers.drew W
    by_cases hz : rv &&& t = 0
    · rw [if_pos hz] at hsn
      have HZ := Lib.hid hz
      rw [hz]
      clear hz
      gi_wp2
      exact ⟨kf0.from _, k0, ⟨⟨⟨by rw [hsn]; exact bL3, by rw [hsn]; exact bR3⟩, bO3, bT3⟩, hB3⟩⟩
    · rw [if_neg hz] at hsn
      have hor2 := bOr hlt.2 hfl
      generalize rv &&& t = f at *
      have t1 : ((f : Int) != 0) = true := by rw [bne_iff_ne]; omega
      gi_wp2_with fail
      generalize W.drew = W1 at *
      refine refine_region11 (B := w.heap.size + 1 + 1) (a := x.val) (acc := p.1) _ _ _ _ _ _ _ _ _ _ _ _ _ _ _ _ _ _ _ _ _ _ _ _ _ _ _ _ _ _ _ _ _ _ _ _ _ _ _ _ _ _ x.isLt hlt.1 (by rintro ⟨_, _, h⟩; exact h) (fun _ _ _ _ h => h) bL3.cell bL3.frozen ?_
      have bL4 : Boxed W1.drew (w.heap.size + 1 + 1) 3 (.int .i64 (p.1 : Int)) := bL3
      have bR4 : Boxed W1.drew (w.heap.size + 1 + 1 + 1) 3 (.int .i64 (p.2 : Int)) := bR3
      have bO4 : Boxed W1.drew w.heap.size 3 (.int .i64 (o2 : Int)) := bO3
      have bT4 : Boxed W1.drew (w.heap.size + 1) 3 (.int .i64 (t : Int)) := bT3
      have bL5 := bL4.set (.int .i64 (p.1 ||| 2 ^ x.val : Nat))
      have bR5 := bR4.other (B' := w.heap.size + 1 + 1) (by omega) (.int .i64 (p.1 ||| 2 ^ x.val : Nat))
      have bO5 := bO4.other (B' := w.heap.size + 1 + 1) (by omega) (.int .i64 (p.1 ||| 2 ^ x.val : Nat))
      have bT5 := bT4.other (B' := w.heap.size + 1 + 1) (by omega) (.int .i64 (p.1 ||| 2 ^ x.val : Nat))
      have k5 : Kb (w.heap.size + 1 + 1 + 1 + 1) W (W1.drew.setCell ⟨w.heap.size + 1 + 1, 0, none⟩ (.int .i64 (p.1 ||| 2 ^ x.val : Nat))) := Kb.set (W' := W1.drew) k0 _ _ (by simp)
      have hB5 := hB3.drew.setCell (p := ⟨w.heap.size + 1 + 1, 0, none⟩) (by simp; omega) (.int .i64 (p.1 ||| 2 ^ x.val : Nat))
      have kf5 := (kf0.trans (KeepsOthers.drew W1)).trans (KeepsOthers.setCell W1.drew ⟨w.heap.size + 1 + 1, 0, none⟩ (.int .i64 (p.1 ||| 2 ^ x.val : Nat)))
      clear bL4 bR4 bO4 bT4 bL3 bR3 bO3 bT3 k0 hB3 kf0
      generalize W1.drew.setCell ⟨w.heap.size + 1 + 1, 0, none⟩ (.int .i64 (p.1 ||| 2 ^ x.val : Nat)) = W5 at *
      have c5 := bR5.cell
      have f5 := bR5.frozen
      gi_wp2
      exact ⟨(kf5.trans (KeepsOthers.setCell _ _ _)).from _, k5.set _ _ (by simp), ⟨⟨⟨by rw [hsn]; exact bL5.other (by omega) _, by rw [hsn]; exact bR5.set _⟩, bO5.other (by omega) _, bT5.other (by omega) _⟩, hB5.setCell (p := ⟨w.heap.size + 1 + 1 + 1, 0, none⟩) (by simp; omega) _⟩⟩
  case done =>
    rintro D zs W hD hz ⟨⟨⟨bL1, bR1⟩, bO1, bT1⟩, hB1⟩ hK
    rw [hz] at bL1 bR1
    have c1 := bL1.cell
    have c2 := bR1.cell
    gi_wp2_with fail
    gi_region
    all_goals gi_wp2
    all_goals refine ⟨by simp, .inl ⟨_, _, rfl, run_takeDeferred (w := W.drew) hK, ?_⟩⟩
    all_goals refine ⟨_, by first | (simp [results, Tryz.results17, go_sem]; done) | (simp [results, Tryz.results17, go_sem]; exact ⟨rfl, rfl⟩), rfl, hB1.drew.trans (belowK_b (w := w) (Nat.le_refl _) W.drew D _ _ (by omega) hK rfl rfl)⟩
  case stop =>
    rintro D c pre W _ _ h _
    exact h.elim
theorem refine_any (o2 s t : Nat) (ho2 : 2 ≤ o2) (ho : o2 < 6) (hs : s < 8) (ht : t < 8) (w : World) (hT : SgTab w) :
    Calls Tryz.prog 17 #[.int .i64 (o2 : Int), .int .i64 (s : Int), .int .i64 (t : Int)] w fun e w' => e = .returned (.tuple #[.int .i64 ((rfn (o2 - 2) s t).1 : Nat), .int .i64 ((rfn (o2 - 2) s t).2 : Nat), .int .i64 0]) ∧ Below w.heap.size w w' :=
  (callsIn_wide (n := 6)).1 (refine_in 6 o2 s t (Nat.le_refl _) ho2 ho hs ht w hT)
theorem seven_of {a : Int} (h0 : -3 ≤ a) (h1 : a ≤ 3) : a = -3 ∨ a = -2 ∨ a = -1 ∨ a = 0 ∨ a = 1 ∨ a = 2 ∨ a = 3 := by omega
def valV (op : Nat) (a b : Int) : Value := match valS op a b with | none => .tuple #[.int .i64 0, .bool false] | some n => .tuple #[.int .i64 n, .bool true]
def okB (s t : Int) : Bool := okS s && okS t
theorem errB_of {s t : Int} (h : okB s t = true) : errB s t = 0 := by
  unfold okB at h; rw [Bool.and_eq_true] at h; exact errB_ok h.1 h.2
theorem errB_no {s t : Int} (h : okB s t = false) : errB s t = 2 := by
  rcases errB_cases s t with ⟨h1, h2, -⟩ | ⟨-, e⟩
  · unfold okB at h; rw [h1, h2] at h; cases h
  · exact e
theorem okB_nat {s t : Int} (h : okB s t = true) : ∃ m n : Nat, s = (m : Int) ∧ t = (n : Int) ∧ m < 8 ∧ n < 8 := by
  unfold okB at h; rw [Bool.and_eq_true] at h
  obtain ⟨m, e1, l1⟩ := okS_nat h.1; obtain ⟨n, e2, l2⟩ := okS_nat h.2
  exact ⟨m, n, e1, e2, l1, l2⟩
def opR (k : Nat) (s t : Int) : Int := if okB s t then (cmb k s.toNat t.toNat : Nat) else 0
def leqR (s t : Int) : Bool := okB s t && (s.toNat &&& t.toNat == s.toNat)
def joinR (s t : Int) : Int := if okB s t then (s.toNat ||| t.toNat : Nat) else 0
def meetR (s t : Int) : Int := if okB s t then (s.toNat &&& t.toNat : Nat) else 0
def nameR (s : Int) : ByteArray := if okS s then nameS s.toNat else ⟨#[]⟩
theorem leq_alt : ∀ s t : Fin 8, (((s.val - (s.val &&& t.val) : Nat) : Int) == 0) = (s.val &&& t.val == s.val) := by decide
theorem leq_alt2 : ∀ s t : Fin 8, (((s.val &&& t.val : Nat) : Int) == (s.val : Int)) = (s.val &&& t.val == s.val) := by decide
theorem combine_all (k : Nat) (s t : Int) (hk : k < 5) (w : World) (hT : SgTab w) :
    Calls Tryz.prog 31 #[.int .i64 (k : Int), .int .i64 s, .int .i64 t] w fun e w' => e = .returned (.tuple #[.int .i64 (opR k s t), .int .i64 (errB s t)]) ∧ Below w.heap.size w w' := by
  cases h : okB s t with
  | true =>
    obtain ⟨m, n, rfl, rfl, hm, hn⟩ := okB_nat h
    rw [errB_of h, show opR k (m : Int) (n : Int) = (cmb k m n : Nat) by unfold opR; rw [if_pos h]; rfl]
    exact combine_any k m n hk hm hn w hT
  | false =>
    have e := errB_no h
    rw [e, show opR k s t = 0 by unfold opR; rw [h]; rfl]
    exact combine_bad k s t w (by rw [e]; decide)
set_option maxHeartbeats 1000000 in
theorem sgAdd_any (s t : Int) (w : World) (hT : SgTab w) : Calls Tryz.prog 14 #[.int .i64 s, .int .i64 t] w fun e w' => e = .returned (.tuple #[.int .i64 (opR 0 s t), .int .i64 (errB s t)]) ∧ Below w.heap.size w w' := by
  have C1 := fun W (h : Below w.heap.size w W) => combine_all 0 s t (by decide) W (hT.on h)
  have K1 := Lib.hid C1; clear C1 hT
  go_enter Tryz.func14, Tryz.ntmps14
  go_wp2_with (go_at_call 31; refine (K1.out _ (by go_grown)).mono ?_; rintro e w1 ⟨rfl, hb⟩)
  refine bodyPost_ret (by first | (simp [results, Tryz.results14, go_sem]; done) | (simp [results, Tryz.results14, go_sem]; rfl)) rfl ?_
  exact ⟨rfl, by go_grown⟩
set_option maxHeartbeats 1000000 in
theorem sgSub_any (s t : Int) (w : World) (hT : SgTab w) : Calls Tryz.prog 20 #[.int .i64 s, .int .i64 t] w fun e w' => e = .returned (.tuple #[.int .i64 (opR 1 s t), .int .i64 (errB s t)]) ∧ Below w.heap.size w w' := by
  have C1 := fun W (h : Below w.heap.size w W) => combine_all 1 s t (by decide) W (hT.on h)
  have K1 := Lib.hid C1; clear C1 hT
  go_enter Tryz.func20, Tryz.ntmps20
  go_wp2_with (go_at_call 31; refine (K1.out _ (by go_grown)).mono ?_; rintro e w1 ⟨rfl, hb⟩)
  refine bodyPost_ret (by first | (simp [results, Tryz.results20, go_sem]; done) | (simp [results, Tryz.results20, go_sem]; rfl)) rfl ?_
  exact ⟨rfl, by go_grown⟩
set_option maxHeartbeats 1000000 in
theorem sgMul_any (s t : Int) (w : World) (hT : SgTab w) : Calls Tryz.prog 21 #[.int .i64 s, .int .i64 t] w fun e w' => e = .returned (.tuple #[.int .i64 (opR 2 s t), .int .i64 (errB s t)]) ∧ Below w.heap.size w w' := by
  have C1 := fun W (h : Below w.heap.size w W) => combine_all 2 s t (by decide) W (hT.on h)
  have K1 := Lib.hid C1; clear C1 hT
  go_enter Tryz.func21, Tryz.ntmps21
  go_wp2_with (go_at_call 31; refine (K1.out _ (by go_grown)).mono ?_; rintro e w1 ⟨rfl, hb⟩)
  refine bodyPost_ret (by first | (simp [results, Tryz.results21, go_sem]; done) | (simp [results, Tryz.results21, go_sem]; rfl)) rfl ?_
  exact ⟨rfl, by go_grown⟩
set_option maxHeartbeats 1000000 in
theorem sgQuo_any (s t : Int) (w : World) (hT : SgTab w) : Calls Tryz.prog 15 #[.int .i64 s, .int .i64 t] w fun e w' => e = .returned (.tuple #[.int .i64 (opR 3 s t), .int .i64 (errB s t)]) ∧ Below w.heap.size w w' := by
  have C1 := fun W (h : Below w.heap.size w W) => combine_all 3 s t (by decide) W (hT.on h)
  have K1 := Lib.hid C1; clear C1 hT
  go_enter Tryz.func15, Tryz.ntmps15
  go_wp2_with (go_at_call 31; refine (K1.out _ (by go_grown)).mono ?_; rintro e w1 ⟨rfl, hb⟩)
  refine bodyPost_ret (by first | (simp [results, Tryz.results15, go_sem]; done) | (simp [results, Tryz.results15, go_sem]; rfl)) rfl ?_
  exact ⟨rfl, by go_grown⟩
set_option maxHeartbeats 1000000 in
theorem sgRem_any (s t : Int) (w : World) (hT : SgTab w) : Calls Tryz.prog 16 #[.int .i64 s, .int .i64 t] w fun e w' => e = .returned (.tuple #[.int .i64 (opR 4 s t), .int .i64 (errB s t)]) ∧ Below w.heap.size w w' := by
  have C1 := fun W (h : Below w.heap.size w W) => combine_all 4 s t (by decide) W (hT.on h)
  have K1 := Lib.hid C1; clear C1 hT
  go_enter Tryz.func16, Tryz.ntmps16
  go_wp2_with (go_at_call 31; refine (K1.out _ (by go_grown)).mono ?_; rintro e w1 ⟨rfl, hb⟩)
  refine bodyPost_ret (by first | (simp [results, Tryz.results16, go_sem]; done) | (simp [results, Tryz.results16, go_sem]; rfl)) rfl ?_
  exact ⟨rfl, by go_grown⟩
attribute [local go_sem] Oper.semAt_some
theorem seven_take : ∀ k : Fin 7, sevenI.take (k.val + 1) = sevenI.take k.val ++ [(-3 + (k.val : Int))] := by decide
theorem sgRow_snoc (op s t : Nat) (a : Int) (acc : Nat) (l : List Int) (b : Int) : sgRow op s t a acc (l ++ [b]) = sgStep op s t a (sgRow op s t a acc l) b := by simp [sgRow]
theorem sgL_snoc (op s t : Nat) (l : List Int) (a : Int) : sgL op s t (l ++ [a]) = sgRow op s t a (sgL op s t l) sevenI := by simp [sgL]
theorem sgStep_lt (op s t : Nat) (a : Int) (r : Nat) (b : Int) (h : r < 8) : sgStep op s t a r b < 8 := by
  unfold sgStep
  split
  · exact h
  · split
    · exact or_lt8 h (sgnS_lt _)
    · exact h
theorem sgRow_lt (op s t : Nat) (a : Int) (acc : Nat) (l : List Int) (h : acc < 8) : sgRow op s t a acc l < 8 := by
  unfold sgRow
  induction l generalizing acc with
  | nil => exact h
  | cons b l ih => exact ih _ (sgStep_lt _ _ _ _ _ _ h)
theorem sgL_lt (op s t : Nat) (l : List Int) : sgL op s t l < 8 := by
  have : ∀ (l : List Int) (acc : Nat), acc < 8 → l.foldl (fun r a => sgRow op s t a r sevenI) acc < 8 := by
    intro l
    induction l with
    | nil => exact fun _ h => h
    | cons a l ih => exact fun acc h => ih _ (sgRow_lt _ _ _ _ _ _ h)
  exact this l 0 (by decide)
theorem rgRow_snoc (op s t : Nat) (a : Int) (p : Nat × Nat) (l : List Int) (b : Int) : rgRow op s t a p (l ++ [b]) = rgStep op s t a (rgRow op s t a p l) b := by simp [rgRow]
theorem rgL_snoc (op s t : Nat) (l : List Int) (a : Int) : rgL op s t (l ++ [a]) = rgRow op s t a (rgL op s t l) sevenI := by simp [rgL]
def Lt8 (p : Nat × Nat) : Prop := p.1 < 8 ∧ p.2 < 8
theorem rgStep_lt (op s t : Nat) (a : Int) (p : Nat × Nat) (b : Int) (h : Lt8 p) : Lt8 (rgStep op s t a p b) := by
  unfold rgStep
  split
  · exact ⟨or_lt8 h.1 (sgnS_lt _), or_lt8 h.2 (sgnS_lt _)⟩
  · exact h
theorem rgRow_lt (op s t : Nat) (a : Int) (p : Nat × Nat) (l : List Int) (h : Lt8 p) : Lt8 (rgRow op s t a p l) := by
  unfold rgRow
  induction l generalizing p with
  | nil => exact h
  | cons b l ih => exact ih _ (rgStep_lt _ _ _ _ _ _ h)
theorem rgL_lt (op s t : Nat) (l : List Int) : Lt8 (rgL op s t l) := by
  have : ∀ (l : List Int) (p : Nat × Nat), Lt8 p → Lt8 (l.foldl (fun r a => rgRow op s t a r sevenI) p) := by
    intro l
    induction l with
    | nil => exact fun _ h => h
    | cons a l ih => exact fun p h => ih _ (rgRow_lt _ _ _ _ _ _ h)
  exact this l (0, 0) ⟨by decide, by decide⟩
def isCmp (o : Int) : Bool := decide (2 ≤ o ∧ o ≤ 5)
def rfE (o s t : Int) : Int := if isCmp o then errB s t else 1
def rfA (o s t : Int) : Int := if isCmp o && okB s t then ((rfn (o.toNat - 2) s.toNat t.toNat).1 : Nat) else 0
def rfB (o s t : Int) : Int := if isCmp o && okB s t then ((rfn (o.toNat - 2) s.toNat t.toNat).2 : Nat) else 0
theorem isCmp_nat {o : Int} (h : isCmp o = true) : ∃ m : Nat, o = (m : Int) ∧ 2 ≤ m ∧ m < 6 := by
  unfold isCmp at h
  have h' := of_decide_eq_true h
  exact ⟨o.toNat, by omega, by omega, by omega⟩
theorem sgRefine_all (o s t : Int) (w : World) (hT : SgTab w) :
    Calls Tryz.prog 17 #[.int .i64 o, .int .i64 s, .int .i64 t] w fun e w' => e = .returned (.tuple #[.int .i64 (rfA o s t), .int .i64 (rfB o s t), .int .i64 (rfE o s t)]) ∧ Below w.heap.size w w' := by
  cases hc : isCmp o with
  | false =>
    rw [show rfE o s t = 1 by unfold rfE; rw [hc]; rfl, show rfA o s t = 0 by unfold rfA; rw [hc]; rfl, show rfB o s t = 0 by unfold rfB; rw [hc]; rfl]
    exact refine_arg o s t w (of_decide_eq_false hc)
  | true =>
    rw [show rfE o s t = errB s t by unfold rfE; rw [hc]; rfl]
    cases h : okB s t with
    | true =>
      obtain ⟨o2, rfl, h2, h6⟩ := isCmp_nat hc
      obtain ⟨m, n, rfl, rfl, hm, hn⟩ := okB_nat h
      rw [errB_of h, show rfA (o2 : Int) (m : Int) (n : Int) = ((rfn (o2 - 2) m n).1 : Nat) by unfold rfA; rw [hc, h]; rfl, show rfB (o2 : Int) (m : Int) (n : Int) = ((rfn (o2 - 2) m n).2 : Nat) by unfold rfB; rw [hc, h]; rfl]
      exact refine_any o2 m n h2 h6 hm hn w hT
    | false =>
      rw [errB_no h, show rfA o s t = 0 by unfold rfA; rw [hc, h]; rfl, show rfB o s t = 0 by unfold rfB; rw [hc, h]; rfl]
      exact refine_bad o s t w (of_decide_eq_true hc) (by rw [errB_no h]; decide)
def negR (s : Int) : Int := opR 1 2 s
theorem errB_two (s : Int) : errB 2 s = errS s := by unfold errB; rw [if_pos (by decide)]
theorem neg_val : ∀ s : Fin 8, cmb 1 2 s.val = (if hasS s.val 1 then 1 else 0) ||| ((if hasS s.val 0 then 2 else 0) ||| (if hasS s.val (-1) then 4 else 0)) := by decide
def negSL (s : Nat) (l : List Int) : Nat := l.foldl (fun r n => if hasS s n then r ||| sgnS (-n) else r) 0
theorem negSL_snoc (s : Nat) (l : List Int) (n : Int) : negSL s (l ++ [n]) = if hasS s n then negSL s l ||| sgnS (-n) else negSL s l := by simp [negSL]
theorem neg_eq8 : ∀ s : Fin 8, negSL s.val [-1, 0, 1] = cmb 1 2 s.val := by decide
theorem three_take : ∀ k : Fin 3, ([-1, 0, 1] : List Int).take (k.val + 1) = ([-1, 0, 1] : List Int).take k.val ++ [(-1 + (k.val : Int))] := by decide
theorem negSL_lt (s : Nat) (l : List Int) : negSL s l < 8 := by
  have : ∀ (l : List Int) (r : Nat), r < 8 → l.foldl (fun r n => if hasS s n then r ||| sgnS (-n) else r) r < 8 := by
    intro l
    induction l with
    | nil => exact fun _ h => h
    | cons n l ih =>
      intro r h
      refine ih _ ?_
      dsimp only
      split
      · exact or_lt8 h (sgnS_lt _)
      · exact h
  exact this l 0 (by decide)
set_option maxHeartbeats 1000000 in
theorem sgFormat_any (s : Int) (w : World) (hT : SgTab w) : Calls Tryz.prog 18 #[.int .i64 s] w fun e w' => e = .returned (.tuple #[.string (nameR s), .int .i64 (errS s)]) ∧ Below w.heap.size w w' := by
  have C1 := fun W => sgCheck_any s W
  cases h : okS s with
  | false =>
    have e : errS s = 2 := by unfold errS; rw [h]; rfl
    rw [e] at C1 ⊢
    rw [show nameR s = ⟨#[]⟩ by unfold nameR; rw [h]; rfl]
    have K1 := Lib.hid C1; clear C1 h e
    go_enter Tryz.func18, Tryz.ntmps18
    go_wp2_with (go_at_call 19; refine (K1.out _).mono ?_; rintro e w1 ⟨rfl, rfl⟩)
    refine bodyPost_ret (by first | (simp [results, Tryz.results18, go_sem]; done) | (simp [results, Tryz.results18, go_sem]; rfl)) rfl ?_
    exact ⟨rfl, Below.refl _ _⟩
  | true =>
    obtain ⟨m, rfl, hm⟩ := okS_nat h
    rw [errS_ok h] at C1 ⊢
    rw [show nameR (m : Int) = nameS m by unfold nameR; rw [if_pos h]; rfl]
    have c0 := hT.nam m hm
    have K1 := Lib.hid C1; clear C1 h hT
    generalize nameS m = nm at *
    have p0 : (0 : Int) ≤ (m : Int) := by omega
    have p1 : (m : Int) < 8 := by omega
    go_enter Tryz.func18, Tryz.ntmps18
    go_wp2_with (go_at_call 19; refine (K1.out _).mono ?_; rintro e w1 ⟨rfl, rfl⟩)
    refine bodyPost_ret (by first | (simp [results, Tryz.results18, go_sem]; done) | (simp [results, Tryz.results18, go_sem]; rfl)) rfl ?_
    exact ⟨rfl, by go_grown⟩
attribute [local go_sem] Oper.semAt_some
def ofR (a : ByteArray) : Int := if errOf (bytes a) = 0 then (sgnS (valZ (bytes a)) : Nat) else 0
def hdR (s : Int) (a : ByteArray) : Bool := okS s && decide (errOf (bytes a) = 0) && hasS s.toNat (valZ (bytes a))
def hdE (s : Int) (a : ByteArray) : Int := if okS s then (errOf (bytes a) : Nat) else 2
set_option maxHeartbeats 1000000 in
theorem sgOf_any (a : ByteArray) (w : World) (ha : a.size ≤ 9223372036854775807) : Calls Tryz.prog 11 #[.string a] w fun e w' => e = .returned (.tuple #[.int .i64 (ofR a), .int .i64 (errOf (bytes a) : Nat)]) ∧ w' = w := by
  rcases errOf_cases (bytes a) with he | he | he
  · have hs := str_of_err he
    have C1 := fun W => signS a _ W hs
    unfold ofR
    rw [he, if_pos rfl]
    generalize valZ (bytes a) = x at *
    unfold cmpI at C1
    unfold sgnS
    by_cases h0 : x < 0
    · simp only [if_pos h0] at C1 ⊢
      have K1 := Lib.hid C1; clear C1 he hs h0
      go_enter Tryz.func11, Tryz.ntmps11
      go_wp2_with (go_at_call 28; refine (K1.out _).mono ?_; rintro e w1 ⟨rfl, rfl⟩)
      refine bodyPost_ret (by first | (simp [results, Tryz.results11, go_sem]; done) | (simp [results, Tryz.results11, go_sem]; rfl)) rfl ?_
      exact ⟨rfl, rfl⟩
    · simp only [if_neg h0] at C1 ⊢
      by_cases h1 : x = 0
      · simp only [if_pos h1] at C1 ⊢
        have K1 := Lib.hid C1; clear C1 he hs h0 h1
        go_enter Tryz.func11, Tryz.ntmps11
        go_wp2_with (go_at_call 28; refine (K1.out _).mono ?_; rintro e w1 ⟨rfl, rfl⟩)
        refine bodyPost_ret (by first | (simp [results, Tryz.results11, go_sem]; done) | (simp [results, Tryz.results11, go_sem]; rfl)) rfl ?_
        exact ⟨rfl, rfl⟩
      · simp only [if_neg h1] at C1 ⊢
        have K1 := Lib.hid C1; clear C1 he hs h0 h1
        go_enter Tryz.func11, Tryz.ntmps11
        go_wp2_with (go_at_call 28; refine (K1.out _).mono ?_; rintro e w1 ⟨rfl, rfl⟩)
        refine bodyPost_ret (by first | (simp [results, Tryz.results11, go_sem]; done) | (simp [results, Tryz.results11, go_sem]; rfl)) rfl ?_
        exact ⟨rfl, rfl⟩
  all_goals
    have C1 := fun W => sign_any a W ha
    have hb : errBoth (bytes a) [48] = errOf (bytes a) := by unfold errBoth; rw [if_neg (by rw [he]; decide)]
    unfold cmpR at C1
    rw [hb, he] at C1
    unfold ofR
    rw [he]
    have K1 := Lib.hid C1; clear C1 he hb
    go_enter Tryz.func11, Tryz.ntmps11
    go_wp2_with (go_at_call 28; refine (K1.out _).mono ?_; rintro e w1 ⟨rfl, rfl⟩)
    refine bodyPost_ret (by first | (simp [results, Tryz.results11, go_sem]; done) | (simp [results, Tryz.results11, go_sem]; rfl)) rfl ?_
    exact ⟨rfl, rfl⟩
set_option maxHeartbeats 1000000 in
theorem sgHolds_any (s : Int) (a : ByteArray) (w : World) (ha : a.size ≤ 9223372036854775807) : Calls Tryz.prog 7 #[.int .i64 s, .string a] w fun e w' => e = .returned (.tuple #[.bool (hdR s a), .int .i64 (hdE s a)]) ∧ w' = w := by
  have C1 := fun W => sgCheck_any s W
  have C2 := fun W => sgOf_any a W ha
  cases h : okS s with
  | false =>
    have e : errS s = 2 := by unfold errS; rw [h]; rfl
    rw [e] at C1
    rw [show hdR s a = false by unfold hdR; rw [h]; rfl, show hdE s a = 2 by unfold hdE; rw [h]; rfl]
    have K1 := Lib.hid C1; clear C1 C2 h e
    go_enter Tryz.func7, Tryz.ntmps7
    go_wp2_with (go_at_call 19; refine (K1.out _).mono ?_; rintro e w1 ⟨rfl, rfl⟩)
    refine bodyPost_ret (by first | (simp [results, Tryz.results7, go_sem]; done) | (simp [results, Tryz.results7, go_sem]; rfl)) rfl ?_
    exact ⟨rfl, rfl⟩
  | true =>
    obtain ⟨m, rfl, hm⟩ := okS_nat h
    rw [errS_ok h] at C1
    rw [show hdE (m : Int) a = (errOf (bytes a) : Nat) by unfold hdE; rw [if_pos h]]
    by_cases he : errOf (bytes a) = 0
    · rw [show ofR a = (sgnS (valZ (bytes a)) : Nat) by unfold ofR; rw [if_pos he]] at C2
      rw [show hdR (m : Int) a = hasS m (valZ (bytes a)) by unfold hdR; rw [h, he]; rfl]
      have hb := bAnd hm (sgnS_lt (valZ (bytes a)))
      have hl : hasS m (valZ (bytes a)) = (((m &&& sgnS (valZ (bytes a)) : Nat) : Int) != 0) := by
        unfold hasS
        cases h : (m &&& sgnS (valZ (bytes a))) with
        | zero => rfl
        | succ k => rw [show ((k + 1 : Nat) != 0) = true from by rw [bne_iff_ne]; omega, eq_comm, bne_iff_ne]; omega
      rw [hl]
      generalize sgnS (valZ (bytes a)) = g at *
      clear hl
      generalize m &&& g = r at *
      generalize errOf (bytes a) = e at *
      have K1 := Lib.hid C1; have K2 := Lib.hid C2; clear C1 C2 h he
      go_enter Tryz.func7, Tryz.ntmps7
      go_wp2_with (first | (go_at_call 19; refine (K1.out _).mono ?_; rintro e w1 ⟨rfl, rfl⟩) | (go_at_call 11; refine (K2.out _).mono ?_; rintro e w1 ⟨rfl, rfl⟩))
      refine bodyPost_ret (by first | (simp [results, Tryz.results7, go_sem]; done) | (simp [results, Tryz.results7, go_sem]; rfl)) rfl ?_
      exact ⟨rfl, rfl⟩
    · rw [show ofR a = 0 by unfold ofR; rw [if_neg he]] at C2
      rw [show hdR (m : Int) a = false by unfold hdR; rw [h, decide_eq_false he]; rfl]
      have hb : bits .and .i64 (m : Int) 0 = 0 := by
        have := bAnd hm (show 0 < 8 by decide)
        rw [Nat.and_zero] at this
        exact this
      generalize errOf (bytes a) = e at *
      have K1 := Lib.hid C1; have K2 := Lib.hid C2; clear C1 C2 h he
      go_enter Tryz.func7, Tryz.ntmps7
      go_wp2_with (first | (go_at_call 19; refine (K1.out _).mono ?_; rintro e w1 ⟨rfl, rfl⟩) | (go_at_call 11; refine (K2.out _).mono ?_; rintro e w1 ⟨rfl, rfl⟩))
      refine bodyPost_ret (by first | (simp [results, Tryz.results7, go_sem]; done) | (simp [results, Tryz.results7, go_sem]; rfl)) rfl ?_
      exact ⟨rfl, rfl⟩
def rgtB (a : ByteArray) : Bool := decide (a.size ≤ 250) && decide (errOf (bytes a) = 0)
set_option maxHeartbeats 2000000 in
theorem right19_two (a b : ByteArray) (B c : Nat) (w : World) (ha : a.size ≤ 9223372036854775807) (hb : b.size ≤ 9223372036854775807)
    (c0 : w.cell? ⟨B, 0, none⟩ = some (.string a)) (c1 : w.cell? ⟨B, 1, none⟩ = some (.string b)) :
    Calls Tryz.prog 5 #[.slice (some ⟨B, 0, none⟩) 2 c] w fun e w' => e = .returned (.bool (rgtB a && rgtB b)) ∧ w' = w := by
  have CA := refFew_any a w ha; have CB := refFew_any b w hb
  have DA := refCheck_any a w ha; have DB := refCheck_any b w hb
  unfold rgtB
  obtain ⟨ea, hea⟩ : ∃ e, e = errOf (bytes a) := ⟨_, rfl⟩
  obtain ⟨eb, heb⟩ : ∃ e, e = errOf (bytes b) := ⟨_, rfl⟩
  rw [← hea] at DA ⊢
  rw [← heb] at DB ⊢
  generalize hfa : decide (a.size ≤ 250) = fa at *
  generalize hfb : decide (b.size ≤ 250) = fb at *
  have K1 := Lib.hid CA; have K2 := Lib.hid CB; have K3 := Lib.hid DA; have K4 := Lib.hid DB
  clear CA CB DA DB hfa hfb ha hb hea heb
  go_enter Tryz.func5, Tryz.ntmps5
  go_wp2_with fail
  go_loop [7] (fun iv => ∃ k : Nat, k ≤ 2 ∧ iv = .int .i64 k ∧ (1 ≤ k → (fa && decide (ea = 0)) = true) ∧ (2 ≤ k → (fb && decide (eb = 0)) = true)) (fun iv => 2 - (intOf iv).toNat)
  case atStart => exact ⟨0, Nat.zero_le _, rfl, fun h => by omega, fun h => by omega⟩
  case round =>
    obtain ⟨k, hk, rfl, h1, h2⟩ := hrel
    rcases (show k = 0 ∨ k = 1 ∨ k = 2 by omega) with rfl | rfl | rfl
    · have H1 := Lib.hid h1; have H2 := Lib.hid h2; clear h1 h2
      cases fa with
      | false =>
        go_wp2_with (go_at_call 12; refine K1.out.mono ?_; rintro e w1 ⟨rfl, h⟩; subst h)
        refine bodyPost_ret (by first | (simp [results, Tryz.results5, go_sem]; done) | (simp [results, Tryz.results5, go_sem]; rfl)) rfl ?_
        exact ⟨by simp, rfl⟩
      | true =>
        by_cases he : ea = 0
        · subst he
          go_wp2_with (first | (go_at_call 12; refine K1.out.mono ?_; clear K1; rintro e w1 ⟨rfl, h⟩; subst h) | (go_at_call 13; refine K3.out.mono ?_; clear K3; rintro e w1 ⟨rfl, h⟩; subst h))
          go_round
          case rel => exact ⟨1, by omega, rfl, fun _ => rfl, fun h => by omega⟩
          case measure => simp [intOf]
        · have t1 : ((ea : Int) != 0) = true := by rw [bne_iff_ne]; omega
          go_wp2_with (first | (go_at_call 12; refine K1.out.mono ?_; clear K1; rintro e w1 ⟨rfl, h⟩; subst h) | (go_at_call 13; refine K3.out.mono ?_; clear K3; rintro e w1 ⟨rfl, h⟩; subst h))
          refine bodyPost_ret (by first | (simp [results, Tryz.results5, go_sem]; done) | (simp [results, Tryz.results5, go_sem]; rfl)) rfl ?_
          exact ⟨by simp [he], rfl⟩
    · have H1 := Lib.hid h1; have H2 := Lib.hid h2; clear h1 h2
      have e1 := H1.out (by omega)
      cases fb with
      | false =>
        rw [e1]
        clear e1
        go_wp2_with (go_at_call 12; refine K2.out.mono ?_; rintro e w1 ⟨rfl, h⟩; subst h)
        refine bodyPost_ret (by first | (simp [results, Tryz.results5, go_sem]; done) | (simp [results, Tryz.results5, go_sem]; rfl)) rfl ?_
        exact ⟨by simp, rfl⟩
      | true =>
        by_cases he : eb = 0
        · subst he
          clear e1
          go_wp2_with (first | (go_at_call 12; refine K2.out.mono ?_; clear K2; rintro e w1 ⟨rfl, h⟩; subst h) | (go_at_call 13; refine K4.out.mono ?_; clear K4; rintro e w1 ⟨rfl, h⟩; subst h))
          go_round
          case rel => exact ⟨2, by omega, rfl, fun _ => H1.out (by omega), fun _ => rfl⟩
          case measure => simp [intOf]
        · have t1 : ((eb : Int) != 0) = true := by rw [bne_iff_ne]; omega
          clear e1
          go_wp2_with (first | (go_at_call 12; refine K2.out.mono ?_; clear K2; rintro e w1 ⟨rfl, h⟩; subst h) | (go_at_call 13; refine K4.out.mono ?_; clear K4; rintro e w1 ⟨rfl, h⟩; subst h))
          refine bodyPost_ret (by first | (simp [results, Tryz.results5, go_sem]; done) | (simp [results, Tryz.results5, go_sem]; rfl)) rfl ?_
          exact ⟨by simp [he], rfl⟩
    · have g1 := h1 (by omega); have g2 := h2 (by omega)
      have G1 := Lib.hid g1; have G2 := Lib.hid g2
      clear h1 h2 g1 g2
      go_wp2
      refine bodyPost_ret (by first | (simp [results, Tryz.results5, go_sem]; done) | (simp [results, Tryz.results5, go_sem]; rfl)) rfl ?_
      exact ⟨by rw [G1.out, G2.out]; rfl, rfl⟩
end Go.Proofs.YtmnbjkbkjmgmkaaGreatDoor
