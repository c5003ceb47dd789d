import Derived.Test.YtmnbjkbkjmgmkaaGreatDoorCut2

set_option linter.unusedVariables false
/-
  sign: combine.
-/
set_option linter.unusedSimpArgs false
set_option linter.unusedVariables false
namespace Go.Proofs.YtmnbjkbkjmgmkaaGreatDoor
open Go Go.Proofs Go.RowKit Go.Shelf
attribute [local go_sem] Oper.semAt_some
def nameL : List ByteArray := [⟨#[110, 111, 110, 101]⟩, ⟨#[110, 101, 103, 97, 116, 105, 118, 101]⟩, ⟨#[122, 101, 114, 111]⟩, ⟨#[110, 111, 110, 112, 111, 115, 105, 116, 105, 118, 101]⟩, ⟨#[112, 111, 115, 105, 116, 105, 118, 101]⟩, ⟨#[110, 111, 110, 122, 101, 114, 111]⟩, ⟨#[110, 111, 110, 110, 101, 103, 97, 116, 105, 118, 101]⟩, ⟨#[97, 110, 121]⟩]
def nameS (k : Nat) : ByteArray := nameL.getD k ⟨#[]⟩
def par18 : List Nat := [0, 0, 0, 0, 0, 0] ++ parTab
structure SgTab (W : World) : Prop where
  lt0 : 2 < W.heap.size
  lt1 : 0 < W.heap.size
  lt2 : 1 < W.heap.size
  res : ∀ k, k < 45 → W.cell? ⟨2, k, none⟩ = some (.int .i64 (resTab.getD k 0 : Nat))
  par : ∀ k, k < 18 → W.cell? ⟨0, k, none⟩ = some (.int .i64 (par18.getD k 0 : Nat))
  nam : ∀ k, k < 8 → W.cell? ⟨1, k, none⟩ = some (.string (nameS k))
theorem SgTab.on {W W' : World} (h : SgTab W) (hb : Below W.heap.size W W') : SgTab W' :=
  ⟨Nat.lt_of_lt_of_le h.lt0 hb.size, Nat.lt_of_lt_of_le h.lt1 hb.size, Nat.lt_of_lt_of_le h.lt2 hb.size, fun k hk => (hb.cell (p := ⟨_, k, none⟩) h.lt0).trans (h.res k hk), fun k hk => (hb.cell (p := ⟨_, k, none⟩) h.lt1).trans (h.par k hk), fun k hk => (hb.cell (p := ⟨_, k, none⟩) h.lt2).trans (h.nam k hk)⟩
set_option maxHeartbeats 4000000 in
theorem combine_bad (op s t : Int) (w : World) (h : errB s t ≠ 0) :
    Calls Tryz.prog 31 #[.int .i64 op, .int .i64 s, .int .i64 t] w fun e w' => e = .returned (.tuple #[.int .i64 0, .int .i64 2]) ∧ Below w.heap.size w w' := by
  have C1 := fun W => sgBoth_any s t W
  have e2 : errB s t = 2 := by rcases errB_cases s t with ⟨-, -, e⟩ | ⟨-, e⟩
                               · exact absurd e h
                               · exact e
  rw [e2] at C1
  have K1 := Lib.hid C1; clear C1 h e2
  go_enter Tryz.func31, Tryz.ntmps31
  go_wp2_with (go_at_call 33; refine (K1.out _).mono ?_; rintro e w1 ⟨rfl, rfl⟩)
  refine bodyPost_ret (by first | (simp [results, Tryz.results31, go_sem]; done) | (simp [results, Tryz.results31, go_sem]; rfl)) rfl ?_
  exact ⟨rfl, by go_grown⟩
set_option maxRecDepth 100000 in
set_option maxHeartbeats 4000000 in
theorem combine_region {l m N Bx op a b acc : Nat} {Q : Exit → Act → World → Prop} {W : World} (q0 q1 q2 q4 q5 q6 q7 q8 q12 q13 q14 q15 q16 q17 q18 q19 q20 q21 q22 q23 q24 q25 q26 q27 q28 q29 q30 q31 q32 q33 : Value) (ho : op < 5) (ha : a < 3) (hb : b < 3) (hac : acc < 8) (hQ : ¬ LetsOut Q) (hP : ∀ c a1 a2 w1, Q (.panic c) a1 w1 → Q (.panic c) a2 w1)
    (c0 : W.cell? ⟨N + 1 + 1, 0, none⟩ = some (.int .i64 (acc : Int))) (c1 : W.cell? ⟨N, 0, none⟩ = some (.int .i64 (op : Int))) (c2 : W.cell? ⟨Bx, 0, none⟩ = some (.int .i64 (a : Int)))
    (c3 : W.cell? ⟨2, op * 9 + a * 3 + b, none⟩ = some (.int .i64 (rowS op a b : Nat))) (c4 : W.frozen? ⟨N + 1 + 1, 0, none⟩ = false)
    (hend : Q .normal { tmps := #[q0, q1, q2, .pointer (some ⟨N, 0, none⟩), q4, q5, q6, q7, q8, .pointer (some ⟨N + 1 + 1, 0, none⟩), .pointer (some ⟨Bx, 0, none⟩), .int .i64 (b : Int), q12, q13, q14, q15, q16, q17, q18, q19, q20, q21, q22, q23, .int .i64 (acc : Int), .int .i64 (op : Int), .int .i64 (a : Int), .int .i64 (b : Int), .pointer (some ⟨2, op * 9, none⟩), .pointer (some ⟨2, op * 9 + a * 3, none⟩), .pointer (some ⟨2, op * 9 + a * 3 + b, none⟩), .int .i64 (rowS op a b : Nat), .int .i64 (acc ||| rowS op a b : Nat), q33], defers := [] } (W.drew.setCell ⟨N + 1 + 1, 0, none⟩ (.int .i64 (acc ||| rowS op a b : Nat)))) :
    (Code.region 9 #[{ dst := some 24, op := Op.load 3 (Operand.tmp 9), type := 3, pos := "sign.go:105", after := #[], guard := none }, { dst := some 25, op := Op.load 3 (Operand.tmp 3), type := 3, pos := "sign.go:105", after := #[], guard := none }, { dst := some 26, op := Op.load 3 (Operand.tmp 10), type := 3, pos := "sign.go:105", after := #[], guard := none }, { dst := some 27, op := Op.move (Operand.tmp 11), type := 3, pos := "sign.go:105", after := #[], guard := none }, { dst := some 28, op := Op.indexAddr 65 (Operand.global 2) (Operand.tmp 25), type := 0, pos := "sign.go:105", after := #[{ on := 1, ground := Ground.data }], guard := none }, { dst := some 29, op := Op.indexAddr 64 (Operand.tmp 28) (Operand.tmp 26), type := 0, pos := "sign.go:105", after := #[{ on := 4, ground := Ground.data }, { on := 2, ground := Ground.data }], guard := none }, { dst := some 30, op := Op.indexAddr 55 (Operand.tmp 29) (Operand.tmp 27), type := 0, pos := "sign.go:105", after := #[{ on := 5, ground := Ground.data }, { on := 3, ground := Ground.data }], guard := none }, { dst := some 31, op := Op.load 3 (Operand.tmp 30), type := 3, pos := "sign.go:105", after := #[{ on := 6, ground := Ground.data }], guard := none }, { dst := some 32, op := Op.binOp BinOp.or 3 (Operand.tmp 24) (Operand.tmp 31) 3, type := 3, pos := "sign.go:105", after := #[{ on := 0, ground := Ground.data }, { on := 7, ground := Ground.data }], guard := none }, { dst := none, op := Op.store 3 (Operand.tmp 9) (Operand.tmp 32), type := 0, pos := "sign.go:105", after := #[{ on := 8, ground := Ground.data }, { on := 0, ground := Ground.phase }, { on := 1, ground := Ground.phase }, { on := 2, ground := Ground.phase }, { on := 3, ground := Ground.phase }, { on := 4, ground := Ground.phase }, { on := 5, ground := Ground.phase }, { on := 6, ground := Ground.phase }, { on := 7, ground := Ground.phase }, { on := 8, ground := Ground.phase }], guard := none }] true).wpIn (Fence.wide.inRound l) m Tryz.prog Q { tmps := #[q0, q1, q2, .pointer (some ⟨N, 0, none⟩), q4, q5, q6, q7, q8, .pointer (some ⟨N + 1 + 1, 0, none⟩), .pointer (some ⟨Bx, 0, none⟩), .int .i64 (b : Int), q12, q13, q14, q15, q16, q17, q18, q19, q20, q21, q22, q23, q24, q25, q26, q27, q28, q29, q30, q31, q32, q33], defers := [] } W := by
  have hor := bOr hac (rowS_lt op a b)
  generalize rowS op a b = rv at *
  have p0 : (0 : Int) ≤ (op : Int) := by omega
  have p1 : (op : Int) < 5 := by omega
  have p2 : (0 : Int) ≤ (a : Int) := by omega
  have p3 : (a : Int) < 3 := by omega
  have p4 : (0 : Int) ≤ (b : Int) := by omega
  have p5 : (b : Int) < 3 := by omega
  refine wpIn_region_hot (fun j => j == 9) (fun w' => (w'.cell? ⟨N + 1 + 1, 0, none⟩ = some (.int .i64 (acc : Int)) ∧ w'.cell? ⟨N, 0, none⟩ = some (.int .i64 (op : Int))) ∧ (w'.cell? ⟨Bx, 0, none⟩ = some (.int .i64 (a : Int)) ∧ w'.cell? ⟨2, op * 9 + a * 3 + b, none⟩ = some (.int .i64 (rv : Int)))) (by kernel_rfl) (by kernel_rfl) hQ ⟨⟨c0, c1⟩, c2, c3⟩ (fun hHeld => ?_)
  refine hot_take (i := 0) (oi := { dst := some 24, op := Op.load 3 (Operand.tmp 9), type := 3, pos := "sign.go:105", after := #[], guard := none }) (v := ?v0) rfl (by kernel_rfl) (by kernel_rfl) (by kernel_rfl) rfl (by kernel_rfl) (by kernel_rfl) (fun _ _ _ h => hP _ _ _ _ h) (Or.inl ⟨by rfl, ?h0⟩) (by assumption) ?r0
  case h0 => (intro w hSw; (try dsimp only at hSw); obtain ⟨⟨s0, s1⟩, s2, s3⟩ := hSw; go_simp; try with_reducible rfl)
  (try simp only [Act.put, List.setIfInBounds_toArray, List.set_cons_zero, List.set_cons_succ])
  refine hot_take (i := 1) (oi := { dst := some 25, op := Op.load 3 (Operand.tmp 3), type := 3, pos := "sign.go:105", after := #[], guard := none }) (v := ?v1) rfl (by kernel_rfl) (by kernel_rfl) (by kernel_rfl) rfl (by kernel_rfl) (by kernel_rfl) (fun _ _ _ h => hP _ _ _ _ h) (Or.inl ⟨by rfl, ?h1⟩) (by assumption) ?r1
  case h1 => (intro w hSw; (try dsimp only at hSw); obtain ⟨⟨s0, s1⟩, s2, s3⟩ := hSw; go_simp; try with_reducible rfl)
  (try simp only [Act.put, List.setIfInBounds_toArray, List.set_cons_zero, List.set_cons_succ])
  refine hot_take (i := 2) (oi := { dst := some 26, op := Op.load 3 (Operand.tmp 10), type := 3, pos := "sign.go:105", after := #[], guard := none }) (v := ?v2) rfl (by kernel_rfl) (by kernel_rfl) (by kernel_rfl) rfl (by kernel_rfl) (by kernel_rfl) (fun _ _ _ h => hP _ _ _ _ h) (Or.inl ⟨by rfl, ?h2⟩) (by assumption) ?r2
  case h2 => (intro w hSw; (try dsimp only at hSw); obtain ⟨⟨s0, s1⟩, s2, s3⟩ := hSw; go_simp; try with_reducible rfl)
  (try simp only [Act.put, List.setIfInBounds_toArray, List.set_cons_zero, List.set_cons_succ])
  refine hot_take (i := 3) (oi := { dst := some 27, op := Op.move (Operand.tmp 11), type := 3, pos := "sign.go:105", after := #[], guard := none }) (v := ?v3) rfl (by kernel_rfl) (by kernel_rfl) (by kernel_rfl) rfl (by kernel_rfl) (by kernel_rfl) (fun _ _ _ h => hP _ _ _ _ h) (Or.inl ⟨by rfl, ?h3⟩) (by assumption) ?r3
  case h3 => (intro w hSw; (try dsimp only at hSw); obtain ⟨⟨s0, s1⟩, s2, s3⟩ := hSw; go_simp; try with_reducible rfl)
  (try simp only [Act.put, List.setIfInBounds_toArray, List.set_cons_zero, List.set_cons_succ])
  refine hot_take (i := 4) (oi := { dst := some 28, op := Op.indexAddr 65 (Operand.global 2) (Operand.tmp 25), type := 0, pos := "sign.go:105", after := #[{ on := 1, ground := Ground.data }], guard := none }) (v := ?v4) rfl (by kernel_rfl) (by kernel_rfl) (by kernel_rfl) rfl (by kernel_rfl) (by kernel_rfl) (fun _ _ _ h => hP _ _ _ _ h) (Or.inl ⟨by rfl, ?h4⟩) (by assumption) ?r4
  case h4 => (intro w hSw; (try dsimp only at hSw); obtain ⟨⟨s0, s1⟩, s2, s3⟩ := hSw; go_simp; try with_reducible rfl)
  (try simp only [Act.put, List.setIfInBounds_toArray, List.set_cons_zero, List.set_cons_succ])
  refine hot_take (i := 5) (oi := { dst := some 29, op := Op.indexAddr 64 (Operand.tmp 28) (Operand.tmp 26), type := 0, pos := "sign.go:105", after := #[{ on := 4, ground := Ground.data }, { on := 2, ground := Ground.data }], guard := none }) (v := ?v5) rfl (by kernel_rfl) (by kernel_rfl) (by kernel_rfl) rfl (by kernel_rfl) (by kernel_rfl) (fun _ _ _ h => hP _ _ _ _ h) (Or.inl ⟨by rfl, ?h5⟩) (by assumption) ?r5
  case h5 => (intro w hSw; (try dsimp only at hSw); obtain ⟨⟨s0, s1⟩, s2, s3⟩ := hSw; go_simp; try with_reducible rfl)
  (try simp only [Act.put, List.setIfInBounds_toArray, List.set_cons_zero, List.set_cons_succ])
  refine hot_take (i := 6) (oi := { dst := some 30, op := Op.indexAddr 55 (Operand.tmp 29) (Operand.tmp 27), type := 0, pos := "sign.go:105", after := #[{ on := 5, ground := Ground.data }, { on := 3, ground := Ground.data }], guard := none }) (v := ?v6) rfl (by kernel_rfl) (by kernel_rfl) (by kernel_rfl) rfl (by kernel_rfl) (by kernel_rfl) (fun _ _ _ h => hP _ _ _ _ h) (Or.inl ⟨by rfl, ?h6⟩) (by assumption) ?r6
  case h6 => (intro w hSw; (try dsimp only at hSw); obtain ⟨⟨s0, s1⟩, s2, s3⟩ := hSw; go_simp; try with_reducible rfl)
  (try simp only [Act.put, List.setIfInBounds_toArray, List.set_cons_zero, List.set_cons_succ])
  refine hot_take (i := 7) (oi := { dst := some 31, op := Op.load 3 (Operand.tmp 30), type := 3, pos := "sign.go:105", after := #[{ on := 6, ground := Ground.data }], guard := none }) (v := ?v7) rfl (by kernel_rfl) (by kernel_rfl) (by kernel_rfl) rfl (by kernel_rfl) (by kernel_rfl) (fun _ _ _ h => hP _ _ _ _ h) (Or.inl ⟨by rfl, ?h7⟩) (by assumption) ?r7
  case h7 => (intro w hSw; (try dsimp only at hSw); obtain ⟨⟨s0, s1⟩, s2, s3⟩ := hSw; go_simp; try with_reducible rfl)
  (try simp only [Act.put, List.setIfInBounds_toArray, List.set_cons_zero, List.set_cons_succ])
  refine hot_take (i := 8) (oi := { dst := some 32, op := Op.binOp BinOp.or 3 (Operand.tmp 24) (Operand.tmp 31) 3, type := 3, pos := "sign.go:105", after := #[{ on := 0, ground := Ground.data }, { on := 7, ground := Ground.data }], guard := none }) (v := ?v8) rfl (by kernel_rfl) (by kernel_rfl) (by kernel_rfl) rfl (by kernel_rfl) (by kernel_rfl) (fun _ _ _ h => hP _ _ _ _ h) (Or.inl ⟨by rfl, ?h8⟩) (by assumption) ?r8
  case h8 => (intro w hSw; (try dsimp only at hSw); obtain ⟨⟨s0, s1⟩, s2, s3⟩ := hSw; go_simp; try with_reducible rfl)
  (try simp only [Act.put, List.setIfInBounds_toArray, List.set_cons_zero, List.set_cons_succ])
  refine hot_one (i := 9) (oi := { dst := none, op := Op.store 3 (Operand.tmp 9) (Operand.tmp 32), type := 0, pos := "sign.go:105", after := #[{ on := 8, ground := Ground.data }, { on := 0, ground := Ground.phase }, { on := 1, ground := Ground.phase }, { on := 2, ground := Ground.phase }, { on := 3, ground := Ground.phase }, { on := 4, ground := Ground.phase }, { on := 5, ground := Ground.phase }, { on := 6, ground := Ground.phase }, { on := 7, ground := Ground.phase }, { on := 8, ground := Ground.phase }], guard := none }) rfl (by kernel_rfl) (fun K hK => ?_)
  go_simp
  refine hK.out _ _ (fun h => by cases h) ?_
  clear hK K
  refine hot_done (by kernel_rfl) ?_ _
  exact hend
theorem vals3_snoc (l : List (Fin 3)) (x : Fin 3) : vals3 (l ++ [x]) = vals3 l ++ [x.val] := by simp [vals3]
set_option maxRecDepth 100000 in
set_option maxHeartbeats 8000000 in
theorem combine_in (n op s t : Nat) (hn : 6 ≤ n) (ho : op < 5) (hs : s < 8) (ht : t < 8) (w : World) (hT : SgTab w) :
    CallsIn Fence.wide n Tryz.prog 31 #[.int .i64 (op : Int), .int .i64 (s : Int), .int .i64 (t : Int)] w fun e w' => e = .returned (.tuple #[.int .i64 (cmb op s t : Nat), .int .i64 0]) ∧ Below w.heap.size w w' := by
  have h1 : 1 ≤ n := by omega
  have C1 := fun W => sgBoth_any s t W
  rw [errB_ok (okS_of hs) (okS_of ht)] at C1
  have K1 := Lib.hid C1; clear C1
  have HT := Lib.hid hT; clear hT
  refine callsIn_of_wp_marks Tryz.func31 rfl trivial ?_ rfl
  simp only [Tryz.ntmps31, List.size_toArray, List.length_cons, List.length_nil, Nat.reduceAdd, Nat.reduceSub, Array.replicate_succ, Array.replicate_zero, List.push_toArray, List.append_toArray, List.nil_append, List.cons_append]
  gi_wp2_with (first | (refine ⟨trivial, ?_⟩; gi_at_call 33; refine (callsIn_wide.2 (K1.out _)).mono ?_; rintro e w' ⟨rfl, rfl⟩) | (refine ⟨trivial, ?_⟩; gi_at_call 34; refine (places_in Fence.wide _ trivial rfl _ _).mono ?_; rintro e w' ⟨rfl, rfl⟩))
  have bO := (((Boxed.new w 3 (.int .i64 (op : Int))).alloc (.cells #[.int .i64 (t : Int)] 3)).alloc (.cells #[.int .i64 0] 3)).alloc (.cells #[.int .i64 (s : Int)] 3)
  have bT := ((Boxed.new (w.alloc (.cells #[.int .i64 (op : Int)] 3)) 3 (.int .i64 (t : Int))).alloc (.cells #[.int .i64 0] 3)).alloc (.cells #[.int .i64 (s : Int)] 3)
  have bR := (Boxed.new ((w.alloc (.cells #[.int .i64 (op : Int)] 3)).alloc (.cells #[.int .i64 (t : Int)] 3)) 3 (.int .i64 0)).alloc (.cells #[.int .i64 (s : Int)] 3)
  have bS := Boxed.new (((w.alloc (.cells #[.int .i64 (op : Int)] 3)).alloc (.cells #[.int .i64 (t : Int)] 3)).alloc (.cells #[.int .i64 0] 3)) 3 (.int .i64 (s : Int))
  simp only [World.size_alloc] at bT bR bS
  have hB0 : Below w.heap.size w ((((w.alloc (.cells #[.int .i64 (op : Int)] 3)).alloc (.cells #[.int .i64 (t : Int)] 3)).alloc (.cells #[.int .i64 0] 3)).alloc (.cells #[.int .i64 (s : Int)] 3)) := ((((Below.refl _ w).alloc (Nat.le_refl _) _).alloc (by simp) _).alloc (by simp; omega) _).alloc (by simp; omega) _
  have hsz : ((((w.alloc (.cells #[.int .i64 (op : Int)] 3)).alloc (.cells #[.int .i64 (t : Int)] 3)).alloc (.cells #[.int .i64 0] 3)).alloc (.cells #[.int .i64 (s : Int)] 3)).heap.size = w.heap.size + 4 := by simp
  obtain ⟨W0, hW0⟩ : ∃ W0, (((w.alloc (.cells #[.int .i64 (op : Int)] 3)).alloc (.cells #[.int .i64 (t : Int)] 3)).alloc (.cells #[.int .i64 0] 3)).alloc (.cells #[.int .i64 (s : Int)] 3) = W0 := ⟨_, rfl⟩
  rw [hW0] at bO bT bR bS hB0 hsz ⊢
  clear hW0
  have hBS : w.heap.size + 1 + 1 + 1 < W0.heap.size := by omega
  refine wpIn_rangeFunc_ownH rfl h1 (gf := 50) (lb := #[.pointer (some ⟨w.heap.size + 1 + 1 + 1, 0, none⟩)]) rfl trivial (enters_of Tryz.func50 (by kernel_rfl) rfl)
    (places_stops Fence.wide (n - 1) trivial rfl (by omega) (w.heap.size + 1 + 1 + 1) s hs W0 hBS bS.cell) Kb.trans (kb_b hBS) (Below.refl _ _) (by intro x; rfl)
    (fun pre W => (Boxed W (w.heap.size + 1 + 1) 3 (.int .i64 (cmbL op (vals3 pre) (plc t) : Nat)) ∧ Boxed W w.heap.size 3 (.int .i64 (op : Int)) ∧ Boxed W (w.heap.size + 1) 3 (.int .i64 (t : Int))) ∧ Below w.heap.size w W)
    (fun _ _ _ => False)
    (OwnFrom.and (OwnFrom.and (Own.from (boxed_own _ _ _) _) (OwnFrom.and (Own.from (boxed_own _ _ _) _) (Own.from (boxed_own _ _ _) _))) (ownFrom_below (Nat.le_refl _) (by omega)))
    (fun _ _ _ _ _ hs _ _ => hs)
    ⟨⟨bR, bO, bT⟩, hB0⟩
    (fun x a' W => ∃ Bx, w.heap.size + 1 + 1 < Bx ∧ Boxed W Bx 3 (.int .i64 (x.val : Int)) ∧ a' = { tmps := #[.int .i64 (op : Int), .int .i64 (s : Int), .int .i64 (t : Int), .pointer (some ⟨w.heap.size, 0, none⟩), undef, .pointer (some ⟨w.heap.size + 1, 0, none⟩), .int .i64 0, .int .i64 0, .int .i64 0, .pointer (some ⟨w.heap.size + 1 + 1, 0, none⟩), .pointer (some ⟨Bx, 0, none⟩), undef, .int .i64 (s : Int), .int .i64 (t : Int), .int .i64 0, .int .i64 0, .bool false, undef, .int .i64 (s : Int), .func (.func 50) #[] #[.pointer (some ⟨w.heap.size + 1 + 1 + 1, 0, none⟩)], .int .i64 (x.val : Int), undef, undef, undef, undef, undef, undef, undef, undef, undef, undef, undef, undef, undef], defers := [] })
    (fun x a' _ X Y row hs hg hr => by obtain ⟨Bx, h1, h2, h3⟩ := hs; exact ⟨Bx, h1, boxed_own Bx 3 (fun (_ : Unit) => Value.int .i64 (x.val : Int)) () X Y row h2 hg (fun r e => (hr r e).2), h3⟩)
    ?assign ?body ?done ?stop
  case assign =>
    rintro l pre x W K ⟨⟨bR1, bO1, bT1⟩, hB1⟩ hK
    have hs1 := bR1.lt
    unfold plEnc
    gi_wp2
    exact hK _ _ ((KeepsOthers.alloc _ _).from _) (Kb.of_below ((Below.refl _ W).alloc (Nat.le_refl _) _)) ⟨⟨bR1.alloc _, bO1.alloc _, bT1.alloc _⟩, hB1.alloc hB1.size _⟩ ⟨W.heap.size, bR1.lt, Boxed.new W 3 _, rfl⟩
  case body =>
    rintro l pre x a' W hl ⟨r, hr⟩ ⟨⟨bR1, bO1, bT1⟩, hB1⟩ ⟨Bx, hBx, bX, rfl⟩ hlt
    have cT := bT1.cell
    have h1' : 1 ≤ n - 1 - 1 := by omega
    gi_wp2_with (refine ⟨trivial, ?_⟩; gi_at_call 34; refine (CallsIn.inRound l (places_in Fence.wide (n - 1 - 1 - 1) trivial rfl _ _)).mono ?_; rintro e w' ⟨rfl, rfl⟩)
    have hsW := hB1.size
    have bN := Boxed.new W 3 (.int .i64 (t : Int))
    have hW0l : W0.heap.size ≤ W.heap.size := by have := (Array.getElem?_eq_some_iff.1 hr).1; omega
    have hr' : (W.alloc (.cells #[.int .i64 (t : Int)] 3)).heap[l]? = some (.loop r) := (Below.heap_alloc W _ l (Array.getElem?_eq_some_iff.1 hr).1).trans hr
    have hBN : W.heap.size < (W.alloc (.cells #[.int .i64 (t : Int)] 3)).heap.size := by simp
    refine wpIn_rangeFunc_ownN (l₀ := l) (r₀ := r) rfl hr' h1' (gf := 50) (lb := #[.pointer (some ⟨W.heap.size, 0, none⟩)]) rfl trivial (enters_of Tryz.func50 (by kernel_rfl) rfl)
      ((places_stops Fence.wide (n - 1 - 1 - 1) trivial rfl (by omega) W.heap.size t ht _ hBN bN.cell).inRound l) Kb.trans (kb_b hBN) (Below.refl _ _) (by intro x; rfl)
      (fun pre' W' => ((Boxed W' (w.heap.size + 1 + 1) 3 (.int .i64 (cmbRow op x.val (cmbL op (vals3 pre) (plc t)) (vals3 pre') : Nat)) ∧ Boxed W' w.heap.size 3 (.int .i64 (op : Int))) ∧ (Boxed W' (w.heap.size + 1) 3 (.int .i64 (t : Int)) ∧ Boxed W' Bx 3 (.int .i64 (x.val : Int)))) ∧ (Below w.heap.size W W' ∧ KeepsFrom W0.heap.size W W') ∧ Kb (w.heap.size + 1 + 1 + 1) W W')
      (fun _ _ _ => False)
      (OwnFrom.and (OwnFrom.and (OwnFrom.and (Own.from (boxed_own _ _ _) _) (Own.from (boxed_own _ _ _) _)) (OwnFrom.and (Own.from (boxed_own _ _ _) _) (Own.from (boxed_own _ _ _) _))) (OwnFrom.and (OwnFrom.and (ownFrom_below hsW (by simp; omega)) (ownFrom_keepsFrom (by simp))) (kb_own (by simp; omega) _)))
      (fun _ _ _ _ _ hs _ _ => hs)
      ⟨⟨⟨bR1.alloc _, bO1.alloc _⟩, bT1.alloc _, bX.alloc _⟩, ⟨(Below.refl _ W).alloc hsW _, (KeepsOthers.alloc _ _).from _⟩, (Kb.refl _ _).alloc _⟩
      (fun y a'' _ => a'' = { tmps := #[.int .i64 (op : Int), .int .i64 (s : Int), .int .i64 (t : Int), .pointer (some ⟨w.heap.size, 0, none⟩), undef, .pointer (some ⟨w.heap.size + 1, 0, none⟩), .int .i64 0, .int .i64 0, .int .i64 0, .pointer (some ⟨w.heap.size + 1 + 1, 0, none⟩), .pointer (some ⟨Bx, 0, none⟩), .int .i64 (y.val : Int), .int .i64 (s : Int), .int .i64 (t : Int), .int .i64 0, .int .i64 0, .bool false, undef, .int .i64 (s : Int), .func (.func 50) #[] #[.pointer (some ⟨w.heap.size + 1 + 1 + 1, 0, none⟩)], .int .i64 (x.val : Int), .int .i64 (t : Int), .func (.func 50) #[] #[.pointer (some ⟨W.heap.size, 0, none⟩)], .int .i64 (y.val : Int), undef, undef, undef, undef, undef, undef, undef, undef, undef, undef], defers := [] })
      (fun _ _ _ _ _ _ hs _ _ => hs)
      ?assign2 ?body2 ?done2 ?stop2
    case assign2 =>
      rintro l2 pre' y W' K hi hK
      unfold plEnc
      gi_wp2
      exact hK _ _ (KeepsFrom.refl _ _) (Kb.refl _ _) hi rfl
    case body2 =>
      rintro l2 pre' y a'' W' _ _ ⟨⟨⟨bR2, bO2⟩, bT2, bX2⟩, ⟨hBW, hKF⟩, hkb⟩ rfl _
      have hac : cmbRow op x.val (cmbL op (vals3 pre) (plc t)) (vals3 pre') < 8 := cmbRow_lt _ _ _ _ (cmbL_lt _ _ _)
      have hsn : cmbRow op x.val (cmbL op (vals3 pre) (plc t)) (vals3 (pre' ++ [y])) = cmbRow op x.val (cmbL op (vals3 pre) (plc t)) (vals3 pre') ||| rowS op x.val y.val := by rw [vals3_snoc, cmbRow_snoc]
      have hres := (HT.out.on (hB1.trans hBW)).res (op * 9 + x.val * 3 + y.val) (by omega)
      generalize cmbRow op x.val (cmbL op (vals3 pre) (plc t)) (vals3 pre') = acc at *
      gi_wp2_with fail
      refine combine_region (N := w.heap.size) (Bx := Bx) (op := op) (a := x.val) (b := y.val) (acc := acc) _ _ _ _ _ _ _ _ _ _ _ _ _ _ _ _ _ _ _ _ _ _ _ _ _ _ _ _ _ _ ho x.isLt y.isLt hac (by rintro ⟨_, _, h⟩; exact h) (fun _ _ _ _ h => h) bR2.cell bO2.cell bX2.cell hres bR2.frozen ?_
      have hlt2 := bR1.lt
      have bR3 : Boxed W'.drew (w.heap.size + 1 + 1) 3 (.int .i64 (acc : Int)) := bR2
      have bO3 : Boxed W'.drew w.heap.size 3 (.int .i64 (op : Int)) := bO2
      have bT3 : Boxed W'.drew (w.heap.size + 1) 3 (.int .i64 (t : Int)) := bT2
      have bX3 : Boxed W'.drew Bx 3 (.int .i64 (x.val : Int)) := bX2
      have k0 : Kb W.heap.size W' W'.drew := Kb.refl _ _
      have k1 : Kb (w.heap.size + 1 + 1 + 1) W W'.drew := hkb
      have k2 := ((KeepsOthers.drew W').trans (KeepsOthers.setCell W'.drew ⟨w.heap.size + 1 + 1, 0, none⟩ (.int .i64 (acc ||| rowS op x.val y.val : Nat)))).from W0.heap.size
      refine ⟨((KeepsOthers.drew W').trans (KeepsOthers.setCell W'.drew ⟨w.heap.size + 1 + 1, 0, none⟩ (.int .i64 (acc ||| rowS op x.val y.val : Nat)))).from _, k0.set _ _ (by simp; omega), ⟨⟨⟨by rw [hsn]; exact bR3.set _, bO3.other (by omega) _⟩, bT3.other (by omega) _, bX3.other (by omega) _⟩, ⟨hBW.drew.setCell (p := ⟨w.heap.size + 1 + 1, 0, none⟩) (by simp; omega) _, hKF.trans k2⟩, k1.set _ _ (by simp)⟩⟩
    case done2 =>
      rintro ys' W' hz ⟨⟨⟨bR2, bO2⟩, bT2, bX2⟩, ⟨hBW, hKF⟩, hkb⟩
      gi_wp2
      rw [hz] at bR2
      exact ⟨hKF, hkb, ⟨by rw [vals3_snoc, cmbL_snoc]; exact bR2, bO2, bT2⟩, hB1.trans hBW⟩
    case stop2 =>
      rintro c pre' W' _ h
      exact h.elim
  case done =>
    rintro D zs W hD hz ⟨⟨bR1, bO1, bT1⟩, hB1⟩ hK
    have cS := bR1.cell
    gi_wp2
    refine ⟨by simp, .inl ⟨_, _, rfl, run_takeDeferred hK, ?_⟩⟩
    refine ⟨_, by first | (simp [results, Tryz.results31, go_sem]; done) | (simp [results, Tryz.results31, go_sem]; rfl), rfl, hB1.trans (belowK_b (w := w) (Nat.le_refl _) W D _ _ (by omega) hK rfl rfl)⟩
  case stop =>
    rintro D c pre W _ _ h _
    exact h.elim
theorem combine_any (op s t : Nat) (ho : op < 5) (hs : s < 8) (ht : t < 8) (w : World) (hT : SgTab w) :
    Calls Tryz.prog 31 #[.int .i64 (op : Int), .int .i64 (s : Int), .int .i64 (t : Int)] w fun e w' => e = .returned (.tuple #[.int .i64 (cmb op s t : Nat), .int .i64 0]) ∧ Below w.heap.size w w' :=
  (callsIn_wide (n := 6)).1 (combine_in 6 op s t (Nat.le_refl _) ho hs ht w hT)
end Go.Proofs.YtmnbjkbkjmgmkaaGreatDoor
