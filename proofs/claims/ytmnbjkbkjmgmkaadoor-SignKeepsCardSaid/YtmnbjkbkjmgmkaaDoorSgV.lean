/-
  sign: the law SignKeeps.
-/
import Derived.Test.YtmnbjkbkjmgmkaaDoorSgT
import Derived.Test.YtmnbjkbkjmgmkaaDoorSgR
set_option linter.unusedSimpArgs false
set_option linter.unusedVariables false
namespace Go.Proofs.YtmnbjkbkjmgmkaaDoor
open Go Go.Proofs Go.RowKit Go.Shelf

attribute [local go_sem] Oper.semAt_some

/-- Which signs and orders of two integers go together. -/
def goS (ga gb : Nat) (c : Int) : Bool := (ga == 1 && gb == 1) || (ga == 4 && gb == 4) || (ga == 2 && gb == 2 && c == 0) || (decide (ga < gb) && c == -1) || (decide (gb < ga) && c == 1)
theorem sgnS_cases (x : Int) : sgnS x = 1 ∨ sgnS x = 2 ∨ sgnS x = 4 := by
  unfold sgnS
  (repeat' split) <;> simp
theorem cmpI_cases (x y : Int) : cmpI x y = -1 ∨ cmpI x y = 0 ∨ cmpI x y = 1 := by
  unfold cmpI
  (repeat' split) <;> simp
theorem goS_of (x y : Int) : goS (sgnS x) (sgnS y) (cmpI x y) = true := by
  unfold sgnS cmpI
  by_cases h0 : x < 0
  · by_cases h1 : y < 0
    · simp [h0, h1, goS]
    · by_cases h2 : y = 0
      · subst h2; simp [h0, goS]
      · simp [h0, h1, h2, goS]; omega
  · by_cases h3 : x = 0
    · subst h3
      by_cases h1 : y < 0
      · have : ¬ (0 : Int) < y := by omega
        have h4 : ¬ (0 : Int) = y := by omega
        simp [h1, this, h4, goS]
      · by_cases h2 : y = 0
        · subst h2; simp [goS]
        · have : (0 : Int) < y := by omega
          simp [h1, h2, this, goS]
    · by_cases h1 : y < 0
      · have : ¬ x < y := by omega
        have h4 : ¬ x = y := by omega
        simp [h0, h3, h1, this, h4, goS]
      · by_cases h2 : y = 0
        · subst h2
          simp [h0, h3, goS]
        · simp [h0, h3, h1, h2, goS]
theorem keeps8 : ∀ o : Fin 4, ∀ s t : Fin 8, rfn o.val (rfn o.val s.val t.val).1 (rfn o.val s.val t.val).2 = rfn o.val s.val t.val ∧ (rfn o.val s.val t.val).1 &&& s.val = (rfn o.val s.val t.val).1 ∧ (rfn o.val s.val t.val).2 &&& t.val = (rfn o.val s.val t.val).2 := by decide +kernel
theorem keeps9 : ∀ o : Fin 4, ∀ s t : Fin 8, ∀ ga ∈ [1, 2, 4], ∀ gb ∈ [1, 2, 4], ∀ c ∈ [(-1 : Int), 0, 1], goS ga gb c = true → ga &&& s.val ≠ 0 → gb &&& t.val ≠ 0 → trueS o.val c 0 = true → ga &&& (rfn o.val s.val t.val).1 ≠ 0 ∧ gb &&& (rfn o.val s.val t.val).2 ≠ 0 := by decide +kernel
theorem rfnL_lt' {o t : Nat} (s : Nat) (ht : t < 8) : (rfn o s t).1 < 8 ∧ (rfn o s t).2 < 8 := by
  have : ∀ (l : List Nat) (p : Nat × Nat), (∀ a ∈ l, a < 3) → p.1 < 8 ∧ p.2 < 8 → (l.foldl (rfnStep o t) p).1 < 8 ∧ (l.foldl (rfnStep o t) p).2 < 8 := by
    intro l
    induction l with
    | nil => exact fun _ _ h => h
    | cons a l ih => exact fun p hl h => ih _ (fun x hx => hl x (by simp [hx])) (rfnStep_lt ht p a (hl a (by simp)) h)
  exact this (plc s) (0, 0) (fun a ha => plc_lt ha) ⟨by decide, by decide⟩
theorem sgRefine_nat (k s t : Nat) (hk : k < 4) (hs : s < 8) (ht : t < 8) (w : World) (hT : SgTab w) :
    Calls Tryd.prog 33 #[.int .i64 ((k + 2 : Nat) : Int), .int .i64 (s : Int), .int .i64 (t : Int)] w fun e w' => e = .returned (.tuple #[.int .i64 ((rfn k s t).1 : Nat), .int .i64 ((rfn k s t).2 : Nat), .int .i64 0]) ∧ Below w.heap.size w w' := by
  have := refine_any (k + 2) s t (by omega) (by omega) hs ht w hT
  rwa [show k + 2 - 2 = k by omega] at this
theorem sgOf_str (a : ByteArray) (x : Int) (w : World) (h : Str a x) : Calls Tryd.prog 11 #[.string a] w fun e w' => e = .returned (.tuple #[.int .i64 (sgnS x : Nat), .int .i64 0]) ∧ w' = w := by
  have h1 := h.size
  have := sgOf_any a w (by omega)
  unfold ofR at this
  rw [h.err, if_pos rfl, h.text, valZ_itoa] at this
  exact this
theorem rgtB_str {a : ByteArray} (h : rgtB a = true) : Str a (valZ (bytes a)) := by
  unfold rgtB at h
  rw [Bool.and_eq_true, decide_eq_true_eq, decide_eq_true_eq] at h
  exact str_of_err h.2
set_option maxRecDepth 100000 in
set_option maxHeartbeats 16000000 in
theorem lkeeps_walk (m : Nat) (a b : ByteArray) (xs ys : Nat) (w : World) (hm : m < 256) (ha : a.size ≤ 9223372036854775807) (hb : b.size ≤ 9223372036854775807) (hxs : xs < 256) (hys : ys < 256) (hT : SgTab w) :
    Calls Tryd.prog 8 #[.int .u8 (m : Int), .agg #[.string a, .string b], .agg #[.int .u8 (xs : Int), .int .u8 (ys : Int)]] w fun e w' => e = .returned (.bool true) ∧ Below w.heap.size w w' := by
  have CW : ∀ W, Below w.heap.size w W → Calls Tryd.prog 10 #[] W fun e w' => e = .returned (.bool true) ∧ Below W.heap.size W w' := fun W h => awake19_any W (hT.on h)
  have CR := fun (B c : Nat) (W : World) h0 h1 => right19_two a b B c W ha hb h0 h1
  have KW := Lib.hid CW; clear CW
  cases hr : (rgtB a && rgtB b) with
  | false =>
    rw [hr] at CR
    have KR := Lib.hid CR; clear CR hT hr
    go_enter Tryd.func8, Tryd.ntmps8
    go_wp2_with (first | (go_at_call 35; refine (KR.out _ _ _ (by go_cell) (by go_cell)).mono ?_; rintro e w1 ⟨rfl, rfl⟩) | (go_at_call 10; refine (KW.out _ (by go_grown)).mono ?_; rintro e w2 ⟨rfl, hb⟩))
    refine bodyPost_ret (by first | (simp [results, Tryd.results8, go_sem]; done) | (simp [results, Tryd.results8, go_sem]; rfl)) rfl ?_
    exact ⟨rfl, Below.chain (by go_grown) hb⟩
  | true =>
    rw [hr] at CR
    rw [Bool.and_eq_true] at hr
    have sa := rgtB_str hr.1; have sb := rgtB_str hr.2
    have KR := Lib.hid CR; clear CR hr
    generalize valZ (bytes a) = va at *
    generalize valZ (bytes b) = vb at *
    have q0 := tmod8 xs; have q1 := tmod8 ys
    have l0 : xs % 8 < 8 := Nat.mod_lt _ (by decide)
    have l1 : ys % 8 < 8 := Nat.mod_lt _ (by decide)
    generalize xs % 8 = s at *
    generalize ys % 8 = t at *
    have q2 : Int.tmod (m : Int) 4 = ((m % 4 : Nat) : Int) := by rw [Int.tmod_eq_emod_of_nonneg (by omega)]; omega
    have l2 : m % 4 < 4 := Nat.mod_lt _ (by decide)
    generalize m % 4 = k at *
    obtain ⟨g1, g2, g3⟩ := keeps8 ⟨k, l2⟩ ⟨s, l0⟩ ⟨t, l1⟩
    dsimp only at g1 g2 g3
    have lX := rfnL_lt' (o := k) s l1
    have hgo := goS_of va vb
    have mA : sgnS va ∈ [1, 2, 4] := by rcases sgnS_cases va with e | e | e <;> rw [e] <;> simp
    have mB : sgnS vb ∈ [1, 2, 4] := by rcases sgnS_cases vb with e | e | e <;> rw [e] <;> simp
    have mC : cmpI va vb ∈ [(-1 : Int), 0, 1] := by rcases cmpI_cases va vb with e | e | e <;> rw [e] <;> simp
    have k9 := keeps9 ⟨k, l2⟩ ⟨s, l0⟩ ⟨t, l1⟩ (sgnS va) mA (sgnS vb) mB (cmpI va vb) mC hgo
    dsimp only at k9
    have C2 : ∀ W, Below w.heap.size w W → Calls Tryd.prog 33 #[.int .i64 ((k : Int) + 2), .int .i64 (s : Int), .int .i64 (t : Int)] W fun e w' => e = .returned (.tuple #[.int .i64 ((rfn k s t).1 : Nat), .int .i64 ((rfn k s t).2 : Nat), .int .i64 0]) ∧ Below W.heap.size W w' := fun W h => sgRefine_nat k s t l2 l0 l1 W (hT.on h)
    have C3 : ∀ W, Below w.heap.size w W → Calls Tryd.prog 33 #[.int .i64 ((k : Int) + 2), .int .i64 ((rfn k s t).1 : Nat), .int .i64 ((rfn k s t).2 : Nat)] W fun e w' => e = .returned (.tuple #[.int .i64 ((rfn k (rfn k s t).1 (rfn k s t).2).1 : Nat), .int .i64 ((rfn k (rfn k s t).1 (rfn k s t).2).2 : Nat), .int .i64 0]) ∧ Below W.heap.size W w' := fun W h => sgRefine_nat k (rfn k s t).1 (rfn k s t).2 l2 lX.1 lX.2 W (hT.on h)
    rw [g1] at C3
    have C4 := fun W => compareS a b va vb W sa sb
    have C5 := fun W => sgOf_str a va W sa
    have C6 := fun W => sgOf_str b vb W sb
    have C7 : ∀ W, Calls Tryd.prog 37 #[.int .i64 ((k : Int) + 2), .int .i64 (cmpI va vb), .int .i64 0] W fun e w' => e = .returned (.bool (trueS (k + 2 - 2) (cmpI va vb) 0)) ∧ w' = W := fun W => refTrue_any (k + 2) (cmpI va vb) 0 W (by omega) (by omega)
    rw [show k + 2 - 2 = k by omega] at C7
    generalize rfn k s t = X at *
    obtain ⟨X, Y⟩ := X
    dsimp only at g2 g3 lX k9 C2 C3
    have gA := sgnS_lt va; have gB := sgnS_lt vb
    have b1 := bAnd lX.1 l0; have b2 := bAnd lX.2 l1
    rw [g2] at b1; rw [g3] at b2
    have b3 := bAnd gA l0; have b4 := bAnd gB l1; have b5 := bAnd gA lX.1; have b6 := bAnd gB lX.2
    clear g1 g2 g3 hgo mA mB mC
    generalize sgnS va = ga at *
    generalize sgnS vb = gb at *
    generalize cmpI va vb = c at *
    generalize trueS k c 0 = tr at *
    generalize ga &&& X = r1 at *
    generalize gb &&& Y = r2 at *
    generalize ga &&& s = r3 at *
    generalize gb &&& t = r4 at *
    have k0 : (0 : Int) ≤ (k : Int) := by omega
    have k4 : (k : Int) < 4 := by omega
    have hk2 : 2 + (k : Int) = ((k + 2 : Nat) : Int) := by omega
    have K2 := Lib.hid C2; have K3 := Lib.hid C3; have K4 := Lib.hid C4; have K5 := Lib.hid C5; have K6 := Lib.hid C6; have K7 := Lib.hid C7; have K9 := Lib.hid k9
    clear C2 C3 C4 C5 C6 C7 k9 hT sa sb lX gA gB
    go_enter Tryd.func8, Tryd.ntmps8
    go_wp2_with (go_at_call 35; refine (KR.out _ _ _ (by go_cell) (by go_cell)).mono ?_; rintro e w1 ⟨rfl, rfl⟩)
    go_region
    have HB0 : Below w.heap.size w (((w.alloc (Obj.cells #[.string a, .string b] 56)).alloc (Obj.cells #[.int .u8 (xs : Int), .int .u8 (ys : Int)] 57)).alloc (Obj.cells #[.string a, .string b] 22)).drew := ((((Below.refl _ w).alloc (Nat.le_refl _) _).alloc (by simp) _).alloc (by simp; omega) _).drew
    have y0 : (((w.alloc (Obj.cells #[.string a, .string b] 56)).alloc (Obj.cells #[.int .u8 (xs : Int), .int .u8 (ys : Int)] 57)).alloc (Obj.cells #[.string a, .string b] 22)).drew.cell? ⟨w.heap.size, 0, none⟩ = some (.string a) := by rw [cell_drew_own]; go_cell
    have x0 : (((w.alloc (Obj.cells #[.string a, .string b] 56)).alloc (Obj.cells #[.int .u8 (xs : Int), .int .u8 (ys : Int)] 57)).alloc (Obj.cells #[.string a, .string b] 22)).drew.cell? ⟨w.heap.size, 1, none⟩ = some (.string b) := by rw [cell_drew_own]; go_cell
    have hl0 : w.heap.size < (((w.alloc (Obj.cells #[.string a, .string b] 56)).alloc (Obj.cells #[.int .u8 (xs : Int), .int .u8 (ys : Int)] 57)).alloc (Obj.cells #[.string a, .string b] 22)).drew.heap.size := by simp; omega
    generalize (((w.alloc (Obj.cells #[.string a, .string b] 56)).alloc (Obj.cells #[.int .u8 (xs : Int), .int .u8 (ys : Int)] 57)).alloc (Obj.cells #[.string a, .string b] 22)).drew = W0 at *
    clear q0 q1 q2 l0 l1 l2 k0 k4 hk2
    by_cases e3 : r3 = 0
    · subst e3
      go_wp2_with (first | (go_at_call 33; refine (K2.out _ HB0).mono ?_; clear K2; rintro e v1 ⟨rfl, hb1⟩; have HB1 := Below.chain HB0 hb1; have y1 := (hb1.cell (p := ⟨w.heap.size, 0, none⟩) hl0).trans y0; have x1 := (hb1.cell (p := ⟨w.heap.size, 1, none⟩) hl0).trans x0; have hl1 := Nat.lt_of_lt_of_le hl0 hb1.size; clear hb1 y0 x0) | (go_at_call 33; refine (K3.out _ HB1).mono ?_; clear K3; rintro e v2 ⟨rfl, hb2⟩; have HB2 := Below.chain HB1 hb2; have y2 := (hb2.cell (p := ⟨w.heap.size, 0, none⟩) hl1).trans y1; have x2 := (hb2.cell (p := ⟨w.heap.size, 1, none⟩) hl1).trans x1; have hl2 := Nat.lt_of_lt_of_le hl1 hb2.size; clear hb2 y1 x1) | (go_at_call 36; refine (K4.out _).mono ?_; clear K4; rintro e v9 ⟨rfl, h⟩; subst h) | (go_at_call 11; refine (K5.out _).mono ?_; clear K5; rintro e v9 ⟨rfl, h⟩; subst h) | (go_at_call 11; refine (K6.out _).mono ?_; clear K6; rintro e v9 ⟨rfl, h⟩; subst h) | (go_at_call 37; refine (K7.out _).mono ?_; clear K7; rintro e v9 ⟨rfl, h⟩; subst h) | (go_at_call 10; refine (KW.out _ HB2).mono ?_; rintro e v8 ⟨rfl, hb8⟩))
      refine bodyPost_ret (by first | (simp [results, Tryd.results8, go_sem]; done) | (simp [results, Tryd.results8, go_sem]; rfl)) rfl ?_
      exact ⟨rfl, Below.chain HB2 hb8⟩
    · have t3 : ((r3 : Int) == 0) = false := by rw [beq_eq_false_iff_ne]; omega
      by_cases e4 : r4 = 0
      · subst e4
        go_wp2_with (first | (go_at_call 33; refine (K2.out _ HB0).mono ?_; clear K2; rintro e v1 ⟨rfl, hb1⟩; have HB1 := Below.chain HB0 hb1; have y1 := (hb1.cell (p := ⟨w.heap.size, 0, none⟩) hl0).trans y0; have x1 := (hb1.cell (p := ⟨w.heap.size, 1, none⟩) hl0).trans x0; have hl1 := Nat.lt_of_lt_of_le hl0 hb1.size; clear hb1 y0 x0) | (go_at_call 33; refine (K3.out _ HB1).mono ?_; clear K3; rintro e v2 ⟨rfl, hb2⟩; have HB2 := Below.chain HB1 hb2; have y2 := (hb2.cell (p := ⟨w.heap.size, 0, none⟩) hl1).trans y1; have x2 := (hb2.cell (p := ⟨w.heap.size, 1, none⟩) hl1).trans x1; have hl2 := Nat.lt_of_lt_of_le hl1 hb2.size; clear hb2 y1 x1) | (go_at_call 36; refine (K4.out _).mono ?_; clear K4; rintro e v9 ⟨rfl, h⟩; subst h) | (go_at_call 11; refine (K5.out _).mono ?_; clear K5; rintro e v9 ⟨rfl, h⟩; subst h) | (go_at_call 11; refine (K6.out _).mono ?_; clear K6; rintro e v9 ⟨rfl, h⟩; subst h) | (go_at_call 37; refine (K7.out _).mono ?_; clear K7; rintro e v9 ⟨rfl, h⟩; subst h) | (go_at_call 10; refine (KW.out _ HB2).mono ?_; rintro e v8 ⟨rfl, hb8⟩))
        refine bodyPost_ret (by first | (simp [results, Tryd.results8, go_sem]; done) | (simp [results, Tryd.results8, go_sem]; rfl)) rfl ?_
        exact ⟨rfl, Below.chain HB2 hb8⟩
      · have t4 : ((r4 : Int) == 0) = false := by rw [beq_eq_false_iff_ne]; omega
        cases tr with
        | false =>
          go_wp2_with (first | (go_at_call 33; refine (K2.out _ HB0).mono ?_; clear K2; rintro e v1 ⟨rfl, hb1⟩; have HB1 := Below.chain HB0 hb1; have y1 := (hb1.cell (p := ⟨w.heap.size, 0, none⟩) hl0).trans y0; have x1 := (hb1.cell (p := ⟨w.heap.size, 1, none⟩) hl0).trans x0; have hl1 := Nat.lt_of_lt_of_le hl0 hb1.size; clear hb1 y0 x0) | (go_at_call 33; refine (K3.out _ HB1).mono ?_; clear K3; rintro e v2 ⟨rfl, hb2⟩; have HB2 := Below.chain HB1 hb2; have y2 := (hb2.cell (p := ⟨w.heap.size, 0, none⟩) hl1).trans y1; have x2 := (hb2.cell (p := ⟨w.heap.size, 1, none⟩) hl1).trans x1; have hl2 := Nat.lt_of_lt_of_le hl1 hb2.size; clear hb2 y1 x1) | (go_at_call 36; refine (K4.out _).mono ?_; clear K4; rintro e v9 ⟨rfl, h⟩; subst h) | (go_at_call 11; refine (K5.out _).mono ?_; clear K5; rintro e v9 ⟨rfl, h⟩; subst h) | (go_at_call 11; refine (K6.out _).mono ?_; clear K6; rintro e v9 ⟨rfl, h⟩; subst h) | (go_at_call 37; refine (K7.out _).mono ?_; clear K7; rintro e v9 ⟨rfl, h⟩; subst h) | (go_at_call 10; refine (KW.out _ HB2).mono ?_; rintro e v8 ⟨rfl, hb8⟩))
          refine bodyPost_ret (by first | (simp [results, Tryd.results8, go_sem]; done) | (simp [results, Tryd.results8, go_sem]; rfl)) rfl ?_
          exact ⟨rfl, Below.chain HB2 hb8⟩
        | true =>
          obtain ⟨n1, n2⟩ := K9.out e3 e4 rfl
          have t1 : ((r1 : Int) != 0) = true := by rw [bne_iff_ne]; omega
          have t2 : ((r2 : Int) != 0) = true := by rw [bne_iff_ne]; omega
          go_wp2_with (first | (go_at_call 33; refine (K2.out _ HB0).mono ?_; clear K2; rintro e v1 ⟨rfl, hb1⟩; have HB1 := Below.chain HB0 hb1; have y1 := (hb1.cell (p := ⟨w.heap.size, 0, none⟩) hl0).trans y0; have x1 := (hb1.cell (p := ⟨w.heap.size, 1, none⟩) hl0).trans x0; have hl1 := Nat.lt_of_lt_of_le hl0 hb1.size; clear hb1 y0 x0) | (go_at_call 33; refine (K3.out _ HB1).mono ?_; clear K3; rintro e v2 ⟨rfl, hb2⟩; have HB2 := Below.chain HB1 hb2; have y2 := (hb2.cell (p := ⟨w.heap.size, 0, none⟩) hl1).trans y1; have x2 := (hb2.cell (p := ⟨w.heap.size, 1, none⟩) hl1).trans x1; have hl2 := Nat.lt_of_lt_of_le hl1 hb2.size; clear hb2 y1 x1) | (go_at_call 36; refine (K4.out _).mono ?_; clear K4; rintro e v9 ⟨rfl, h⟩; subst h) | (go_at_call 11; refine (K5.out _).mono ?_; clear K5; rintro e v9 ⟨rfl, h⟩; subst h) | (go_at_call 11; refine (K6.out _).mono ?_; clear K6; rintro e v9 ⟨rfl, h⟩; subst h) | (go_at_call 37; refine (K7.out _).mono ?_; clear K7; rintro e v9 ⟨rfl, h⟩; subst h) | (go_at_call 10; refine (KW.out _ HB2).mono ?_; rintro e v8 ⟨rfl, hb8⟩))
          refine bodyPost_ret (by first | (simp [results, Tryd.results8, go_sem]; done) | (simp [results, Tryd.results8, go_sem]; rfl)) rfl ?_
          exact ⟨rfl, Below.chain HB2 hb8⟩
end Go.Proofs.YtmnbjkbkjmgmkaaDoor
