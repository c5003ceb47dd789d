/-
  sign: Refine, Neg and Format in all cases; the reference's operations.
-/
import Derived.Test.YtmnbjkbkjmgmkaaDoorSgG
set_option linter.unusedSimpArgs false
set_option linter.unusedVariables false
namespace Go.Proofs.YtmnbjkbkjmgmkaaDoor
open Go Go.Proofs Go.RowKit Go.Shelf

attribute [local go_sem] Oper.semAt_some

theorem signs_all (k : Nat) (s t : Int) (hk : k < 5) (w : World) : Calls Tryd.prog 50 #[.int .i64 (k : Int), .int .i64 s, .int .i64 t] w fun e w' => e = .returned (.tuple #[.int .i64 (opR k s t), .int .i64 (errB s t)]) ∧ w' = w := by
  cases h : okB s t with
  | true =>
    obtain ⟨m, n, rfl, rfl, hm, hn⟩ := okB_nat h
    rw [errB_of h, show opR k (m : Int) (n : Int) = (sg k m n : Nat) by unfold opR; rw [if_pos h, sg_eq hk hm hn]; rfl]
    exact signs_ok k m n w hk hm hn
  | false =>
    have e := errB_no h
    rw [e, show opR k s t = 0 by unfold opR; rw [h]; rfl]
    have C1 := fun W => refBoth_any s t W
    rw [e] at C1
    have K1 := Lib.hid C1; clear C1 h e
    go_enter Tryd.func50, Tryd.ntmps50
    go_wp2_with (go_at_call 48; refine (K1.out _).mono ?_; rintro e w1 ⟨rfl, rfl⟩)
    refine bodyPost_ret (by first | (simp [results, Tryd.results50, go_sem]; done) | (simp [results, Tryd.results50, go_sem]; rfl)) rfl ?_
    exact ⟨rfl, rfl⟩
set_option maxHeartbeats 1000000 in
theorem refAdd19_any (s t : Int) (w : World) : Calls Tryd.prog 28 #[.int .i64 s, .int .i64 t] w fun e w' => e = .returned (.tuple #[.int .i64 (opR 0 s t), .int .i64 (errB s t)]) ∧ w' = w := by
  have C1 := fun W => signs_all 0 s t (by decide) W
  have K1 := Lib.hid C1; clear C1
  go_enter Tryd.func28, Tryd.ntmps28
  go_wp2_with (go_at_call 50; refine (K1.out _).mono ?_; rintro e w1 ⟨rfl, rfl⟩)
  refine bodyPost_ret (by first | (simp [results, Tryd.results28, go_sem]; done) | (simp [results, Tryd.results28, go_sem]; rfl)) rfl ?_
  exact ⟨rfl, rfl⟩
set_option maxHeartbeats 1000000 in
theorem refSub19_any (s t : Int) (w : World) : Calls Tryd.prog 29 #[.int .i64 s, .int .i64 t] w fun e w' => e = .returned (.tuple #[.int .i64 (opR 1 s t), .int .i64 (errB s t)]) ∧ w' = w := by
  have C1 := fun W => signs_all 1 s t (by decide) W
  have K1 := Lib.hid C1; clear C1
  go_enter Tryd.func29, Tryd.ntmps29
  go_wp2_with (go_at_call 50; refine (K1.out _).mono ?_; rintro e w1 ⟨rfl, rfl⟩)
  refine bodyPost_ret (by first | (simp [results, Tryd.results29, go_sem]; done) | (simp [results, Tryd.results29, go_sem]; rfl)) rfl ?_
  exact ⟨rfl, rfl⟩
set_option maxHeartbeats 1000000 in
theorem refMul19_any (s t : Int) (w : World) : Calls Tryd.prog 30 #[.int .i64 s, .int .i64 t] w fun e w' => e = .returned (.tuple #[.int .i64 (opR 2 s t), .int .i64 (errB s t)]) ∧ w' = w := by
  have C1 := fun W => signs_all 2 s t (by decide) W
  have K1 := Lib.hid C1; clear C1
  go_enter Tryd.func30, Tryd.ntmps30
  go_wp2_with (go_at_call 50; refine (K1.out _).mono ?_; rintro e w1 ⟨rfl, rfl⟩)
  refine bodyPost_ret (by first | (simp [results, Tryd.results30, go_sem]; done) | (simp [results, Tryd.results30, go_sem]; rfl)) rfl ?_
  exact ⟨rfl, rfl⟩
set_option maxHeartbeats 1000000 in
theorem refQuo19_any (s t : Int) (w : World) : Calls Tryd.prog 31 #[.int .i64 s, .int .i64 t] w fun e w' => e = .returned (.tuple #[.int .i64 (opR 3 s t), .int .i64 (errB s t)]) ∧ w' = w := by
  have C1 := fun W => signs_all 3 s t (by decide) W
  have K1 := Lib.hid C1; clear C1
  go_enter Tryd.func31, Tryd.ntmps31
  go_wp2_with (go_at_call 50; refine (K1.out _).mono ?_; rintro e w1 ⟨rfl, rfl⟩)
  refine bodyPost_ret (by first | (simp [results, Tryd.results31, go_sem]; done) | (simp [results, Tryd.results31, go_sem]; rfl)) rfl ?_
  exact ⟨rfl, rfl⟩
set_option maxHeartbeats 1000000 in
theorem refRem19_any (s t : Int) (w : World) : Calls Tryd.prog 32 #[.int .i64 s, .int .i64 t] w fun e w' => e = .returned (.tuple #[.int .i64 (opR 4 s t), .int .i64 (errB s t)]) ∧ w' = w := by
  have C1 := fun W => signs_all 4 s t (by decide) W
  have K1 := Lib.hid C1; clear C1
  go_enter Tryd.func32, Tryd.ntmps32
  go_wp2_with (go_at_call 50; refine (K1.out _).mono ?_; rintro e w1 ⟨rfl, rfl⟩)
  refine bodyPost_ret (by first | (simp [results, Tryd.results32, go_sem]; done) | (simp [results, Tryd.results32, go_sem]; rfl)) rfl ?_
  exact ⟨rfl, rfl⟩
def isCmp (o : Int) : Bool := decide (2 ≤ o ∧ o ≤ 5)
def rfE (o s t : Int) : Int := if isCmp o then errB s t else 1
def rfA (o s t : Int) : Int := if isCmp o && okB s t then ((rfn (o.toNat - 2) s.toNat t.toNat).1 : Nat) else 0
def rfB (o s t : Int) : Int := if isCmp o && okB s t then ((rfn (o.toNat - 2) s.toNat t.toNat).2 : Nat) else 0
theorem isCmp_nat {o : Int} (h : isCmp o = true) : ∃ m : Nat, o = (m : Int) ∧ 2 ≤ m ∧ m < 6 := by
  unfold isCmp at h
  have h' := of_decide_eq_true h
  exact ⟨o.toNat, by omega, by omega, by omega⟩
theorem sgRefine_all (o s t : Int) (w : World) (hT : SgTab w) :
    Calls Tryd.prog 33 #[.int .i64 o, .int .i64 s, .int .i64 t] w fun e w' => e = .returned (.tuple #[.int .i64 (rfA o s t), .int .i64 (rfB o s t), .int .i64 (rfE o s t)]) ∧ Below w.heap.size w w' := by
  cases hc : isCmp o with
  | false =>
    rw [show rfE o s t = 1 by unfold rfE; rw [hc]; rfl, show rfA o s t = 0 by unfold rfA; rw [hc]; rfl, show rfB o s t = 0 by unfold rfB; rw [hc]; rfl]
    exact refine_arg o s t w (of_decide_eq_false hc)
  | true =>
    rw [show rfE o s t = errB s t by unfold rfE; rw [hc]; rfl]
    cases h : okB s t with
    | true =>
      obtain ⟨o2, rfl, h2, h6⟩ := isCmp_nat hc
      obtain ⟨m, n, rfl, rfl, hm, hn⟩ := okB_nat h
      rw [errB_of h, show rfA (o2 : Int) (m : Int) (n : Int) = ((rfn (o2 - 2) m n).1 : Nat) by unfold rfA; rw [hc, h]; rfl, show rfB (o2 : Int) (m : Int) (n : Int) = ((rfn (o2 - 2) m n).2 : Nat) by unfold rfB; rw [hc, h]; rfl]
      exact refine_any o2 m n h2 h6 hm hn w hT
    | false =>
      rw [errB_no h, show rfA o s t = 0 by unfold rfA; rw [hc, h]; rfl, show rfB o s t = 0 by unfold rfB; rw [hc, h]; rfl]
      exact refine_bad o s t w (of_decide_eq_true hc) (by rw [errB_no h]; decide)
set_option maxHeartbeats 1000000 in
theorem refRefine_all (o s t : Int) (w : World) :
    Calls Tryd.prog 34 #[.int .i64 o, .int .i64 s, .int .i64 t] w fun e w' => e = .returned (.tuple #[.int .i64 (rfA o s t), .int .i64 (rfB o s t), .int .i64 (rfE o s t)]) ∧ w' = w := by
  cases hc : isCmp o with
  | false =>
    rw [show rfE o s t = 1 by unfold rfE; rw [hc]; rfl, show rfA o s t = 0 by unfold rfA; rw [hc]; rfl, show rfB o s t = 0 by unfold rfB; rw [hc]; rfl]
    have hn := of_decide_eq_false hc
    clear hc
    by_cases h2 : o < 2
    · have t1 : decide (o < 2) = true := decide_eq_true h2
      go_enter Tryd.func34, Tryd.ntmps34
      go_wp2
      refine bodyPost_ret (by first | (simp [results, Tryd.results34, go_sem]; done) | (simp [results, Tryd.results34, go_sem]; rfl)) rfl ?_
      exact ⟨rfl, rfl⟩
    · have t1 : decide (o < 2) = false := decide_eq_false h2
      have t2 : decide (5 < o) = true := decide_eq_true (by omega)
      go_enter Tryd.func34, Tryd.ntmps34
      go_wp2
      refine bodyPost_ret (by first | (simp [results, Tryd.results34, go_sem]; done) | (simp [results, Tryd.results34, go_sem]; rfl)) rfl ?_
      exact ⟨rfl, rfl⟩
  | true =>
    rw [show rfE o s t = errB s t by unfold rfE; rw [hc]; rfl]
    obtain ⟨o2, rfl, h2, h6⟩ := isCmp_nat hc
    cases h : okB s t with
    | true =>
      obtain ⟨m, n, rfl, rfl, hm, hn⟩ := okB_nat h
      rw [errB_of h, show rfA (o2 : Int) (m : Int) (n : Int) = ((rg (o2 - 2) m n).1 : Nat) by unfold rfA; rw [hc, h, rg_eq (by omega) hm hn]; rfl, show rfB (o2 : Int) (m : Int) (n : Int) = ((rg (o2 - 2) m n).2 : Nat) by unfold rfB; rw [hc, h, rg_eq (by omega) hm hn]; rfl]
      exact refRefine_ok o2 m n w h2 h6 hm hn
    | false =>
      have e := errB_no h
      rw [e, show rfA (o2 : Int) s t = 0 by unfold rfA; rw [hc, h]; rfl, show rfB (o2 : Int) s t = 0 by unfold rfB; rw [hc, h]; rfl]
      have C1 := fun W => refBoth_any s t W
      rw [e] at C1
      have K1 := Lib.hid C1; clear C1 h e hc
      have t1 : decide ((o2 : Int) < 2) = false := decide_eq_false (by omega)
      have t2 : decide (5 < (o2 : Int)) = false := decide_eq_false (by omega)
      go_enter Tryd.func34, Tryd.ntmps34
      go_wp2_with (go_at_call 48; refine (K1.out _).mono ?_; rintro e w1 ⟨rfl, rfl⟩)
      refine bodyPost_ret (by first | (simp [results, Tryd.results34, go_sem]; done) | (simp [results, Tryd.results34, go_sem]; rfl)) rfl ?_
      exact ⟨rfl, rfl⟩
/-- The signs of the negated numbers. -/
def negR (s : Int) : Int := opR 1 2 s
theorem errB_two (s : Int) : errB 2 s = errS s := by unfold errB; rw [if_pos (by decide)]
set_option maxHeartbeats 1000000 in
theorem sgNeg_any (s : Int) (w : World) (hT : SgTab w) : Calls Tryd.prog 15 #[.int .i64 s] w fun e w' => e = .returned (.tuple #[.int .i64 (negR s), .int .i64 (errS s)]) ∧ Below w.heap.size w w' := by
  have C1 := sgSub_any 2 s w hT
  rw [errB_two] at C1
  change Calls _ _ _ _ fun e w' => e = .returned (.tuple #[.int .i64 (negR s), .int .i64 (errS s)]) ∧ Below w.heap.size w w' at C1
  have K1 := Lib.hid C1; clear C1 hT
  go_enter Tryd.func15, Tryd.ntmps15
  go_wp2_with (go_at_call 46; refine (K1.out).mono ?_; rintro e w1 ⟨rfl, hb⟩)
  refine bodyPost_ret (by first | (simp [results, Tryd.results15, go_sem]; done) | (simp [results, Tryd.results15, go_sem]; rfl)) rfl ?_
  exact ⟨rfl, hb⟩
theorem neg_val : ∀ s : Fin 8, cmb 1 2 s.val = (if hasS s.val 1 then 1 else 0) ||| ((if hasS s.val 0 then 2 else 0) ||| (if hasS s.val (-1) then 4 else 0)) := by decide
def negL (s : Nat) (l : List Int) : Nat := l.foldl (fun r n => if hasS s n then r ||| sgnS (-n) else r) 0
theorem negL_snoc (s : Nat) (l : List Int) (n : Int) : negL s (l ++ [n]) = if hasS s n then negL s l ||| sgnS (-n) else negL s l := by simp [negL]
theorem neg_eq8 : ∀ s : Fin 8, negL s.val [-1, 0, 1] = cmb 1 2 s.val := by decide
theorem three_take : ∀ k : Fin 3, ([-1, 0, 1] : List Int).take (k.val + 1) = ([-1, 0, 1] : List Int).take k.val ++ [(-1 + (k.val : Int))] := by decide
theorem negL_lt (s : Nat) (l : List Int) : negL s l < 8 := by
  have : ∀ (l : List Int) (r : Nat), r < 8 → l.foldl (fun r n => if hasS s n then r ||| sgnS (-n) else r) r < 8 := by
    intro l
    induction l with
    | nil => exact fun _ h => h
    | cons n l ih =>
      intro r h
      refine ih _ ?_
      dsimp only
      split
      · exact or_lt8 h (sgnS_lt _)
      · exact h
  exact this l 0 (by decide)
set_option maxRecDepth 100000 in
set_option maxHeartbeats 4000000 in
theorem refNeg19_any (s : Int) (w : World) : Calls Tryd.prog 16 #[.int .i64 s] w fun e w' => e = .returned (.tuple #[.int .i64 (negR s), .int .i64 (errS s)]) ∧ w' = w := by
  have C1 := fun W => refCheck19_any s W
  cases h : okS s with
  | false =>
    have e : errS s = 2 := by unfold errS; rw [h]; rfl
    rw [e] at C1 ⊢
    rw [show negR s = 0 by unfold negR opR okB; rw [h]; rfl]
    have K1 := Lib.hid C1; clear C1 h e
    go_enter Tryd.func16, Tryd.ntmps16
    go_wp2_with (go_at_call 20; refine (K1.out _).mono ?_; rintro e w1 ⟨rfl, rfl⟩)
    refine bodyPost_ret (by first | (simp [results, Tryd.results16, go_sem]; done) | (simp [results, Tryd.results16, go_sem]; rfl)) rfl ?_
    exact ⟨rfl, rfl⟩
  | true =>
    obtain ⟨m, rfl, hm⟩ := okS_nat h
    rw [errS_ok h] at C1 ⊢
    rw [show negR (m : Int) = (negL m [-1, 0, 1] : Nat) by unfold negR opR okB; rw [h, show okS 2 = true by decide, neg_eq8 ⟨m, hm⟩]; rfl]
    have K1 := Lib.hid C1; clear C1 h
    have KS := Lib.hid (fun n W => refHas_any m hm n W)
    have KG := Lib.hid (fun n W => refSgn_any n W)
    go_enter Tryd.func16, Tryd.ntmps16
    go_wp2_with (go_at_call 20; refine (K1.out _).mono ?_; rintro e w1 ⟨rfl, rfl⟩)
    go_loopw [5, 6] (fun x p wr => wr = w1 ∧ ∃ k : Nat, k ≤ 3 ∧ p = .int .i64 (-1 + (k : Int)) ∧ x = .int .i64 (negL m (([-1, 0, 1] : List Int).take k) : Nat)) (fun _ p _ => (2 - intOf p).toNat)
    case atStart => exact ⟨rfl, 0, by omega, rfl, rfl⟩
    case round =>
      obtain ⟨rfl, k, hk, rfl, rfl⟩ := hrel
      by_cases hlt : k < 3
      · have htk := three_take ⟨k, hlt⟩
        dsimp only at htk
        have hsn := negL_snoc m (([-1, 0, 1] : List Int).take k) (-1 + (k : Int))
        rw [← htk] at hsn
        have hacc := negL_lt m (([-1, 0, 1] : List Int).take k)
        generalize negL m (([-1, 0, 1] : List Int).take k) = acc at *
        generalize ha : -1 + (k : Int) = a at *
        have a0 : -1 ≤ a := by omega
        have a1 : a ≤ 1 := by omega
        have hk2 : -1 + ((k + 1 : Nat) : Int) = a + 1 := by omega
        have HK2 := Lib.hid hk2; have HLT := Lib.hid hlt; clear htk ha hk2 hlt hk
        have t1 : decide (a ≤ 1) = true := decide_eq_true a1
        have CS := fun W => KS.out a W
        have CG := fun W => KG.out (-a) W
        have hor := bOr hacc (sgnS_lt (-a))
        generalize sgnS (-a) = ga at *
        generalize hasS m a = h1 at *
        have HS := Lib.hid hsn
        have KCS := Lib.hid CS; have KCG := Lib.hid CG; clear CS CG hsn KS KG
        cases h1
        · go_wp2_with (go_at_call 45; refine (KCS.out _).mono ?_; clear KCS; rintro e w1 ⟨rfl, rfl⟩)
          go_roundw
          case rel => exact ⟨by first | exact trivial | rfl, k + 1, by have := HLT.out; omega, by first | (rw [HK2.out]; done) | (rw [HK2.out]; go_num), by rw [HS.out]; rfl⟩
          case measure => simp [intOf]; omega
        · go_wp2_with (first | (go_at_call 45; refine (KCS.out _).mono ?_; clear KCS; rintro e w1 ⟨rfl, rfl⟩) | (go_at_call 43; refine (KCG.out _).mono ?_; clear KCG; rintro e w1 ⟨rfl, rfl⟩))
          go_roundw
          case rel => exact ⟨by first | exact trivial | rfl, k + 1, by have := HLT.out; omega, by first | (rw [HK2.out]; done) | (rw [HK2.out]; go_num), by rw [HS.out]; rfl⟩
          case measure => simp [intOf]; omega
      · have hk3 : k = 3 := by omega
        subst hk3
        go_wp2
        refine bodyPost_ret (by first | (simp [results, Tryd.results16, go_sem]; done) | (simp [results, Tryd.results16, go_sem]; rfl)) rfl ?_
        exact ⟨rfl, rfl⟩
set_option maxHeartbeats 1000000 in
theorem sgFormat_any (s : Int) (w : World) (hT : SgTab w) : Calls Tryd.prog 17 #[.int .i64 s] w fun e w' => e = .returned (.tuple #[.string (nameR s), .int .i64 (errS s)]) ∧ Below w.heap.size w w' := by
  have C1 := fun W => sgCheck_any s W
  cases h : okS s with
  | false =>
    have e : errS s = 2 := by unfold errS; rw [h]; rfl
    rw [e] at C1 ⊢
    rw [show nameR s = ⟨#[]⟩ by unfold nameR; rw [h]; rfl]
    have K1 := Lib.hid C1; clear C1 h e
    go_enter Tryd.func17, Tryd.ntmps17
    go_wp2_with (go_at_call 19; refine (K1.out _).mono ?_; rintro e w1 ⟨rfl, rfl⟩)
    refine bodyPost_ret (by first | (simp [results, Tryd.results17, go_sem]; done) | (simp [results, Tryd.results17, go_sem]; rfl)) rfl ?_
    exact ⟨rfl, Below.refl _ _⟩
  | true =>
    obtain ⟨m, rfl, hm⟩ := okS_nat h
    rw [errS_ok h] at C1 ⊢
    rw [show nameR (m : Int) = nameS m by unfold nameR; rw [if_pos h]; rfl]
    have c0 := hT.nam m hm
    have K1 := Lib.hid C1; clear C1 h hT
    generalize nameS m = nm at *
    have p0 : (0 : Int) ≤ (m : Int) := by omega
    have p1 : (m : Int) < 8 := by omega
    go_enter Tryd.func17, Tryd.ntmps17
    go_wp2_with (go_at_call 19; refine (K1.out _).mono ?_; rintro e w1 ⟨rfl, rfl⟩)
    refine bodyPost_ret (by first | (simp [results, Tryd.results17, go_sem]; done) | (simp [results, Tryd.results17, go_sem]; rfl)) rfl ?_
    exact ⟨rfl, by go_grown⟩
set_option maxHeartbeats 4000000 in
theorem refFormat19_any (s : Int) (w : World) : Calls Tryd.prog 18 #[.int .i64 s] w fun e w' => e = .returned (.tuple #[.string (nameR s), .int .i64 (errS s)]) ∧ Below w.heap.size w w' := by
  have C1 := fun W => refCheck19_any s W
  cases h : okS s with
  | false =>
    have e : errS s = 2 := by unfold errS; rw [h]; rfl
    rw [e] at C1 ⊢
    rw [show nameR s = ⟨#[]⟩ by unfold nameR; rw [h]; rfl]
    have K1 := Lib.hid C1; clear C1 h e
    go_enter Tryd.func18, Tryd.ntmps18
    go_wp2_with (go_at_call 20; refine (K1.out _).mono ?_; rintro e w1 ⟨rfl, rfl⟩)
    refine bodyPost_ret (by first | (simp [results, Tryd.results18, go_sem]; done) | (simp [results, Tryd.results18, go_sem]; rfl)) rfl ?_
    exact ⟨rfl, Below.refl _ _⟩
  | true =>
    obtain ⟨m, rfl, hm⟩ := okS_nat h
    rw [errS_ok h] at C1 ⊢
    have K1 := Lib.hid C1; clear C1
    rcases (show m = 0 ∨ m = 1 ∨ m = 2 ∨ m = 3 ∨ m = 4 ∨ m = 5 ∨ m = 6 ∨ m = 7 by omega) with rfl | rfl | rfl | rfl | rfl | rfl | rfl | rfl
    all_goals clear h hm
    all_goals go_enter Tryd.func18, Tryd.ntmps18
    all_goals go_wp2_with (go_at_call 20; refine (K1.out _).mono ?_; rintro e w1 ⟨rfl, rfl⟩)
    all_goals refine bodyPost_ret (by first | (simp [results, Tryd.results18, go_sem]; done) | (simp [results, Tryd.results18, go_sem]; rfl)) rfl ?_
    all_goals exact ⟨rfl, by go_grown⟩
end Go.Proofs.YtmnbjkbkjmgmkaaDoor
