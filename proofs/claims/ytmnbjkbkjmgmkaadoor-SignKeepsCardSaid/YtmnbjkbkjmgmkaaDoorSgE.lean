/-
  sign: the simple functions, of the program and of the reference.
-/
import Derived.Test.YtmnbjkbkjmgmkaaDoorSgC
import Derived.Test.YtmnbjkbkjmgmkaaDoorSgD
import Derived.Test.YtmnbjkbkjmgmkaaDoorBase
set_option linter.unusedSimpArgs false
set_option linter.unusedVariables false
namespace Go.Proofs.YtmnbjkbkjmgmkaaDoor
open Go Go.Proofs Go.RowKit Go.Shelf

attribute [local go_sem] Oper.semAt_some

set_option maxHeartbeats 1000000 in
theorem refCheck19_any (s : Int) (w : World) : Calls Tryd.prog 20 #[.int .i64 s] w fun e w' => e = .returned (.int .i64 (errS s)) ∧ w' = w := by
  unfold errS okS
  by_cases h0 : s < 0
  · rw [if_neg (by simp; omega)]
    have t1 : decide (s < 0) = true := decide_eq_true h0
    go_enter Tryd.func20, Tryd.ntmps20
    go_wp2
    go_ret
    exact ⟨rfl, rfl⟩
  · have t1 : decide (s < 0) = false := decide_eq_false h0
    by_cases h1 : s ≤ 7
    · rw [if_pos (by simp; omega)]
      have t2 : decide (7 < s) = false := decide_eq_false (by omega)
      go_enter Tryd.func20, Tryd.ntmps20
      go_wp2
      go_ret
      exact ⟨rfl, rfl⟩
    · rw [if_neg (by simp; omega)]
      have t2 : decide (7 < s) = true := decide_eq_true (by omega)
      go_enter Tryd.func20, Tryd.ntmps20
      go_wp2
      go_ret
      exact ⟨rfl, rfl⟩

set_option maxHeartbeats 1000000 in
theorem refBoth_any (s t : Int) (w : World) : Calls Tryd.prog 48 #[.int .i64 s, .int .i64 t] w fun e w' => e = .returned (.int .i64 (errB s t)) ∧ w' = w := by
  have C1 := fun W => refCheck19_any s W
  have C2 := fun W => refCheck19_any t W
  unfold errB
  cases h : okS s with
  | true =>
    rw [errS_ok h] at C1
    have K1 := Lib.hid C1; have K2 := Lib.hid C2; clear C1 C2 h
    go_enter Tryd.func48, Tryd.ntmps48
    go_wp2_with (first | (go_at_call 20; refine (K1.out _).mono ?_; clear K1; rintro e w1 ⟨rfl, rfl⟩) | (go_at_call 20; refine (K2.out _).mono ?_; rintro e w1 ⟨rfl, rfl⟩))
    go_ret
    exact ⟨rfl, rfl⟩
  | false =>
    have e1 : errS s = 2 := by unfold errS; rw [h]; rfl
    rw [e1] at C1
    have K1 := Lib.hid C1; clear C1 C2 h e1
    go_enter Tryd.func48, Tryd.ntmps48
    go_wp2_with (go_at_call 20; refine (K1.out _).mono ?_; rintro e w1 ⟨rfl, rfl⟩)
    go_ret
    exact ⟨rfl, rfl⟩

/-- The result for two sets, or for what are no sets. -/
def okB (s t : Int) : Bool := okS s && okS t
theorem errB_of {s t : Int} (h : okB s t = true) : errB s t = 0 := by
  unfold okB at h; rw [Bool.and_eq_true] at h; exact errB_ok h.1 h.2
theorem errB_no {s t : Int} (h : okB s t = false) : errB s t = 2 := by
  rcases errB_cases s t with ⟨h1, h2, -⟩ | ⟨-, e⟩
  · unfold okB at h; rw [h1, h2] at h; cases h
  · exact e
theorem okB_nat {s t : Int} (h : okB s t = true) : ∃ m n : Nat, s = (m : Int) ∧ t = (n : Int) ∧ m < 8 ∧ n < 8 := by
  unfold okB at h; rw [Bool.and_eq_true] at h
  obtain ⟨m, e1, l1⟩ := okS_nat h.1; obtain ⟨n, e2, l2⟩ := okS_nat h.2
  exact ⟨m, n, e1, e2, l1, l2⟩
def opR (k : Nat) (s t : Int) : Int := if okB s t then (cmb k s.toNat t.toNat : Nat) else 0
def leqR (s t : Int) : Bool := okB s t && (s.toNat &&& t.toNat == s.toNat)
def joinR (s t : Int) : Int := if okB s t then (s.toNat ||| t.toNat : Nat) else 0
def meetR (s t : Int) : Int := if okB s t then (s.toNat &&& t.toNat : Nat) else 0
def nameR (s : Int) : ByteArray := if okS s then nameS s.toNat else ⟨#[]⟩
theorem leq_alt : ∀ s t : Fin 8, (((s.val - (s.val &&& t.val) : Nat) : Int) == 0) = (s.val &&& t.val == s.val) := by decide
theorem leq_alt2 : ∀ s t : Fin 8, (((s.val &&& t.val : Nat) : Int) == (s.val : Int)) = (s.val &&& t.val == s.val) := by decide

theorem combine_all (k : Nat) (s t : Int) (hk : k < 5) (w : World) (hT : SgTab w) :
    Calls Tryd.prog 55 #[.int .i64 (k : Int), .int .i64 s, .int .i64 t] w fun e w' => e = .returned (.tuple #[.int .i64 (opR k s t), .int .i64 (errB s t)]) ∧ Below w.heap.size w w' := by
  cases h : okB s t with
  | true =>
    obtain ⟨m, n, rfl, rfl, hm, hn⟩ := okB_nat h
    rw [errB_of h, show opR k (m : Int) (n : Int) = (cmb k m n : Nat) by unfold opR; rw [if_pos h]; rfl]
    exact combine_any k m n hk hm hn w hT
  | false =>
    have e := errB_no h
    rw [e, show opR k s t = 0 by unfold opR; rw [h]; rfl]
    exact combine_bad k s t w (by rw [e]; decide)
set_option maxHeartbeats 1000000 in
theorem sgAdd_any (s t : Int) (w : World) (hT : SgTab w) : Calls Tryd.prog 38 #[.int .i64 s, .int .i64 t] w fun e w' => e = .returned (.tuple #[.int .i64 (opR 0 s t), .int .i64 (errB s t)]) ∧ Below w.heap.size w w' := by
  have C1 := fun W (h : Below w.heap.size w W) => combine_all 0 s t (by decide) W (hT.on h)
  have K1 := Lib.hid C1; clear C1 hT
  go_enter Tryd.func38, Tryd.ntmps38
  go_wp2_with (go_at_call 55; refine (K1.out _ (by go_grown)).mono ?_; rintro e w1 ⟨rfl, hb⟩)
  refine bodyPost_ret (by first | (simp [results, Tryd.results38, go_sem]; done) | (simp [results, Tryd.results38, go_sem]; rfl)) rfl ?_
  exact ⟨rfl, by go_grown⟩
set_option maxHeartbeats 1000000 in
theorem sgSub_any (s t : Int) (w : World) (hT : SgTab w) : Calls Tryd.prog 46 #[.int .i64 s, .int .i64 t] w fun e w' => e = .returned (.tuple #[.int .i64 (opR 1 s t), .int .i64 (errB s t)]) ∧ Below w.heap.size w w' := by
  have C1 := fun W (h : Below w.heap.size w W) => combine_all 1 s t (by decide) W (hT.on h)
  have K1 := Lib.hid C1; clear C1 hT
  go_enter Tryd.func46, Tryd.ntmps46
  go_wp2_with (go_at_call 55; refine (K1.out _ (by go_grown)).mono ?_; rintro e w1 ⟨rfl, hb⟩)
  refine bodyPost_ret (by first | (simp [results, Tryd.results46, go_sem]; done) | (simp [results, Tryd.results46, go_sem]; rfl)) rfl ?_
  exact ⟨rfl, by go_grown⟩
set_option maxHeartbeats 1000000 in
theorem sgMul_any (s t : Int) (w : World) (hT : SgTab w) : Calls Tryd.prog 49 #[.int .i64 s, .int .i64 t] w fun e w' => e = .returned (.tuple #[.int .i64 (opR 2 s t), .int .i64 (errB s t)]) ∧ Below w.heap.size w w' := by
  have C1 := fun W (h : Below w.heap.size w W) => combine_all 2 s t (by decide) W (hT.on h)
  have K1 := Lib.hid C1; clear C1 hT
  go_enter Tryd.func49, Tryd.ntmps49
  go_wp2_with (go_at_call 55; refine (K1.out _ (by go_grown)).mono ?_; rintro e w1 ⟨rfl, hb⟩)
  refine bodyPost_ret (by first | (simp [results, Tryd.results49, go_sem]; done) | (simp [results, Tryd.results49, go_sem]; rfl)) rfl ?_
  exact ⟨rfl, by go_grown⟩
set_option maxHeartbeats 1000000 in
theorem sgQuo_any (s t : Int) (w : World) (hT : SgTab w) : Calls Tryd.prog 39 #[.int .i64 s, .int .i64 t] w fun e w' => e = .returned (.tuple #[.int .i64 (opR 3 s t), .int .i64 (errB s t)]) ∧ Below w.heap.size w w' := by
  have C1 := fun W (h : Below w.heap.size w W) => combine_all 3 s t (by decide) W (hT.on h)
  have K1 := Lib.hid C1; clear C1 hT
  go_enter Tryd.func39, Tryd.ntmps39
  go_wp2_with (go_at_call 55; refine (K1.out _ (by go_grown)).mono ?_; rintro e w1 ⟨rfl, hb⟩)
  refine bodyPost_ret (by first | (simp [results, Tryd.results39, go_sem]; done) | (simp [results, Tryd.results39, go_sem]; rfl)) rfl ?_
  exact ⟨rfl, by go_grown⟩
set_option maxHeartbeats 1000000 in
theorem sgRem_any (s t : Int) (w : World) (hT : SgTab w) : Calls Tryd.prog 40 #[.int .i64 s, .int .i64 t] w fun e w' => e = .returned (.tuple #[.int .i64 (opR 4 s t), .int .i64 (errB s t)]) ∧ Below w.heap.size w w' := by
  have C1 := fun W (h : Below w.heap.size w W) => combine_all 4 s t (by decide) W (hT.on h)
  have K1 := Lib.hid C1; clear C1 hT
  go_enter Tryd.func40, Tryd.ntmps40
  go_wp2_with (go_at_call 55; refine (K1.out _ (by go_grown)).mono ?_; rintro e w1 ⟨rfl, hb⟩)
  refine bodyPost_ret (by first | (simp [results, Tryd.results40, go_sem]; done) | (simp [results, Tryd.results40, go_sem]; rfl)) rfl ?_
  exact ⟨rfl, by go_grown⟩
set_option maxHeartbeats 1000000 in
theorem sgLeq_any (s t : Int) (w : World) : Calls Tryd.prog 21 #[.int .i64 s, .int .i64 t] w fun e w' => e = .returned (.tuple #[.bool (leqR s t), .int .i64 (errB s t)]) ∧ w' = w := by
  have C1 := fun W => sgBoth_any s t W
  cases h : okB s t with
  | true =>
    obtain ⟨m, n, rfl, rfl, hm, hn⟩ := okB_nat h
    rw [errB_of h] at C1 ⊢
    have hb := bAndNot hm hn
    have hv := leq_alt ⟨m, hm⟩ ⟨n, hn⟩
    rw [show leqR (m : Int) (n : Int) = (m &&& n == m) by unfold leqR; rw [h]; rfl]
    dsimp only at hv
    have K1 := Lib.hid C1; clear C1 h
    generalize (m &&& n == m) = r at *; generalize (m - (m &&& n)) = q at *
    go_enter Tryd.func21, Tryd.ntmps21
    go_wp2_with (go_at_call 47; refine (K1.out _).mono ?_; rintro e w1 ⟨rfl, rfl⟩)
    refine bodyPost_ret (by first | (simp [results, Tryd.results21, go_sem]; done) | (simp [results, Tryd.results21, go_sem]; rfl) | (simp [results, Tryd.results21, go_sem]; assumption)) rfl ?_
    exact ⟨by rw [← hv], rfl⟩
  | false =>
    rw [errB_no h] at C1 ⊢
    rw [show leqR s t = false by unfold leqR; rw [h]; rfl]
    have K1 := Lib.hid C1; clear C1 h
    go_enter Tryd.func21, Tryd.ntmps21
    go_wp2_with (go_at_call 47; refine (K1.out _).mono ?_; rintro e w1 ⟨rfl, rfl⟩)
    refine bodyPost_ret (by first | (simp [results, Tryd.results21, go_sem]; done) | (simp [results, Tryd.results21, go_sem]; rfl)) rfl ?_
    exact ⟨rfl, rfl⟩
set_option maxHeartbeats 1000000 in
theorem refLeq19_any (s t : Int) (w : World) : Calls Tryd.prog 22 #[.int .i64 s, .int .i64 t] w fun e w' => e = .returned (.tuple #[.bool (leqR s t), .int .i64 (errB s t)]) ∧ w' = w := by
  have C1 := fun W => refBoth_any s t W
  cases h : okB s t with
  | true =>
    obtain ⟨m, n, rfl, rfl, hm, hn⟩ := okB_nat h
    rw [errB_of h] at C1 ⊢
    have hb := bAnd hm hn
    have hv := leq_alt2 ⟨m, hm⟩ ⟨n, hn⟩
    rw [show leqR (m : Int) (n : Int) = (m &&& n == m) by unfold leqR; rw [h]; rfl]
    dsimp only at hv
    have K1 := Lib.hid C1; clear C1 h
    generalize (m &&& n == m) = r at *; generalize (m &&& n) = q at *
    go_enter Tryd.func22, Tryd.ntmps22
    go_wp2_with (go_at_call 48; refine (K1.out _).mono ?_; rintro e w1 ⟨rfl, rfl⟩)
    refine bodyPost_ret (by first | (simp [results, Tryd.results22, go_sem]; done) | (simp [results, Tryd.results22, go_sem]; rfl) | (simp [results, Tryd.results22, go_sem]; assumption)) rfl ?_
    exact ⟨by rw [← hv], rfl⟩
  | false =>
    rw [errB_no h] at C1 ⊢
    rw [show leqR s t = false by unfold leqR; rw [h]; rfl]
    have K1 := Lib.hid C1; clear C1 h
    go_enter Tryd.func22, Tryd.ntmps22
    go_wp2_with (go_at_call 48; refine (K1.out _).mono ?_; rintro e w1 ⟨rfl, rfl⟩)
    refine bodyPost_ret (by first | (simp [results, Tryd.results22, go_sem]; done) | (simp [results, Tryd.results22, go_sem]; rfl)) rfl ?_
    exact ⟨rfl, rfl⟩
set_option maxHeartbeats 1000000 in
theorem sgJoin_any (s t : Int) (w : World) : Calls Tryd.prog 23 #[.int .i64 s, .int .i64 t] w fun e w' => e = .returned (.tuple #[.int .i64 (joinR s t), .int .i64 (errB s t)]) ∧ w' = w := by
  have C1 := fun W => sgBoth_any s t W
  cases h : okB s t with
  | true =>
    obtain ⟨m, n, rfl, rfl, hm, hn⟩ := okB_nat h
    rw [errB_of h] at C1 ⊢
    have hb := bOr hm hn
    rw [show joinR (m : Int) (n : Int) = (m ||| n : Nat) by unfold joinR; rw [if_pos h]; rfl]
    have K1 := Lib.hid C1; clear C1 h
    generalize (m ||| n) = q at *
    go_enter Tryd.func23, Tryd.ntmps23
    go_wp2_with (go_at_call 47; refine (K1.out _).mono ?_; rintro e w1 ⟨rfl, rfl⟩)
    refine bodyPost_ret (by first | (simp [results, Tryd.results23, go_sem]; done) | (simp [results, Tryd.results23, go_sem]; rfl) | (simp [results, Tryd.results23, go_sem]; assumption)) rfl ?_
    exact ⟨rfl, rfl⟩
  | false =>
    rw [errB_no h] at C1 ⊢
    rw [show joinR s t = 0 by unfold joinR; rw [h]; rfl]
    have K1 := Lib.hid C1; clear C1 h
    go_enter Tryd.func23, Tryd.ntmps23
    go_wp2_with (go_at_call 47; refine (K1.out _).mono ?_; rintro e w1 ⟨rfl, rfl⟩)
    refine bodyPost_ret (by first | (simp [results, Tryd.results23, go_sem]; done) | (simp [results, Tryd.results23, go_sem]; rfl)) rfl ?_
    exact ⟨rfl, rfl⟩
set_option maxHeartbeats 1000000 in
theorem refJoin19_any (s t : Int) (w : World) : Calls Tryd.prog 24 #[.int .i64 s, .int .i64 t] w fun e w' => e = .returned (.tuple #[.int .i64 (joinR s t), .int .i64 (errB s t)]) ∧ w' = w := by
  have C1 := fun W => refBoth_any s t W
  cases h : okB s t with
  | true =>
    obtain ⟨m, n, rfl, rfl, hm, hn⟩ := okB_nat h
    rw [errB_of h] at C1 ⊢
    have hb := bOr hm hn
    rw [show joinR (m : Int) (n : Int) = (m ||| n : Nat) by unfold joinR; rw [if_pos h]; rfl]
    have K1 := Lib.hid C1; clear C1 h
    generalize (m ||| n) = q at *
    go_enter Tryd.func24, Tryd.ntmps24
    go_wp2_with (go_at_call 48; refine (K1.out _).mono ?_; rintro e w1 ⟨rfl, rfl⟩)
    refine bodyPost_ret (by first | (simp [results, Tryd.results24, go_sem]; done) | (simp [results, Tryd.results24, go_sem]; rfl) | (simp [results, Tryd.results24, go_sem]; assumption)) rfl ?_
    exact ⟨rfl, rfl⟩
  | false =>
    rw [errB_no h] at C1 ⊢
    rw [show joinR s t = 0 by unfold joinR; rw [h]; rfl]
    have K1 := Lib.hid C1; clear C1 h
    go_enter Tryd.func24, Tryd.ntmps24
    go_wp2_with (go_at_call 48; refine (K1.out _).mono ?_; rintro e w1 ⟨rfl, rfl⟩)
    refine bodyPost_ret (by first | (simp [results, Tryd.results24, go_sem]; done) | (simp [results, Tryd.results24, go_sem]; rfl)) rfl ?_
    exact ⟨rfl, rfl⟩
set_option maxHeartbeats 1000000 in
theorem sgMeet_any (s t : Int) (w : World) : Calls Tryd.prog 25 #[.int .i64 s, .int .i64 t] w fun e w' => e = .returned (.tuple #[.int .i64 (meetR s t), .int .i64 (errB s t)]) ∧ w' = w := by
  have C1 := fun W => sgBoth_any s t W
  cases h : okB s t with
  | true =>
    obtain ⟨m, n, rfl, rfl, hm, hn⟩ := okB_nat h
    rw [errB_of h] at C1 ⊢
    have hb := bAnd hm hn
    rw [show meetR (m : Int) (n : Int) = (m &&& n : Nat) by unfold meetR; rw [if_pos h]; rfl]
    have K1 := Lib.hid C1; clear C1 h
    generalize (m &&& n) = q at *
    go_enter Tryd.func25, Tryd.ntmps25
    go_wp2_with (go_at_call 47; refine (K1.out _).mono ?_; rintro e w1 ⟨rfl, rfl⟩)
    refine bodyPost_ret (by first | (simp [results, Tryd.results25, go_sem]; done) | (simp [results, Tryd.results25, go_sem]; rfl) | (simp [results, Tryd.results25, go_sem]; assumption)) rfl ?_
    exact ⟨rfl, rfl⟩
  | false =>
    rw [errB_no h] at C1 ⊢
    rw [show meetR s t = 0 by unfold meetR; rw [h]; rfl]
    have K1 := Lib.hid C1; clear C1 h
    go_enter Tryd.func25, Tryd.ntmps25
    go_wp2_with (go_at_call 47; refine (K1.out _).mono ?_; rintro e w1 ⟨rfl, rfl⟩)
    refine bodyPost_ret (by first | (simp [results, Tryd.results25, go_sem]; done) | (simp [results, Tryd.results25, go_sem]; rfl)) rfl ?_
    exact ⟨rfl, rfl⟩
set_option maxHeartbeats 1000000 in
theorem refMeet19_any (s t : Int) (w : World) : Calls Tryd.prog 26 #[.int .i64 s, .int .i64 t] w fun e w' => e = .returned (.tuple #[.int .i64 (meetR s t), .int .i64 (errB s t)]) ∧ w' = w := by
  have C1 := fun W => refBoth_any s t W
  cases h : okB s t with
  | true =>
    obtain ⟨m, n, rfl, rfl, hm, hn⟩ := okB_nat h
    rw [errB_of h] at C1 ⊢
    have hb := bAnd hm hn
    rw [show meetR (m : Int) (n : Int) = (m &&& n : Nat) by unfold meetR; rw [if_pos h]; rfl]
    have K1 := Lib.hid C1; clear C1 h
    generalize (m &&& n) = q at *
    go_enter Tryd.func26, Tryd.ntmps26
    go_wp2_with (go_at_call 48; refine (K1.out _).mono ?_; rintro e w1 ⟨rfl, rfl⟩)
    refine bodyPost_ret (by first | (simp [results, Tryd.results26, go_sem]; done) | (simp [results, Tryd.results26, go_sem]; rfl) | (simp [results, Tryd.results26, go_sem]; assumption)) rfl ?_
    exact ⟨rfl, rfl⟩
  | false =>
    rw [errB_no h] at C1 ⊢
    rw [show meetR s t = 0 by unfold meetR; rw [h]; rfl]
    have K1 := Lib.hid C1; clear C1 h
    go_enter Tryd.func26, Tryd.ntmps26
    go_wp2_with (go_at_call 48; refine (K1.out _).mono ?_; rintro e w1 ⟨rfl, rfl⟩)
    refine bodyPost_ret (by first | (simp [results, Tryd.results26, go_sem]; done) | (simp [results, Tryd.results26, go_sem]; rfl)) rfl ?_
    exact ⟨rfl, rfl⟩
end Go.Proofs.YtmnbjkbkjmgmkaaDoor
