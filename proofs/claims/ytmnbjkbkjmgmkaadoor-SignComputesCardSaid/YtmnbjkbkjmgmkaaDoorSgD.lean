/-
  sign: the reference's Sign, has, value.
-/
import Derived.Test.YtmnbjkbkjmgmkaaDoorSgM
import Derived.Test.YtmnbjkbkjmgmkaaDoorBase
import Derived.Test.YtmnbjkbkjmgmkaaDoorSgA
set_option linter.unusedSimpArgs false
set_option linter.unusedVariables false
namespace Go.Proofs.YtmnbjkbkjmgmkaaDoor
open Go Go.Proofs Go.RowKit Go.Shelf

attribute [local go_sem] Oper.semAt_some

set_option maxHeartbeats 1000000 in
theorem refSgn_any (n : Int) (w : World) : Calls Tryd.prog 43 #[.int .i64 n] w fun e w' => e = .returned (.int .i64 (sgnS n : Nat)) ∧ w' = w := by
  unfold sgnS
  by_cases h0 : n < 0
  · rw [if_pos h0]
    have t1 : decide (n < 0) = true := decide_eq_true h0
    go_enter Tryd.func43, Tryd.ntmps43
    go_wp2
    go_ret
    exact ⟨rfl, rfl⟩
  · rw [if_neg h0]
    have t1 : decide (n < 0) = false := decide_eq_false h0
    by_cases h1 : n = 0
    · subst h1
      rw [if_pos rfl]
      go_enter Tryd.func43, Tryd.ntmps43
      go_wp2
      go_ret
      exact ⟨rfl, rfl⟩
    · rw [if_neg h1]
      have t2 : (n == 0) = false := by rw [beq_eq_false_iff_ne]; exact h1
      go_enter Tryd.func43, Tryd.ntmps43
      go_wp2
      go_ret
      exact ⟨rfl, rfl⟩
set_option maxHeartbeats 1000000 in
theorem refHas_any (s : Nat) (hs : s < 8) (n : Int) (w : World) : Calls Tryd.prog 45 #[.int .i64 (s : Int), .int .i64 n] w fun e w' => e = .returned (.bool (hasS s n)) ∧ w' = w := by
  have C1 := fun W => refSgn_any n W
  have hb := bAnd hs (sgnS_lt n)
  have hl : hasS s n = (((s &&& sgnS n : Nat) : Int) != 0) := by
    unfold hasS
    cases h : (s &&& sgnS n) with
    | zero => rfl
    | succ k => rw [show ((k + 1 : Nat) != 0) = true from by rw [bne_iff_ne]; omega, eq_comm, bne_iff_ne]; omega
  rw [hl]
  generalize sgnS n = g at *
  clear hl
  have K1 := Lib.hid C1; clear C1
  generalize s &&& g = m at *
  go_enter Tryd.func45, Tryd.ntmps45
  go_wp2_with (go_at_call 43; refine (K1.out _).mono ?_; rintro e w1 ⟨rfl, rfl⟩)
  refine bodyPost_ret (by first | (simp [results, Tryd.results45, go_sem]; done) | (simp [results, Tryd.results45, go_sem]; rfl)) rfl ?_
  exact ⟨rfl, rfl⟩
theorem seven_of {a : Int} (h0 : -3 ≤ a) (h1 : a ≤ 3) : a = -3 ∨ a = -2 ∨ a = -1 ∨ a = 0 ∨ a = 1 ∨ a = 2 ∨ a = 3 := by omega
set_option maxHeartbeats 4000000 in
theorem floor_any (a b : Int) (w : World) (a0 : -3 ≤ a) (a1 : a ≤ 3) (b0 : -3 ≤ b) (b1 : b ≤ 3) (hb : b ≠ 0) : Calls Tryd.prog 65 #[.int .i64 a, .int .i64 b] w fun e w' => e = .returned (.int .i64 (a.fdiv b)) ∧ w' = w := by
  rcases seven_of a0 a1 with rfl | rfl | rfl | rfl | rfl | rfl | rfl
  all_goals (rcases seven_of b0 b1 with rfl | rfl | rfl | rfl | rfl | rfl | rfl)
  all_goals first | exact absurd rfl hb | skip
  all_goals (clear a0 a1 b0 b1 hb; go_enter Tryd.func65, Tryd.ntmps65; go_wp2; go_ret; exact ⟨rfl, rfl⟩)
def valV (op : Nat) (a b : Int) : Value := match valS op a b with | none => .tuple #[.int .i64 0, .bool false] | some n => .tuple #[.int .i64 n, .bool true]
set_option maxHeartbeats 40000000 in
theorem value_any (op : Nat) (a b : Int) (w : World) (ho : op < 5) (a0 : -3 ≤ a) (a1 : a ≤ 3) (b0 : -3 ≤ b) (b1 : b ≤ 3) : Calls Tryd.prog 59 #[.int .i64 (op : Int), .int .i64 a, .int .i64 b] w fun e w' => e = .returned (valV op a b) ∧ w' = w := by
  rcases (show op = 0 ∨ op = 1 ∨ op = 2 ∨ op = 3 ∨ op = 4 by omega) with rfl | rfl | rfl | rfl | rfl
  all_goals (rcases seven_of a0 a1 with rfl | rfl | rfl | rfl | rfl | rfl | rfl)
  all_goals (rcases seven_of b0 b1 with rfl | rfl | rfl | rfl | rfl | rfl | rfl)
  all_goals clear a0 a1 b0 b1 ho
  all_goals go_enter Tryd.func59, Tryd.ntmps59
  all_goals go_wp2_with (go_at_call 65; refine (floor_any _ _ _ (by decide) (by decide) (by decide) (by decide) (by decide)).mono ?_; rintro e w1 ⟨rfl, rfl⟩)
  all_goals refine bodyPost_ret (by first | (simp [results, Tryd.results59, go_sem]; done) | (simp [results, Tryd.results59, go_sem]; rfl)) rfl ?_
  all_goals exact ⟨rfl, rfl⟩
end Go.Proofs.YtmnbjkbkjmgmkaaDoor
