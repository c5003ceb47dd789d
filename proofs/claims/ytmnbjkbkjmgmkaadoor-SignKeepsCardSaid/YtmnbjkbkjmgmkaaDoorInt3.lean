/-
  bigint: Check, order.
-/
import Derived.Test.YtmnbjkbkjmgmkaaDoorInt2
import Derived.Test.YtmnbjkbkjmgmkaaDoorBase
set_option linter.unusedSimpArgs false
set_option linter.unusedVariables false
namespace Go.Proofs.YtmnbjkbkjmgmkaaDoor
open Go Go.Proofs Go.RowKit

set_option maxHeartbeats 1000000 in
theorem check_any (s : ByteArray) (w : World) (hs : s.size ≤ 9223372036854775807) :
    Calls Tryd.prog 61 #[.string s] w fun e w' => e = .returned (.int .i64 (errOf (bytes s) : Nat)) ∧ w' = w := by
  have C1 := fun W => isCanonical_any s W hs
  have C2 := fun W => isLong_any s W hs
  have he : errOf (bytes s) = if canonB (bytes s) = true then (if decide (4096 < (digL (bytes s)).length) = true then 10 else 0) else 3 := by
    unfold errOf; simp
  generalize errOf (bytes s) = e0 at *
  generalize canonB (bytes s) = c at *
  generalize decide (4096 < (digL (bytes s)).length) = d at *
  cases c
  · have : e0 = 3 := he
    subst this
    clear he C2
    go_enter Tryd.func61, Tryd.ntmps61
    go_wp2_with (go_at_call 66; refine (C1 _).mono ?_; rintro e w1 ⟨rfl, rfl⟩)
    go_ret
    exact ⟨rfl, rfl⟩
  · cases d
    · have : e0 = 0 := he
      subst this
      clear he
      go_enter Tryd.func61, Tryd.ntmps61
      go_wp2_with (first | (go_at_call 66; refine (C1 _).mono ?_; rintro e w1 ⟨rfl, rfl⟩) | (go_at_call 67; refine (C2 _).mono ?_; rintro e w1 ⟨rfl, rfl⟩))
      go_ret
      exact ⟨rfl, rfl⟩
    · have : e0 = 10 := he
      subst this
      clear he
      go_enter Tryd.func61, Tryd.ntmps61
      go_wp2_with (first | (go_at_call 66; refine (C1 _).mono ?_; rintro e w1 ⟨rfl, rfl⟩) | (go_at_call 67; refine (C2 _).mono ?_; rintro e w1 ⟨rfl, rfl⟩))
      go_ret
      exact ⟨rfl, rfl⟩

/-- The error of two integers: that of the first one, then that of the second one. -/
def errBoth (a b : List UInt8) : Nat := if errOf a = 0 then errOf b else errOf a

theorem errOf_cases (l : List UInt8) : errOf l = 0 ∨ errOf l = 3 ∨ errOf l = 10 := by
  unfold errOf; split
  · split <;> simp
  · simp

set_option maxHeartbeats 1000000 in
theorem checkBoth_any (s t : ByteArray) (w : World) (hs : s.size ≤ 9223372036854775807) (ht : t.size ≤ 9223372036854775807) :
    Calls Tryd.prog 53 #[.string s, .string t] w fun e w' => e = .returned (.int .i64 (errBoth (bytes s) (bytes t) : Nat)) ∧ w' = w := by
  have C1 := fun W => check_any s W hs
  have C2 := fun W => check_any t W ht
  have he : errBoth (bytes s) (bytes t) = if errOf (bytes s) = 0 then errOf (bytes t) else errOf (bytes s) := rfl
  have hc := errOf_cases (bytes s)
  generalize errBoth (bytes s) (bytes t) = e0 at *
  generalize errOf (bytes s) = c at *
  generalize errOf (bytes t) = d at *
  by_cases h0 : c = 0
  · subst h0
    rw [if_pos rfl] at he
    subst he
    clear hc
    go_enter Tryd.func53, Tryd.ntmps53
    go_wp2_with (go_at_call 61; refine (C1 _).mono ?_; rintro e w1 ⟨rfl, rfl⟩; refine Hid.out ?_)
    refine Lib.hid ?_
    go_wp2_with (go_at_call 61; refine (C2 _).mono ?_; rintro e w2 ⟨rfl, rfl⟩)
    go_ret
    exact ⟨rfl, rfl⟩
  · rw [if_neg h0] at he
    subst he
    have hc' : e0 = 3 ∨ e0 = 10 := by omega
    clear hc h0
    rcases hc' with rfl | rfl
    all_goals
      go_enter Tryd.func53, Tryd.ntmps53
      go_wp2_with (go_at_call 61; refine (C1 _).mono ?_; rintro e w1 ⟨rfl, rfl⟩)
      go_ret
      exact ⟨rfl, rfl⟩
end Go.Proofs.YtmnbjkbkjmgmkaaDoor
