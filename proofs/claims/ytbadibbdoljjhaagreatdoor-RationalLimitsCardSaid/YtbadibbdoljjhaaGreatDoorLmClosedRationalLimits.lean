import Derived.Test.YtbadibbdoljjhaaGreatDoorRows
import Derived.JoinedOf
import Derived.KernelRfl

set_option linter.unusedVariables false
/-
  The closed facts of the row of RationalLimits.
-/
namespace Go.Proofs.YtbadibbdoljjhaaGreatDoor
open Go Go.Proofs

theorem rationalLimits_named : Tryz.pinned.checked.prog.funcNamed Rows.rationalLimitsRow.func = some 7 := by kernel_rfl
theorem rationalLimits_inst : Tryz.f7.isInstance Tryz.pinned.checked.prog Rows.rationalLimitsRow.origin Rows.rationalLimitsRow.targs := of_decide_eq_true (by kernel_rfl)
theorem rationalLimits_wrap : Tryz.f7.isWrapper Tryz.pinned.checked.prog Rows.rationalLimitsRow.wrapper Rows.rationalLimitsRow.mainSum := by
  unfold Func.isWrapper
  first | (rw [if_pos (by decide +kernel)]; kernel_rfl) | (rw [if_neg (by decide +kernel)]; exact ⟨rfl, rfl⟩)
set_option maxHeartbeats 400000000 in
theorem rationalLimits_closed : joinedFacts Tryz.pinned.checked.prog 7 Tryz.f7 Rows.rationalLimitsSpec Rows.rationalLimitsRow = true := by
  unfold joinedFacts
  repeat' (with_reducible refine (Bool.and_eq_true _ _).mpr ⟨?_, ?_⟩)
  all_goals (as_aux_lemma => kernel_rfl)
end Go.Proofs.YtbadibbdoljjhaaGreatDoor

