import Derived.Test.YtbadibbdoljjhaaGreatDoorRows
import Derived.JoinedOf
import Derived.KernelRfl

set_option linter.unusedVariables false
/-
  The closed facts of the row of TopIntegersOrdered.
-/
namespace Go.Proofs.YtbadibbdoljjhaaGreatDoor
open Go Go.Proofs

theorem topIntegersOrdered_named : Tryz.pinned.checked.prog.funcNamed Rows.topIntegersOrderedRow.func = some 14 := by kernel_rfl
theorem topIntegersOrdered_inst : Tryz.f14.isInstance Tryz.pinned.checked.prog Rows.topIntegersOrderedRow.origin Rows.topIntegersOrderedRow.targs := of_decide_eq_true (by kernel_rfl)
theorem topIntegersOrdered_wrap : Tryz.f14.isWrapper Tryz.pinned.checked.prog Rows.topIntegersOrderedRow.wrapper Rows.topIntegersOrderedRow.mainSum := by
  unfold Func.isWrapper
  first | (rw [if_pos (by decide +kernel)]; kernel_rfl) | (rw [if_neg (by decide +kernel)]; exact ⟨rfl, rfl⟩)
set_option maxHeartbeats 400000000 in
theorem topIntegersOrdered_closed : joinedFacts Tryz.pinned.checked.prog 14 Tryz.f14 Rows.topIntegersOrderedSpec Rows.topIntegersOrderedRow = true := by
  unfold joinedFacts
  repeat' (with_reducible refine (Bool.and_eq_true _ _).mpr ⟨?_, ?_⟩)
  all_goals (as_aux_lemma => kernel_rfl)
end Go.Proofs.YtbadibbdoljjhaaGreatDoor

