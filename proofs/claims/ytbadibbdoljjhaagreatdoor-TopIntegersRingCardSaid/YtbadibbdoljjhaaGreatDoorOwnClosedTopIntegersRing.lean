import Derived.Test.YtbadibbdoljjhaaGreatDoorRows
import Derived.JoinedOf
import Derived.KernelRfl

set_option linter.unusedVariables false
/-
  The closed facts of the row of TopIntegersRing.
-/
namespace Go.Proofs.YtbadibbdoljjhaaGreatDoor
open Go Go.Proofs

theorem topIntegersRing_named : Tryz.pinned.checked.prog.funcNamed Rows.topIntegersRingRow.func = some 12 := by kernel_rfl
theorem topIntegersRing_inst : Tryz.f12.isInstance Tryz.pinned.checked.prog Rows.topIntegersRingRow.origin Rows.topIntegersRingRow.targs := of_decide_eq_true (by kernel_rfl)
theorem topIntegersRing_wrap : Tryz.f12.isWrapper Tryz.pinned.checked.prog Rows.topIntegersRingRow.wrapper Rows.topIntegersRingRow.mainSum := by
  unfold Func.isWrapper
  first | (rw [if_pos (by decide +kernel)]; kernel_rfl) | (rw [if_neg (by decide +kernel)]; exact ⟨rfl, rfl⟩)
set_option maxHeartbeats 400000000 in
theorem topIntegersRing_closed : joinedFacts Tryz.pinned.checked.prog 12 Tryz.f12 Rows.topIntegersRingSpec Rows.topIntegersRingRow = true := by
  unfold joinedFacts
  repeat' (with_reducible refine (Bool.and_eq_true _ _).mpr ⟨?_, ?_⟩)
  all_goals (as_aux_lemma => kernel_rfl)
end Go.Proofs.YtbadibbdoljjhaaGreatDoor
