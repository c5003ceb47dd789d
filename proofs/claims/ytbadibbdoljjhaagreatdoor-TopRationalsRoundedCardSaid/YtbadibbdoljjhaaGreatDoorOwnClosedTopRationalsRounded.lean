import Derived.Test.YtbadibbdoljjhaaGreatDoorRows
import Derived.JoinedOf
import Derived.KernelRfl

set_option linter.unusedVariables false
/-
  The closed facts of the row of TopRationalsRounded.
-/
namespace Go.Proofs.YtbadibbdoljjhaaGreatDoor
open Go Go.Proofs

theorem topRationalsRounded_named : Tryz.pinned.checked.prog.funcNamed Rows.topRationalsRoundedRow.func = some 16 := by kernel_rfl
theorem topRationalsRounded_inst : Tryz.f16.isInstance Tryz.pinned.checked.prog Rows.topRationalsRoundedRow.origin Rows.topRationalsRoundedRow.targs := of_decide_eq_true (by kernel_rfl)
theorem topRationalsRounded_wrap : Tryz.f16.isWrapper Tryz.pinned.checked.prog Rows.topRationalsRoundedRow.wrapper Rows.topRationalsRoundedRow.mainSum := by
  unfold Func.isWrapper
  first | (rw [if_pos (by decide +kernel)]; kernel_rfl) | (rw [if_neg (by decide +kernel)]; exact ⟨rfl, rfl⟩)
set_option maxHeartbeats 400000000 in
theorem topRationalsRounded_closed : joinedFacts Tryz.pinned.checked.prog 16 Tryz.f16 Rows.topRationalsRoundedSpec Rows.topRationalsRoundedRow = true := by
  unfold joinedFacts
  repeat' (with_reducible refine (Bool.and_eq_true _ _).mpr ⟨?_, ?_⟩)
  all_goals (as_aux_lemma => kernel_rfl)
end Go.Proofs.YtbadibbdoljjhaaGreatDoor
