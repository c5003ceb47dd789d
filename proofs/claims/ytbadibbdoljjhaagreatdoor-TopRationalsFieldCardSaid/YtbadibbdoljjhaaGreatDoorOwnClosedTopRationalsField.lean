import Derived.Test.YtbadibbdoljjhaaGreatDoorRows
import Derived.JoinedOf
import Derived.KernelRfl

set_option linter.unusedVariables false
/-
  The closed facts of the row of TopRationalsField.
-/
namespace Go.Proofs.YtbadibbdoljjhaaGreatDoor
open Go Go.Proofs

theorem topRationalsField_named : Tryz.pinned.checked.prog.funcNamed Rows.topRationalsFieldRow.func = some 15 := by kernel_rfl
theorem topRationalsField_inst : Tryz.f15.isInstance Tryz.pinned.checked.prog Rows.topRationalsFieldRow.origin Rows.topRationalsFieldRow.targs := of_decide_eq_true (by kernel_rfl)
theorem topRationalsField_wrap : Tryz.f15.isWrapper Tryz.pinned.checked.prog Rows.topRationalsFieldRow.wrapper Rows.topRationalsFieldRow.mainSum := by
  unfold Func.isWrapper
  first | (rw [if_pos (by decide +kernel)]; kernel_rfl) | (rw [if_neg (by decide +kernel)]; exact ⟨rfl, rfl⟩)
set_option maxHeartbeats 400000000 in
theorem topRationalsField_closed : joinedFacts Tryz.pinned.checked.prog 15 Tryz.f15 Rows.topRationalsFieldSpec Rows.topRationalsFieldRow = true := by
  unfold joinedFacts
  repeat' (with_reducible refine (Bool.and_eq_true _ _).mpr ⟨?_, ?_⟩)
  all_goals (as_aux_lemma => kernel_rfl)
end Go.Proofs.YtbadibbdoljjhaaGreatDoor
