import Derived.Test.YtbadibbdoljjhaaGreatDoorRows
import Derived.JoinedOf
import Derived.KernelRfl

set_option linter.unusedVariables false
/-
  The closed facts of the row of RationalField.
-/
namespace Go.Proofs.YtbadibbdoljjhaaGreatDoor
open Go Go.Proofs

theorem rationalField_named : Tryz.pinned.checked.prog.funcNamed Rows.rationalFieldRow.func = some 8 := by kernel_rfl
theorem rationalField_inst : Tryz.f8.isInstance Tryz.pinned.checked.prog Rows.rationalFieldRow.origin Rows.rationalFieldRow.targs := of_decide_eq_true (by kernel_rfl)
theorem rationalField_wrap : Tryz.f8.isWrapper Tryz.pinned.checked.prog Rows.rationalFieldRow.wrapper Rows.rationalFieldRow.mainSum := by
  unfold Func.isWrapper
  first | (rw [if_pos (by decide +kernel)]; kernel_rfl) | (rw [if_neg (by decide +kernel)]; exact ⟨rfl, rfl⟩)
set_option maxHeartbeats 400000000 in
theorem rationalField_closed : joinedFacts Tryz.pinned.checked.prog 8 Tryz.f8 Rows.rationalFieldSpec Rows.rationalFieldRow = true := by
  unfold joinedFacts
  repeat' (with_reducible refine (Bool.and_eq_true _ _).mpr ⟨?_, ?_⟩)
  all_goals (as_aux_lemma => kernel_rfl)
end Go.Proofs.YtbadibbdoljjhaaGreatDoor
