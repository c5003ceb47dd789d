import Derived.Test.YtbadibbdoljjhaaGreatDoorRows
import Derived.JoinedOf
import Derived.KernelRfl

set_option linter.unusedVariables false
/-
  The closed facts of the row of TopIntegersDivide.
-/
namespace Go.Proofs.YtbadibbdoljjhaaGreatDoor
open Go Go.Proofs

theorem topIntegersDivide_named : Tryz.pinned.checked.prog.funcNamed Rows.topIntegersDivideRow.func = some 13 := by kernel_rfl
theorem topIntegersDivide_inst : Tryz.f13.isInstance Tryz.pinned.checked.prog Rows.topIntegersDivideRow.origin Rows.topIntegersDivideRow.targs := of_decide_eq_true (by kernel_rfl)
theorem topIntegersDivide_wrap : Tryz.f13.isWrapper Tryz.pinned.checked.prog Rows.topIntegersDivideRow.wrapper Rows.topIntegersDivideRow.mainSum := by
  unfold Func.isWrapper
  first | (rw [if_pos (by decide +kernel)]; kernel_rfl) | (rw [if_neg (by decide +kernel)]; exact ⟨rfl, rfl⟩)
set_option maxHeartbeats 400000000 in
theorem topIntegersDivide_closed : joinedFacts Tryz.pinned.checked.prog 13 Tryz.f13 Rows.topIntegersDivideSpec Rows.topIntegersDivideRow = true := by
  unfold joinedFacts
  repeat' (with_reducible refine (Bool.and_eq_true _ _).mpr ⟨?_, ?_⟩)
  all_goals (as_aux_lemma => kernel_rfl)
end Go.Proofs.YtbadibbdoljjhaaGreatDoor

