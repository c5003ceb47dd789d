import Derived.Test.YtbadibbdoljjhaaGreatDoorRows
import Derived.JoinedOf
import Derived.KernelRfl

set_option linter.unusedVariables false
/-
  The closed facts of the row of RationalComputes.
-/
namespace Go.Proofs.YtbadibbdoljjhaaGreatDoor
open Go Go.Proofs

theorem rationalComputes_named : Tryz.pinned.checked.prog.funcNamed Rows.rationalComputesRow.func = some 6 := by kernel_rfl
theorem rationalComputes_inst : Tryz.f6.isInstance Tryz.pinned.checked.prog Rows.rationalComputesRow.origin Rows.rationalComputesRow.targs := of_decide_eq_true (by kernel_rfl)
theorem rationalComputes_wrap : Tryz.f6.isWrapper Tryz.pinned.checked.prog Rows.rationalComputesRow.wrapper Rows.rationalComputesRow.mainSum := by
  unfold Func.isWrapper
  first | (rw [if_pos (by decide +kernel)]; kernel_rfl) | (rw [if_neg (by decide +kernel)]; exact ⟨rfl, rfl⟩)
set_option maxHeartbeats 400000000 in
theorem rationalComputes_closed : joinedFacts Tryz.pinned.checked.prog 6 Tryz.f6 Rows.rationalComputesSpec Rows.rationalComputesRow = true := by
  unfold joinedFacts
  repeat' (with_reducible refine (Bool.and_eq_true _ _).mpr ⟨?_, ?_⟩)
  all_goals (as_aux_lemma => kernel_rfl)
end Go.Proofs.YtbadibbdoljjhaaGreatDoor
