import Derived.Test.YtbadibbdoljjhaaGreatDoorRows
import Derived.JoinedOf
import Derived.KernelRfl

set_option linter.unusedVariables false
/-
  The closed facts of the row of RationalMakes.
-/
namespace Go.Proofs.YtbadibbdoljjhaaGreatDoor
open Go Go.Proofs

theorem rationalMakes_named : Tryz.pinned.checked.prog.funcNamed Rows.rationalMakesRow.func = some 5 := by kernel_rfl
theorem rationalMakes_inst : Tryz.f5.isInstance Tryz.pinned.checked.prog Rows.rationalMakesRow.origin Rows.rationalMakesRow.targs := of_decide_eq_true (by kernel_rfl)
theorem rationalMakes_wrap : Tryz.f5.isWrapper Tryz.pinned.checked.prog Rows.rationalMakesRow.wrapper Rows.rationalMakesRow.mainSum := by
  unfold Func.isWrapper
  first | (rw [if_pos (by decide +kernel)]; kernel_rfl) | (rw [if_neg (by decide +kernel)]; exact ⟨rfl, rfl⟩)
set_option maxHeartbeats 400000000 in
theorem rationalMakes_closed : joinedFacts Tryz.pinned.checked.prog 5 Tryz.f5 Rows.rationalMakesSpec Rows.rationalMakesRow = true := by
  unfold joinedFacts
  repeat' (with_reducible refine (Bool.and_eq_true _ _).mpr ⟨?_, ?_⟩)
  all_goals (as_aux_lemma => kernel_rfl)
end Go.Proofs.YtbadibbdoljjhaaGreatDoor
