import Derived.Test.YtbadibbdoljjhaaGreatDoorRows
import Derived.JoinedOf
import Derived.KernelRfl

set_option linter.unusedVariables false
/-
  The closed facts of the row of RationalReturns.
-/
namespace Go.Proofs.YtbadibbdoljjhaaGreatDoor
open Go Go.Proofs

theorem rationalReturns_named : Tryz.pinned.checked.prog.funcNamed Rows.rationalReturnsRow.func = some 11 := by kernel_rfl
theorem rationalReturns_inst : Tryz.f11.isInstance Tryz.pinned.checked.prog Rows.rationalReturnsRow.origin Rows.rationalReturnsRow.targs := of_decide_eq_true (by kernel_rfl)
theorem rationalReturns_wrap : Tryz.f11.isWrapper Tryz.pinned.checked.prog Rows.rationalReturnsRow.wrapper Rows.rationalReturnsRow.mainSum := by
  unfold Func.isWrapper
  first | (rw [if_pos (by decide +kernel)]; kernel_rfl) | (rw [if_neg (by decide +kernel)]; exact ⟨rfl, rfl⟩)
set_option maxHeartbeats 400000000 in
theorem rationalReturns_closed : joinedFacts Tryz.pinned.checked.prog 11 Tryz.f11 Rows.rationalReturnsSpec Rows.rationalReturnsRow = true := by
  unfold joinedFacts
  repeat' (with_reducible refine (Bool.and_eq_true _ _).mpr ⟨?_, ?_⟩)
  all_goals (as_aux_lemma => kernel_rfl)
end Go.Proofs.YtbadibbdoljjhaaGreatDoor

