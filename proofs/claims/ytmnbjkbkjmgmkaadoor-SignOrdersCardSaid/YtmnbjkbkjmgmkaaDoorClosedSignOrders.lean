/-
  The closed facts of the row of SignOrders.
-/
import Derived.Test.YtmnbjkbkjmgmkaaDoorRows
import Derived.JoinedOf
import Derived.KernelRfl
set_option linter.unusedSimpArgs false
set_option linter.unusedVariables false
namespace Go.Proofs.YtmnbjkbkjmgmkaaDoor
open Go Go.Proofs

theorem signOrders_named : Tryd.pinned.checked.prog.funcNamed Rows.signOrdersRow.func = some 4 := by kernel_rfl
theorem signOrders_inst : Tryd.f4.isInstance Tryd.pinned.checked.prog Rows.signOrdersRow.origin Rows.signOrdersRow.targs := of_decide_eq_true (by kernel_rfl)
theorem signOrders_wrap : Tryd.f4.isWrapper Tryd.pinned.checked.prog Rows.signOrdersRow.wrapper Rows.signOrdersRow.mainSum := by
  unfold Func.isWrapper
  first | (rw [if_pos (by decide +kernel)]; kernel_rfl) | (rw [if_neg (by decide +kernel)]; exact ⟨rfl, rfl⟩)
set_option maxHeartbeats 400000000 in
theorem signOrders_closed : joinedFacts Tryd.pinned.checked.prog 4 Tryd.f4 Rows.signOrdersSpec Rows.signOrdersRow = true := by
  unfold joinedFacts
  repeat' (with_reducible refine (Bool.and_eq_true _ _).mpr ⟨?_, ?_⟩)
  all_goals (as_aux_lemma => kernel_rfl)
end Go.Proofs.YtmnbjkbkjmgmkaaDoor
