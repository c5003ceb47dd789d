import Derived.Test.YtipnnmbjkpidoaaGreatDoorRows
import Derived.JoinedOf
import Derived.KernelRfl

set_option linter.unusedVariables false
/-
  The closed facts of the row of BigintOrders.
-/
namespace Go.Proofs.YtipnnmbjkpidoaaGreatDoor
open Go Go.Proofs

theorem bigintOrders_named : Tryz.pinned.checked.prog.funcNamed Rows.bigintOrdersRow.func = some 4 := by kernel_rfl
theorem bigintOrders_inst : Tryz.f4.isInstance Tryz.pinned.checked.prog Rows.bigintOrdersRow.origin Rows.bigintOrdersRow.targs := of_decide_eq_true (by kernel_rfl)
theorem bigintOrders_wrap : Tryz.f4.isWrapper Tryz.pinned.checked.prog Rows.bigintOrdersRow.wrapper Rows.bigintOrdersRow.mainSum := by
  unfold Func.isWrapper
  first | (rw [if_pos (by decide +kernel)]; kernel_rfl) | (rw [if_neg (by decide +kernel)]; exact ⟨rfl, rfl⟩)
set_option maxHeartbeats 400000000 in
theorem bigintOrders_closed : joinedFacts Tryz.pinned.checked.prog 4 Tryz.f4 Rows.bigintOrdersSpec Rows.bigintOrdersRow = true := by
  unfold joinedFacts
  repeat' (with_reducible refine (Bool.and_eq_true _ _).mpr ⟨?_, ?_⟩)
  all_goals (as_aux_lemma => kernel_rfl)
end Go.Proofs.YtipnnmbjkpidoaaGreatDoor
