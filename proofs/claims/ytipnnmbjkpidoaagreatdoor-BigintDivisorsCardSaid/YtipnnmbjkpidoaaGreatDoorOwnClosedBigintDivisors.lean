import Derived.Test.YtipnnmbjkpidoaaGreatDoorRows
import Derived.JoinedOf
import Derived.KernelRfl

set_option linter.unusedVariables false
/-
  The closed facts of the row of BigintDivisors.
-/
namespace Go.Proofs.YtipnnmbjkpidoaaGreatDoor
open Go Go.Proofs

theorem bigintDivisors_named : Tryz.pinned.checked.prog.funcNamed Rows.bigintDivisorsRow.func = some 11 := by kernel_rfl
theorem bigintDivisors_inst : Tryz.f11.isInstance Tryz.pinned.checked.prog Rows.bigintDivisorsRow.origin Rows.bigintDivisorsRow.targs := of_decide_eq_true (by kernel_rfl)
theorem bigintDivisors_wrap : Tryz.f11.isWrapper Tryz.pinned.checked.prog Rows.bigintDivisorsRow.wrapper Rows.bigintDivisorsRow.mainSum := by
  unfold Func.isWrapper
  first | (rw [if_pos (by decide +kernel)]; kernel_rfl) | (rw [if_neg (by decide +kernel)]; exact ⟨rfl, rfl⟩)
set_option maxHeartbeats 400000000 in
theorem bigintDivisors_closed : joinedFacts Tryz.pinned.checked.prog 11 Tryz.f11 Rows.bigintDivisorsSpec Rows.bigintDivisorsRow = true := by
  unfold joinedFacts
  repeat' (with_reducible refine (Bool.and_eq_true _ _).mpr ⟨?_, ?_⟩)
  all_goals (as_aux_lemma => kernel_rfl)
end Go.Proofs.YtipnnmbjkpidoaaGreatDoor
