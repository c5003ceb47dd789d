import Derived.Test.YtipnnmbjkpidoaaGreatDoorRows
import Derived.JoinedOf
import Derived.KernelRfl

set_option linter.unusedVariables false
/-
  The closed facts of the row of BigintAgrees.
-/
namespace Go.Proofs.YtipnnmbjkpidoaaGreatDoor
open Go Go.Proofs

theorem bigintAgrees_named : Tryz.pinned.checked.prog.funcNamed Rows.bigintAgreesRow.func = some 12 := by kernel_rfl
theorem bigintAgrees_inst : Tryz.f12.isInstance Tryz.pinned.checked.prog Rows.bigintAgreesRow.origin Rows.bigintAgreesRow.targs := of_decide_eq_true (by kernel_rfl)
theorem bigintAgrees_wrap : Tryz.f12.isWrapper Tryz.pinned.checked.prog Rows.bigintAgreesRow.wrapper Rows.bigintAgreesRow.mainSum := by
  unfold Func.isWrapper
  first | (rw [if_pos (by decide +kernel)]; kernel_rfl) | (rw [if_neg (by decide +kernel)]; exact ⟨rfl, rfl⟩)
set_option maxHeartbeats 400000000 in
theorem bigintAgrees_closed : joinedFacts Tryz.pinned.checked.prog 12 Tryz.f12 Rows.bigintAgreesSpec Rows.bigintAgreesRow = true := by
  unfold joinedFacts
  repeat' (with_reducible refine (Bool.and_eq_true _ _).mpr ⟨?_, ?_⟩)
  all_goals (as_aux_lemma => kernel_rfl)
end Go.Proofs.YtipnnmbjkpidoaaGreatDoor
