/-
  The closed facts of the row of SignHolds.
-/
import Derived.Test.YtmnbjkbkjmgmkaaDoorRows
import Derived.JoinedOf
import Derived.KernelRfl
set_option linter.unusedSimpArgs false
set_option linter.unusedVariables false
namespace Go.Proofs.YtmnbjkbkjmgmkaaDoor
open Go Go.Proofs

theorem signHolds_named : Tryd.pinned.checked.prog.funcNamed Rows.signHoldsRow.func = some 3 := by kernel_rfl
theorem signHolds_inst : Tryd.f3.isInstance Tryd.pinned.checked.prog Rows.signHoldsRow.origin Rows.signHoldsRow.targs := of_decide_eq_true (by kernel_rfl)
theorem signHolds_wrap : Tryd.f3.isWrapper Tryd.pinned.checked.prog Rows.signHoldsRow.wrapper Rows.signHoldsRow.mainSum := by
  unfold Func.isWrapper
  first | (rw [if_pos (by decide +kernel)]; kernel_rfl) | (rw [if_neg (by decide +kernel)]; exact ⟨rfl, rfl⟩)
set_option maxHeartbeats 400000000 in
theorem signHolds_closed : joinedFacts Tryd.pinned.checked.prog 3 Tryd.f3 Rows.signHoldsSpec Rows.signHoldsRow = true := by
  unfold joinedFacts
  repeat' (with_reducible refine (Bool.and_eq_true _ _).mpr ⟨?_, ?_⟩)
  all_goals (as_aux_lemma => kernel_rfl)
end Go.Proofs.YtmnbjkbkjmgmkaaDoor
