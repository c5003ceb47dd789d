/-
  The closed facts of the row of SignComputes.
-/
import Derived.Test.YtmnbjkbkjmgmkaaDoorRows
import Derived.JoinedOf
import Derived.KernelRfl
set_option linter.unusedSimpArgs false
set_option linter.unusedVariables false
namespace Go.Proofs.YtmnbjkbkjmgmkaaDoor
open Go Go.Proofs

theorem signComputes_named : Tryd.pinned.checked.prog.funcNamed Rows.signComputesRow.func = some 5 := by kernel_rfl
theorem signComputes_inst : Tryd.f5.isInstance Tryd.pinned.checked.prog Rows.signComputesRow.origin Rows.signComputesRow.targs := of_decide_eq_true (by kernel_rfl)
theorem signComputes_wrap : Tryd.f5.isWrapper Tryd.pinned.checked.prog Rows.signComputesRow.wrapper Rows.signComputesRow.mainSum := by
  unfold Func.isWrapper
  first | (rw [if_pos (by decide +kernel)]; kernel_rfl) | (rw [if_neg (by decide +kernel)]; exact ⟨rfl, rfl⟩)
set_option maxHeartbeats 400000000 in
theorem signComputes_closed : joinedFacts Tryd.pinned.checked.prog 5 Tryd.f5 Rows.signComputesSpec Rows.signComputesRow = true := by
  unfold joinedFacts
  repeat' (with_reducible refine (Bool.and_eq_true _ _).mpr ⟨?_, ?_⟩)
  all_goals (as_aux_lemma => kernel_rfl)
end Go.Proofs.YtmnbjkbkjmgmkaaDoor
