/-
  The closed facts of the row of SignKeeps.
-/
import Derived.Test.YtmnbjkbkjmgmkaaDoorRows
import Derived.JoinedOf
import Derived.KernelRfl
set_option linter.unusedSimpArgs false
set_option linter.unusedVariables false
namespace Go.Proofs.YtmnbjkbkjmgmkaaDoor
open Go Go.Proofs

theorem signKeeps_named : Tryd.pinned.checked.prog.funcNamed Rows.signKeepsRow.func = some 8 := by kernel_rfl
theorem signKeeps_inst : Tryd.f8.isInstance Tryd.pinned.checked.prog Rows.signKeepsRow.origin Rows.signKeepsRow.targs := of_decide_eq_true (by kernel_rfl)
theorem signKeeps_wrap : Tryd.f8.isWrapper Tryd.pinned.checked.prog Rows.signKeepsRow.wrapper Rows.signKeepsRow.mainSum := by
  unfold Func.isWrapper
  first | (rw [if_pos (by decide +kernel)]; kernel_rfl) | (rw [if_neg (by decide +kernel)]; exact ⟨rfl, rfl⟩)
set_option maxHeartbeats 400000000 in
theorem signKeeps_closed : joinedFacts Tryd.pinned.checked.prog 8 Tryd.f8 Rows.signKeepsSpec Rows.signKeepsRow = true := by
  unfold joinedFacts
  repeat' (with_reducible refine (Bool.and_eq_true _ _).mpr ⟨?_, ?_⟩)
  all_goals (as_aux_lemma => kernel_rfl)
end Go.Proofs.YtmnbjkbkjmgmkaaDoor
