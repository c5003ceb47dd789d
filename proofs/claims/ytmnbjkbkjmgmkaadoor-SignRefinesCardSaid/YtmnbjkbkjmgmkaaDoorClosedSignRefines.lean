/-
  The closed facts of the row of SignRefines.
-/
import Derived.Test.YtmnbjkbkjmgmkaaDoorRows
import Derived.JoinedOf
import Derived.KernelRfl
set_option linter.unusedSimpArgs false
set_option linter.unusedVariables false
namespace Go.Proofs.YtmnbjkbkjmgmkaaDoor
open Go Go.Proofs

theorem signRefines_named : Tryd.pinned.checked.prog.funcNamed Rows.signRefinesRow.func = some 6 := by kernel_rfl
theorem signRefines_inst : Tryd.f6.isInstance Tryd.pinned.checked.prog Rows.signRefinesRow.origin Rows.signRefinesRow.targs := of_decide_eq_true (by kernel_rfl)
theorem signRefines_wrap : Tryd.f6.isWrapper Tryd.pinned.checked.prog Rows.signRefinesRow.wrapper Rows.signRefinesRow.mainSum := by
  unfold Func.isWrapper
  first | (rw [if_pos (by decide +kernel)]; kernel_rfl) | (rw [if_neg (by decide +kernel)]; exact ⟨rfl, rfl⟩)
set_option maxHeartbeats 400000000 in
theorem signRefines_closed : joinedFacts Tryd.pinned.checked.prog 6 Tryd.f6 Rows.signRefinesSpec Rows.signRefinesRow = true := by
  unfold joinedFacts
  repeat' (with_reducible refine (Bool.and_eq_true _ _).mpr ⟨?_, ?_⟩)
  all_goals (as_aux_lemma => kernel_rfl)
end Go.Proofs.YtmnbjkbkjmgmkaaDoor
