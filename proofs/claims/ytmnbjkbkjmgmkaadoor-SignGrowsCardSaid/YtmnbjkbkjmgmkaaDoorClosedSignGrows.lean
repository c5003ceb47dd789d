/-
  The closed facts of the row of SignGrows.
-/
import Derived.Test.YtmnbjkbkjmgmkaaDoorRows
import Derived.JoinedOf
import Derived.KernelRfl
set_option linter.unusedSimpArgs false
set_option linter.unusedVariables false
namespace Go.Proofs.YtmnbjkbkjmgmkaaDoor
open Go Go.Proofs

theorem signGrows_named : Tryd.pinned.checked.prog.funcNamed Rows.signGrowsRow.func = some 7 := by kernel_rfl
theorem signGrows_inst : Tryd.f7.isInstance Tryd.pinned.checked.prog Rows.signGrowsRow.origin Rows.signGrowsRow.targs := of_decide_eq_true (by kernel_rfl)
theorem signGrows_wrap : Tryd.f7.isWrapper Tryd.pinned.checked.prog Rows.signGrowsRow.wrapper Rows.signGrowsRow.mainSum := by
  unfold Func.isWrapper
  first | (rw [if_pos (by decide +kernel)]; kernel_rfl) | (rw [if_neg (by decide +kernel)]; exact ⟨rfl, rfl⟩)
set_option maxHeartbeats 400000000 in
theorem signGrows_closed : joinedFacts Tryd.pinned.checked.prog 7 Tryd.f7 Rows.signGrowsSpec Rows.signGrowsRow = true := by
  unfold joinedFacts
  repeat' (with_reducible refine (Bool.and_eq_true _ _).mpr ⟨?_, ?_⟩)
  all_goals (as_aux_lemma => kernel_rfl)
end Go.Proofs.YtmnbjkbkjmgmkaaDoor
