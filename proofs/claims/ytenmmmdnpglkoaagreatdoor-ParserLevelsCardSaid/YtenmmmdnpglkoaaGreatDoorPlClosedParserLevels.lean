import Derived.Test.YtenmmmdnpglkoaaGreatDoorRows
import Derived.JoinedOf
import Derived.KernelRfl

set_option linter.unusedVariables false
/-
  The closed facts of the row of ParserLevels.
-/
namespace Go.Proofs.YtenmmmdnpglkoaaGreatDoor
open Go Go.Proofs

theorem parserLevels_named : Tryz.pinned.checked.prog.funcNamed Rows.parserLevelsRow.func = some 5 := by kernel_rfl
theorem parserLevels_inst : Tryz.f5.isInstance Tryz.pinned.checked.prog Rows.parserLevelsRow.origin Rows.parserLevelsRow.targs := of_decide_eq_true (by kernel_rfl)
theorem parserLevels_wrap : Tryz.f5.isWrapper Tryz.pinned.checked.prog Rows.parserLevelsRow.wrapper Rows.parserLevelsRow.mainSum := by
  unfold Func.isWrapper
  first | (rw [if_pos (by decide +kernel)]; kernel_rfl) | (rw [if_neg (by decide +kernel)]; exact ⟨rfl, rfl⟩)
set_option maxHeartbeats 400000000 in
theorem parserLevels_closed : joinedFacts Tryz.pinned.checked.prog 5 Tryz.f5 Rows.parserLevelsSpec Rows.parserLevelsRow = true := by
  unfold joinedFacts
  repeat' (with_reducible refine (Bool.and_eq_true _ _).mpr ⟨?_, ?_⟩)
  all_goals (as_aux_lemma => kernel_rfl)
end Go.Proofs.YtenmmmdnpglkoaaGreatDoor

