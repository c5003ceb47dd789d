import Derived.Test.YtenmmmdnpglkoaaGreatDoorRows
import Derived.JoinedOf
import Derived.KernelRfl

set_option linter.unusedVariables false
/-
  The closed facts of the row of ParserParts.
-/
namespace Go.Proofs.YtenmmmdnpglkoaaGreatDoor
open Go Go.Proofs

theorem parserParts_named : Tryz.pinned.checked.prog.funcNamed Rows.parserPartsRow.func = some 4 := by kernel_rfl
theorem parserParts_inst : Tryz.f4.isInstance Tryz.pinned.checked.prog Rows.parserPartsRow.origin Rows.parserPartsRow.targs := of_decide_eq_true (by kernel_rfl)
theorem parserParts_wrap : Tryz.f4.isWrapper Tryz.pinned.checked.prog Rows.parserPartsRow.wrapper Rows.parserPartsRow.mainSum := by
  unfold Func.isWrapper
  first | (rw [if_pos (by decide +kernel)]; kernel_rfl) | (rw [if_neg (by decide +kernel)]; exact ⟨rfl, rfl⟩)
set_option maxHeartbeats 400000000 in
theorem parserParts_closed : joinedFacts Tryz.pinned.checked.prog 4 Tryz.f4 Rows.parserPartsSpec Rows.parserPartsRow = true := by
  unfold joinedFacts
  repeat' (with_reducible refine (Bool.and_eq_true _ _).mpr ⟨?_, ?_⟩)
  all_goals (as_aux_lemma => kernel_rfl)
end Go.Proofs.YtenmmmdnpglkoaaGreatDoor

