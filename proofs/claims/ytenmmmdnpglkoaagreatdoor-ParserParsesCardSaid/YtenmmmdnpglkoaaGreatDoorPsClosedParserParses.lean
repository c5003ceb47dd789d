import Derived.Test.YtenmmmdnpglkoaaGreatDoorRows
import Derived.JoinedOf
import Derived.KernelRfl

set_option linter.unusedVariables false
/-
  The closed facts of the row of ParserParses.
-/
namespace Go.Proofs.YtenmmmdnpglkoaaGreatDoor
open Go Go.Proofs

theorem parserParses_named : Tryz.pinned.checked.prog.funcNamed Rows.parserParsesRow.func = some 3 := by kernel_rfl
theorem parserParses_inst : Tryz.f3.isInstance Tryz.pinned.checked.prog Rows.parserParsesRow.origin Rows.parserParsesRow.targs := of_decide_eq_true (by kernel_rfl)
theorem parserParses_wrap : Tryz.f3.isWrapper Tryz.pinned.checked.prog Rows.parserParsesRow.wrapper Rows.parserParsesRow.mainSum := by
  unfold Func.isWrapper
  first | (rw [if_pos (by decide +kernel)]; kernel_rfl) | (rw [if_neg (by decide +kernel)]; exact ⟨rfl, rfl⟩)
set_option maxHeartbeats 400000000 in
theorem parserParses_closed : joinedFacts Tryz.pinned.checked.prog 3 Tryz.f3 Rows.parserParsesSpec Rows.parserParsesRow = true := by
  unfold joinedFacts
  repeat' (with_reducible refine (Bool.and_eq_true _ _).mpr ⟨?_, ?_⟩)
  all_goals (as_aux_lemma => kernel_rfl)
end Go.Proofs.YtenmmmdnpglkoaaGreatDoor

