import Derived.Test.YtdibcllakkjegaaGreatDoorRows
import Derived.JoinedOf
import Derived.KernelRfl

set_option linter.unusedVariables false
/-
  The closed facts of the row of ParserParens.
-/
namespace Go.Proofs.YtdibcllakkjegaaGreatDoor
open Go Go.Proofs

theorem parserParens_named : Tryz.pinned.checked.prog.funcNamed Rows.parserParensRow.func = some 9 := by kernel_rfl
theorem parserParens_inst : Tryz.f9.isInstance Tryz.pinned.checked.prog Rows.parserParensRow.origin Rows.parserParensRow.targs := of_decide_eq_true (by kernel_rfl)
theorem parserParens_wrap : Tryz.f9.isWrapper Tryz.pinned.checked.prog Rows.parserParensRow.wrapper Rows.parserParensRow.mainSum := by
  unfold Func.isWrapper
  first | (rw [if_pos (by decide +kernel)]; kernel_rfl) | (rw [if_neg (by decide +kernel)]; exact ⟨rfl, rfl⟩)
set_option maxHeartbeats 400000000 in
theorem parserParens_closed : joinedFacts Tryz.pinned.checked.prog 9 Tryz.f9 Rows.parserParensSpec Rows.parserParensRow = true := by
  unfold joinedFacts
  repeat' (with_reducible refine (Bool.and_eq_true _ _).mpr ⟨?_, ?_⟩)
  all_goals (as_aux_lemma => kernel_rfl)
end Go.Proofs.YtdibcllakkjegaaGreatDoor

