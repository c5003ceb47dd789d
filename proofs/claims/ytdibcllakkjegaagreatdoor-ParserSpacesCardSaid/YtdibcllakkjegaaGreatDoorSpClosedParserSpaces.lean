import Derived.Test.YtdibcllakkjegaaGreatDoorRows
import Derived.JoinedOf
import Derived.KernelRfl

set_option linter.unusedVariables false
/-
  The closed facts of the row of ParserSpaces.
-/
namespace Go.Proofs.YtdibcllakkjegaaGreatDoor
open Go Go.Proofs

theorem parserSpaces_named : Tryz.pinned.checked.prog.funcNamed Rows.parserSpacesRow.func = some 6 := by kernel_rfl
theorem parserSpaces_inst : Tryz.f6.isInstance Tryz.pinned.checked.prog Rows.parserSpacesRow.origin Rows.parserSpacesRow.targs := of_decide_eq_true (by kernel_rfl)
theorem parserSpaces_wrap : Tryz.f6.isWrapper Tryz.pinned.checked.prog Rows.parserSpacesRow.wrapper Rows.parserSpacesRow.mainSum := by
  unfold Func.isWrapper
  first | (rw [if_pos (by decide +kernel)]; kernel_rfl) | (rw [if_neg (by decide +kernel)]; exact ⟨rfl, rfl⟩)
set_option maxHeartbeats 400000000 in
theorem parserSpaces_closed : joinedFacts Tryz.pinned.checked.prog 6 Tryz.f6 Rows.parserSpacesSpec Rows.parserSpacesRow = true := by
  unfold joinedFacts
  repeat' (with_reducible refine (Bool.and_eq_true _ _).mpr ⟨?_, ?_⟩)
  all_goals (as_aux_lemma => kernel_rfl)
end Go.Proofs.YtdibcllakkjegaaGreatDoor

