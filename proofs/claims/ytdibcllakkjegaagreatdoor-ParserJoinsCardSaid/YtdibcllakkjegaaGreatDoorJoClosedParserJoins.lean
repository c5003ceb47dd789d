import Derived.Test.YtdibcllakkjegaaGreatDoorRows
import Derived.JoinedOf
import Derived.KernelRfl

set_option linter.unusedVariables false
/-
  The closed facts of the row of ParserJoins.
-/
namespace Go.Proofs.YtdibcllakkjegaaGreatDoor
open Go Go.Proofs

theorem parserJoins_named : Tryz.pinned.checked.prog.funcNamed Rows.parserJoinsRow.func = some 7 := by kernel_rfl
theorem parserJoins_inst : Tryz.f7.isInstance Tryz.pinned.checked.prog Rows.parserJoinsRow.origin Rows.parserJoinsRow.targs := of_decide_eq_true (by kernel_rfl)
theorem parserJoins_wrap : Tryz.f7.isWrapper Tryz.pinned.checked.prog Rows.parserJoinsRow.wrapper Rows.parserJoinsRow.mainSum := by
  unfold Func.isWrapper
  first | (rw [if_pos (by decide +kernel)]; kernel_rfl) | (rw [if_neg (by decide +kernel)]; exact ⟨rfl, rfl⟩)
set_option maxHeartbeats 400000000 in
theorem parserJoins_closed : joinedFacts Tryz.pinned.checked.prog 7 Tryz.f7 Rows.parserJoinsSpec Rows.parserJoinsRow = true := by
  unfold joinedFacts
  repeat' (with_reducible refine (Bool.and_eq_true _ _).mpr ⟨?_, ?_⟩)
  all_goals (as_aux_lemma => kernel_rfl)
end Go.Proofs.YtdibcllakkjegaaGreatDoor

