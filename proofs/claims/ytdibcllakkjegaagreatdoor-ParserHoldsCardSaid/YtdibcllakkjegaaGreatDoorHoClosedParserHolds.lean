import Derived.Test.YtdibcllakkjegaaGreatDoorRows
import Derived.JoinedOf
import Derived.KernelRfl

set_option linter.unusedVariables false
/-
  The closed facts of the row of ParserHolds.
-/
namespace Go.Proofs.YtdibcllakkjegaaGreatDoor
open Go Go.Proofs

theorem parserHolds_named : Tryz.pinned.checked.prog.funcNamed Rows.parserHoldsRow.func = some 11 := by kernel_rfl
theorem parserHolds_inst : Tryz.f11.isInstance Tryz.pinned.checked.prog Rows.parserHoldsRow.origin Rows.parserHoldsRow.targs := of_decide_eq_true (by kernel_rfl)
theorem parserHolds_wrap : Tryz.f11.isWrapper Tryz.pinned.checked.prog Rows.parserHoldsRow.wrapper Rows.parserHoldsRow.mainSum := by
  unfold Func.isWrapper
  first | (rw [if_pos (by decide +kernel)]; kernel_rfl) | (rw [if_neg (by decide +kernel)]; exact ⟨rfl, rfl⟩)
set_option maxHeartbeats 400000000 in
theorem parserHolds_closed : joinedFacts Tryz.pinned.checked.prog 11 Tryz.f11 Rows.parserHoldsSpec Rows.parserHoldsRow = true := by
  unfold joinedFacts
  repeat' (with_reducible refine (Bool.and_eq_true _ _).mpr ⟨?_, ?_⟩)
  all_goals (as_aux_lemma => kernel_rfl)
end Go.Proofs.YtdibcllakkjegaaGreatDoor

