import Derived.Test.YtdibcllakkjegaaGreatDoorRows
import Derived.JoinedOf
import Derived.KernelRfl

set_option linter.unusedVariables false
/-
  The closed facts of the row of ParserCuts.
-/
namespace Go.Proofs.YtdibcllakkjegaaGreatDoor
open Go Go.Proofs

theorem parserCuts_named : Tryz.pinned.checked.prog.funcNamed Rows.parserCutsRow.func = some 10 := by kernel_rfl
theorem parserCuts_inst : Tryz.f10.isInstance Tryz.pinned.checked.prog Rows.parserCutsRow.origin Rows.parserCutsRow.targs := of_decide_eq_true (by kernel_rfl)
theorem parserCuts_wrap : Tryz.f10.isWrapper Tryz.pinned.checked.prog Rows.parserCutsRow.wrapper Rows.parserCutsRow.mainSum := by
  unfold Func.isWrapper
  first | (rw [if_pos (by decide +kernel)]; kernel_rfl) | (rw [if_neg (by decide +kernel)]; exact ⟨rfl, rfl⟩)
set_option maxHeartbeats 400000000 in
theorem parserCuts_closed : joinedFacts Tryz.pinned.checked.prog 10 Tryz.f10 Rows.parserCutsSpec Rows.parserCutsRow = true := by
  unfold joinedFacts
  repeat' (with_reducible refine (Bool.and_eq_true _ _).mpr ⟨?_, ?_⟩)
  all_goals (as_aux_lemma => kernel_rfl)
end Go.Proofs.YtdibcllakkjegaaGreatDoor

