import Derived.Test.YtdibcllakkjegaaGreatDoorRows
import Derived.JoinedOf
import Derived.KernelRfl

set_option linter.unusedVariables false
/-
  The closed facts of the row of ParserStands.
-/
namespace Go.Proofs.YtdibcllakkjegaaGreatDoor
open Go Go.Proofs

theorem parserStands_named : Tryz.pinned.checked.prog.funcNamed Rows.parserStandsRow.func = some 8 := by kernel_rfl
theorem parserStands_inst : Tryz.f8.isInstance Tryz.pinned.checked.prog Rows.parserStandsRow.origin Rows.parserStandsRow.targs := of_decide_eq_true (by kernel_rfl)
theorem parserStands_wrap : Tryz.f8.isWrapper Tryz.pinned.checked.prog Rows.parserStandsRow.wrapper Rows.parserStandsRow.mainSum := by
  unfold Func.isWrapper
  first | (rw [if_pos (by decide +kernel)]; kernel_rfl) | (rw [if_neg (by decide +kernel)]; exact ⟨rfl, rfl⟩)
set_option maxHeartbeats 400000000 in
theorem parserStands_closed : joinedFacts Tryz.pinned.checked.prog 8 Tryz.f8 Rows.parserStandsSpec Rows.parserStandsRow = true := by
  unfold joinedFacts
  repeat' (with_reducible refine (Bool.and_eq_true _ _).mpr ⟨?_, ?_⟩)
  all_goals (as_aux_lemma => kernel_rfl)
end Go.Proofs.YtdibcllakkjegaaGreatDoor

