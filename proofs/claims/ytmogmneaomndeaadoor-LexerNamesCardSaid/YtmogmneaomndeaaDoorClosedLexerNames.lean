/-
  The closed facts of the row of LexerNames.
-/
import Derived.Test.YtmogmneaomndeaaDoorRows
import Derived.JoinedOf
import Derived.KernelRfl
namespace Go.Proofs.YtmogmneaomndeaaDoor
open Go Go.Proofs

theorem lexerNames_named : Tryd.pinned.checked.prog.funcNamed Rows.lexerNamesRow.func = some 4 := by kernel_rfl
theorem lexerNames_inst : Tryd.f4.isInstance Tryd.pinned.checked.prog Rows.lexerNamesRow.origin Rows.lexerNamesRow.targs := of_decide_eq_true (by kernel_rfl)
theorem lexerNames_wrap : Tryd.f4.isWrapper Tryd.pinned.checked.prog Rows.lexerNamesRow.wrapper Rows.lexerNamesRow.mainSum := by
  unfold Func.isWrapper
  first | (rw [if_pos (by decide +kernel)]; kernel_rfl) | (rw [if_neg (by decide +kernel)]; exact ⟨rfl, rfl⟩)
set_option maxHeartbeats 400000000 in
theorem lexerNames_closed : joinedFacts Tryd.pinned.checked.prog 4 Tryd.f4 Rows.lexerNamesSpec Rows.lexerNamesRow = true := by
  unfold joinedFacts
  repeat' (with_reducible refine (Bool.and_eq_true _ _).mpr ⟨?_, ?_⟩)
  all_goals (as_aux_lemma => kernel_rfl)
end Go.Proofs.YtmogmneaomndeaaDoor
