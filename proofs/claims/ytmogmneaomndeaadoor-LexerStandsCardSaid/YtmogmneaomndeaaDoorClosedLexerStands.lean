/-
  The closed facts of the row of LexerStands.
-/
import Derived.Test.YtmogmneaomndeaaDoorRows
import Derived.JoinedOf
import Derived.KernelRfl
namespace Go.Proofs.YtmogmneaomndeaaDoor
open Go Go.Proofs

theorem lexerStands_named : Tryd.pinned.checked.prog.funcNamed Rows.lexerStandsRow.func = some 7 := by kernel_rfl
theorem lexerStands_inst : Tryd.f7.isInstance Tryd.pinned.checked.prog Rows.lexerStandsRow.origin Rows.lexerStandsRow.targs := of_decide_eq_true (by kernel_rfl)
theorem lexerStands_wrap : Tryd.f7.isWrapper Tryd.pinned.checked.prog Rows.lexerStandsRow.wrapper Rows.lexerStandsRow.mainSum := by
  unfold Func.isWrapper
  first | (rw [if_pos (by decide +kernel)]; kernel_rfl) | (rw [if_neg (by decide +kernel)]; exact ⟨rfl, rfl⟩)
set_option maxHeartbeats 400000000 in
theorem lexerStands_closed : joinedFacts Tryd.pinned.checked.prog 7 Tryd.f7 Rows.lexerStandsSpec Rows.lexerStandsRow = true := by
  unfold joinedFacts
  repeat' (with_reducible refine (Bool.and_eq_true _ _).mpr ⟨?_, ?_⟩)
  all_goals (as_aux_lemma => kernel_rfl)
end Go.Proofs.YtmogmneaomndeaaDoor
