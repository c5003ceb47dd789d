/-
  The closed facts of the row of LexerJoins.
-/
import Derived.Test.YtmogmneaomndeaaDoorRows
import Derived.JoinedOf
import Derived.KernelRfl
namespace Go.Proofs.YtmogmneaomndeaaDoor
open Go Go.Proofs

theorem lexerJoins_named : Tryd.pinned.checked.prog.funcNamed Rows.lexerJoinsRow.func = some 5 := by kernel_rfl
theorem lexerJoins_inst : Tryd.f5.isInstance Tryd.pinned.checked.prog Rows.lexerJoinsRow.origin Rows.lexerJoinsRow.targs := of_decide_eq_true (by kernel_rfl)
theorem lexerJoins_wrap : Tryd.f5.isWrapper Tryd.pinned.checked.prog Rows.lexerJoinsRow.wrapper Rows.lexerJoinsRow.mainSum := by
  unfold Func.isWrapper
  first | (rw [if_pos (by decide +kernel)]; kernel_rfl) | (rw [if_neg (by decide +kernel)]; exact ⟨rfl, rfl⟩)
set_option maxHeartbeats 400000000 in
theorem lexerJoins_closed : joinedFacts Tryd.pinned.checked.prog 5 Tryd.f5 Rows.lexerJoinsSpec Rows.lexerJoinsRow = true := by
  unfold joinedFacts
  repeat' (with_reducible refine (Bool.and_eq_true _ _).mpr ⟨?_, ?_⟩)
  all_goals (as_aux_lemma => kernel_rfl)
end Go.Proofs.YtmogmneaomndeaaDoor
