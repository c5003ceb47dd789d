/-
  The closed facts of the row of LexerReturns.
-/
import Derived.Test.YtmogmneaomndeaaDoorRows
import Derived.JoinedOf
import Derived.KernelRfl
namespace Go.Proofs.YtmogmneaomndeaaDoor
open Go Go.Proofs

theorem lexerReturns_named : Tryd.pinned.checked.prog.funcNamed Rows.lexerReturnsRow.func = some 8 := by kernel_rfl
theorem lexerReturns_inst : Tryd.f8.isInstance Tryd.pinned.checked.prog Rows.lexerReturnsRow.origin Rows.lexerReturnsRow.targs := of_decide_eq_true (by kernel_rfl)
theorem lexerReturns_wrap : Tryd.f8.isWrapper Tryd.pinned.checked.prog Rows.lexerReturnsRow.wrapper Rows.lexerReturnsRow.mainSum := by
  unfold Func.isWrapper
  first | (rw [if_pos (by decide +kernel)]; kernel_rfl) | (rw [if_neg (by decide +kernel)]; exact ⟨rfl, rfl⟩)
set_option maxHeartbeats 400000000 in
theorem lexerReturns_closed : joinedFacts Tryd.pinned.checked.prog 8 Tryd.f8 Rows.lexerReturnsSpec Rows.lexerReturnsRow = true := by
  unfold joinedFacts
  repeat' (with_reducible refine (Bool.and_eq_true _ _).mpr ⟨?_, ?_⟩)
  all_goals (as_aux_lemma => kernel_rfl)
end Go.Proofs.YtmogmneaomndeaaDoor
