/-
  The closed facts of the second row of LexerLines.
-/
import Derived.Test.YtmogmneaomndeaaDoorRows
import Derived.JoinedOf
import Derived.KernelRfl
namespace Go.Proofs.YtmogmneaomndeaaDoor
open Go Go.Proofs

theorem lexerLines_named : Tryd.pinned.checked.prog.funcNamed Rows.lexerLinesUptoRow.func = some 10 := by kernel_rfl
theorem lexerLines_inst : Tryd.f10.isInstance Tryd.pinned.checked.prog Rows.lexerLinesUptoRow.origin Rows.lexerLinesUptoRow.targs := of_decide_eq_true (by kernel_rfl)
theorem lexerLines_wrap : Tryd.f10.isWrapper Tryd.pinned.checked.prog Rows.lexerLinesUptoRow.wrapper Rows.lexerLinesUptoRow.mainSum := by
  unfold Func.isWrapper
  first | (rw [if_pos (by decide +kernel)]; kernel_rfl) | (rw [if_neg (by decide +kernel)]; exact ⟨rfl, rfl⟩)
set_option maxHeartbeats 400000000 in
theorem lexerLines_closed : joinedFacts Tryd.pinned.checked.prog 10 Tryd.f10 (Rows.OpenSpec.upto Rows.lexerLinesSpec).bare Rows.lexerLinesUptoRow = true := by
  unfold joinedFacts
  repeat' (with_reducible refine (Bool.and_eq_true _ _).mpr ⟨?_, ?_⟩)
  all_goals (as_aux_lemma => kernel_rfl)
end Go.Proofs.YtmogmneaomndeaaDoor
