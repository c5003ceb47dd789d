/-
  The closed facts of the row of LexerScans.
-/
import Derived.Test.YtmogmneaomndeaaDoorRows
import Derived.JoinedOf
import Derived.KernelRfl
namespace Go.Proofs.YtmogmneaomndeaaDoor
open Go Go.Proofs

theorem lexerScans_named : Tryd.pinned.checked.prog.funcNamed Rows.lexerScansRow.func = some 3 := by kernel_rfl
theorem lexerScans_inst : Tryd.f3.isInstance Tryd.pinned.checked.prog Rows.lexerScansRow.origin Rows.lexerScansRow.targs := of_decide_eq_true (by kernel_rfl)
theorem lexerScans_wrap : Tryd.f3.isWrapper Tryd.pinned.checked.prog Rows.lexerScansRow.wrapper Rows.lexerScansRow.mainSum := by
  unfold Func.isWrapper
  first | (rw [if_pos (by decide +kernel)]; kernel_rfl) | (rw [if_neg (by decide +kernel)]; exact ⟨rfl, rfl⟩)
set_option maxHeartbeats 400000000 in
theorem lexerScans_closed : joinedFacts Tryd.pinned.checked.prog 3 Tryd.f3 Rows.lexerScansSpec Rows.lexerScansRow = true := by
  unfold joinedFacts
  repeat' (with_reducible refine (Bool.and_eq_true _ _).mpr ⟨?_, ?_⟩)
  all_goals (as_aux_lemma => kernel_rfl)
end Go.Proofs.YtmogmneaomndeaaDoor
