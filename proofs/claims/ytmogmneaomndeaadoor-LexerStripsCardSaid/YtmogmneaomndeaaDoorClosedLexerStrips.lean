/-
  The closed facts of the row of LexerStrips.
-/
import Derived.Test.YtmogmneaomndeaaDoorRows
import Derived.JoinedOf
import Derived.KernelRfl
namespace Go.Proofs.YtmogmneaomndeaaDoor
open Go Go.Proofs

theorem lexerStrips_named : Tryd.pinned.checked.prog.funcNamed Rows.lexerStripsRow.func = some 9 := by kernel_rfl
theorem lexerStrips_inst : Tryd.f9.isInstance Tryd.pinned.checked.prog Rows.lexerStripsRow.origin Rows.lexerStripsRow.targs := of_decide_eq_true (by kernel_rfl)
theorem lexerStrips_wrap : Tryd.f9.isWrapper Tryd.pinned.checked.prog Rows.lexerStripsRow.wrapper Rows.lexerStripsRow.mainSum := by
  unfold Func.isWrapper
  first | (rw [if_pos (by decide +kernel)]; kernel_rfl) | (rw [if_neg (by decide +kernel)]; exact ⟨rfl, rfl⟩)
set_option maxHeartbeats 400000000 in
theorem lexerStrips_closed : joinedFacts Tryd.pinned.checked.prog 9 Tryd.f9 Rows.lexerStripsSpec Rows.lexerStripsRow = true := by
  unfold joinedFacts
  repeat' (with_reducible refine (Bool.and_eq_true _ _).mpr ⟨?_, ?_⟩)
  all_goals (as_aux_lemma => kernel_rfl)
end Go.Proofs.YtmogmneaomndeaaDoor
