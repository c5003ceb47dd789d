/-
  The closed facts of the row of LexerPlaces.
-/
import Derived.Test.YtmogmneaomndeaaDoorRows
import Derived.JoinedOf
import Derived.KernelRfl
namespace Go.Proofs.YtmogmneaomndeaaDoor
open Go Go.Proofs

theorem lexerPlaces_named : Tryd.pinned.checked.prog.funcNamed Rows.lexerPlacesRow.func = some 6 := by kernel_rfl
theorem lexerPlaces_inst : Tryd.f6.isInstance Tryd.pinned.checked.prog Rows.lexerPlacesRow.origin Rows.lexerPlacesRow.targs := of_decide_eq_true (by kernel_rfl)
theorem lexerPlaces_wrap : Tryd.f6.isWrapper Tryd.pinned.checked.prog Rows.lexerPlacesRow.wrapper Rows.lexerPlacesRow.mainSum := by
  unfold Func.isWrapper
  first | (rw [if_pos (by decide +kernel)]; kernel_rfl) | (rw [if_neg (by decide +kernel)]; exact ⟨rfl, rfl⟩)
set_option maxHeartbeats 400000000 in
theorem lexerPlaces_closed : joinedFacts Tryd.pinned.checked.prog 6 Tryd.f6 Rows.lexerPlacesSpec Rows.lexerPlacesRow = true := by
  unfold joinedFacts
  repeat' (with_reducible refine (Bool.and_eq_true _ _).mpr ⟨?_, ?_⟩)
  all_goals (as_aux_lemma => kernel_rfl)
end Go.Proofs.YtmogmneaomndeaaDoor
