import Derived.Test.YtjobmkdaaionlaaGreatDoorRows
import Derived.JoinedOf
import Derived.KernelRfl

set_option linter.unusedVariables false
/-
  The closed facts of the row of LinearSubstitutes.
-/
namespace Go.Proofs.YtjobmkdaaionlaaGreatDoor
open Go Go.Proofs

theorem linearSubstitutes_named : Tryz.pinned.checked.prog.funcNamed Rows.linearSubstitutesRow.func = some 6 := by kernel_rfl
theorem linearSubstitutes_inst : Tryz.f6.isInstance Tryz.pinned.checked.prog Rows.linearSubstitutesRow.origin Rows.linearSubstitutesRow.targs := of_decide_eq_true (by kernel_rfl)
theorem linearSubstitutes_wrap : Tryz.f6.isWrapper Tryz.pinned.checked.prog Rows.linearSubstitutesRow.wrapper Rows.linearSubstitutesRow.mainSum := by
  unfold Func.isWrapper
  first | (rw [if_pos (by decide +kernel)]; kernel_rfl) | (rw [if_neg (by decide +kernel)]; exact ⟨rfl, rfl⟩)
set_option maxHeartbeats 400000000 in
theorem linearSubstitutes_closed : joinedFacts Tryz.pinned.checked.prog 6 Tryz.f6 Rows.linearSubstitutesSpec Rows.linearSubstitutesRow = true := by
  unfold joinedFacts
  repeat' (with_reducible refine (Bool.and_eq_true _ _).mpr ⟨?_, ?_⟩)
  all_goals (as_aux_lemma => kernel_rfl)
end Go.Proofs.YtjobmkdaaionlaaGreatDoor
