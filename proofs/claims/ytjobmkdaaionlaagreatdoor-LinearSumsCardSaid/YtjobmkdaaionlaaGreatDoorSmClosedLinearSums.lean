import Derived.Test.YtjobmkdaaionlaaGreatDoorRows
import Derived.JoinedOf
import Derived.KernelRfl

set_option linter.unusedVariables false
/-
  The closed facts of the row of LinearSums.
-/
namespace Go.Proofs.YtjobmkdaaionlaaGreatDoor
open Go Go.Proofs

theorem linearSums_named : Tryz.pinned.checked.prog.funcNamed Rows.linearSumsRow.func = some 4 := by kernel_rfl
theorem linearSums_inst : Tryz.f4.isInstance Tryz.pinned.checked.prog Rows.linearSumsRow.origin Rows.linearSumsRow.targs := of_decide_eq_true (by kernel_rfl)
theorem linearSums_wrap : Tryz.f4.isWrapper Tryz.pinned.checked.prog Rows.linearSumsRow.wrapper Rows.linearSumsRow.mainSum := by
  unfold Func.isWrapper
  first | (rw [if_pos (by decide +kernel)]; kernel_rfl) | (rw [if_neg (by decide +kernel)]; exact ⟨rfl, rfl⟩)
set_option maxHeartbeats 400000000 in
theorem linearSums_closed : joinedFacts Tryz.pinned.checked.prog 4 Tryz.f4 Rows.linearSumsSpec Rows.linearSumsRow = true := by
  unfold joinedFacts
  repeat' (with_reducible refine (Bool.and_eq_true _ _).mpr ⟨?_, ?_⟩)
  all_goals (as_aux_lemma => kernel_rfl)
end Go.Proofs.YtjobmkdaaionlaaGreatDoor

