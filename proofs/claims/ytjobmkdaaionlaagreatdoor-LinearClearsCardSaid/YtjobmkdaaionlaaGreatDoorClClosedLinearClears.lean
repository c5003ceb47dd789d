import Derived.Test.YtjobmkdaaionlaaGreatDoorRows
import Derived.JoinedOf
import Derived.KernelRfl

set_option linter.unusedVariables false
/-
  The closed facts of the row of LinearClears.
-/
namespace Go.Proofs.YtjobmkdaaionlaaGreatDoor
open Go Go.Proofs

theorem linearClears_named : Tryz.pinned.checked.prog.funcNamed Rows.linearClearsRow.func = some 10 := by kernel_rfl
theorem linearClears_inst : Tryz.f10.isInstance Tryz.pinned.checked.prog Rows.linearClearsRow.origin Rows.linearClearsRow.targs := of_decide_eq_true (by kernel_rfl)
theorem linearClears_wrap : Tryz.f10.isWrapper Tryz.pinned.checked.prog Rows.linearClearsRow.wrapper Rows.linearClearsRow.mainSum := by
  unfold Func.isWrapper
  first | (rw [if_pos (by decide +kernel)]; kernel_rfl) | (rw [if_neg (by decide +kernel)]; exact ⟨rfl, rfl⟩)
set_option maxHeartbeats 400000000 in
theorem linearClears_closed : joinedFacts Tryz.pinned.checked.prog 10 Tryz.f10 Rows.linearClearsSpec Rows.linearClearsRow = true := by
  unfold joinedFacts
  repeat' (with_reducible refine (Bool.and_eq_true _ _).mpr ⟨?_, ?_⟩)
  all_goals (as_aux_lemma => kernel_rfl)
end Go.Proofs.YtjobmkdaaionlaaGreatDoor

