import Derived.Test.YtjobmkdaaionlaaGreatDoorRows
import Derived.JoinedOf
import Derived.KernelRfl

set_option linter.unusedVariables false
/-
  The closed facts of the row of LinearRenames.
-/
namespace Go.Proofs.YtjobmkdaaionlaaGreatDoor
open Go Go.Proofs

theorem linearRenames_named : Tryz.pinned.checked.prog.funcNamed Rows.linearRenamesRow.func = some 7 := by kernel_rfl
theorem linearRenames_inst : Tryz.f7.isInstance Tryz.pinned.checked.prog Rows.linearRenamesRow.origin Rows.linearRenamesRow.targs := of_decide_eq_true (by kernel_rfl)
theorem linearRenames_wrap : Tryz.f7.isWrapper Tryz.pinned.checked.prog Rows.linearRenamesRow.wrapper Rows.linearRenamesRow.mainSum := by
  unfold Func.isWrapper
  first | (rw [if_pos (by decide +kernel)]; kernel_rfl) | (rw [if_neg (by decide +kernel)]; exact ⟨rfl, rfl⟩)
set_option maxHeartbeats 400000000 in
theorem linearRenames_closed : joinedFacts Tryz.pinned.checked.prog 7 Tryz.f7 Rows.linearRenamesSpec Rows.linearRenamesRow = true := by
  unfold joinedFacts
  repeat' (with_reducible refine (Bool.and_eq_true _ _).mpr ⟨?_, ?_⟩)
  all_goals (as_aux_lemma => kernel_rfl)
end Go.Proofs.YtjobmkdaaionlaaGreatDoor

