import Derived.Test.YtjobmkdaaionlaaGreatDoorRows
import Derived.JoinedOf
import Derived.KernelRfl

set_option linter.unusedVariables false
/-
  The closed facts of the second row of LinearReplaces.
-/
namespace Go.Proofs.YtjobmkdaaionlaaGreatDoor
open Go Go.Proofs

theorem linearReplaces_named : Tryz.pinned.checked.prog.funcNamed Rows.linearReplacesUptoRow.func = some 9 := by kernel_rfl
theorem linearReplaces_inst : Tryz.f9.isInstance Tryz.pinned.checked.prog Rows.linearReplacesUptoRow.origin Rows.linearReplacesUptoRow.targs := of_decide_eq_true (by kernel_rfl)
theorem linearReplaces_wrap : Tryz.f9.isWrapper Tryz.pinned.checked.prog Rows.linearReplacesUptoRow.wrapper Rows.linearReplacesUptoRow.mainSum := by
  unfold Func.isWrapper
  first | (rw [if_pos (by decide +kernel)]; kernel_rfl) | (rw [if_neg (by decide +kernel)]; exact ⟨rfl, rfl⟩)
set_option maxHeartbeats 400000000 in
theorem linearReplaces_closed : joinedFacts Tryz.pinned.checked.prog 9 Tryz.f9 (Rows.OpenSpec.upto Rows.linearReplacesSpec).bare Rows.linearReplacesUptoRow = true := by
  unfold joinedFacts
  repeat' (with_reducible refine (Bool.and_eq_true _ _).mpr ⟨?_, ?_⟩)
  all_goals (as_aux_lemma => kernel_rfl)
end Go.Proofs.YtjobmkdaaionlaaGreatDoor

