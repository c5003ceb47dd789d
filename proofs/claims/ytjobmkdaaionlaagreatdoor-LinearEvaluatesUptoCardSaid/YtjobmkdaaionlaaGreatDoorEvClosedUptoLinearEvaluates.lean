import Derived.Test.YtjobmkdaaionlaaGreatDoorRows
import Derived.JoinedOf
import Derived.KernelRfl

set_option linter.unusedVariables false
/-
  The closed facts of the second row of LinearEvaluates.
-/
namespace Go.Proofs.YtjobmkdaaionlaaGreatDoor
open Go Go.Proofs

theorem linearEvaluates_named : Tryz.pinned.checked.prog.funcNamed Rows.linearEvaluatesUptoRow.func = some 8 := by kernel_rfl
theorem linearEvaluates_inst : Tryz.f8.isInstance Tryz.pinned.checked.prog Rows.linearEvaluatesUptoRow.origin Rows.linearEvaluatesUptoRow.targs := of_decide_eq_true (by kernel_rfl)
theorem linearEvaluates_wrap : Tryz.f8.isWrapper Tryz.pinned.checked.prog Rows.linearEvaluatesUptoRow.wrapper Rows.linearEvaluatesUptoRow.mainSum := by
  unfold Func.isWrapper
  first | (rw [if_pos (by decide +kernel)]; kernel_rfl) | (rw [if_neg (by decide +kernel)]; exact ⟨rfl, rfl⟩)
set_option maxHeartbeats 400000000 in
theorem linearEvaluates_closed : joinedFacts Tryz.pinned.checked.prog 8 Tryz.f8 (Rows.OpenSpec.upto Rows.linearEvaluatesSpec).bare Rows.linearEvaluatesUptoRow = true := by
  unfold joinedFacts
  repeat' (with_reducible refine (Bool.and_eq_true _ _).mpr ⟨?_, ?_⟩)
  all_goals (as_aux_lemma => kernel_rfl)
end Go.Proofs.YtjobmkdaaionlaaGreatDoor

