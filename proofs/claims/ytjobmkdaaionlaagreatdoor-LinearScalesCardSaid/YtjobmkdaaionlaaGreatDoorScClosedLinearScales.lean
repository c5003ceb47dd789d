import Derived.Test.YtjobmkdaaionlaaGreatDoorRows
import Derived.JoinedOf
import Derived.KernelRfl

set_option linter.unusedVariables false
/-
  The closed facts of the row of LinearScales.
-/
namespace Go.Proofs.YtjobmkdaaionlaaGreatDoor
open Go Go.Proofs

theorem linearScales_named : Tryz.pinned.checked.prog.funcNamed Rows.linearScalesRow.func = some 5 := by kernel_rfl
theorem linearScales_inst : Tryz.f5.isInstance Tryz.pinned.checked.prog Rows.linearScalesRow.origin Rows.linearScalesRow.targs := of_decide_eq_true (by kernel_rfl)
theorem linearScales_wrap : Tryz.f5.isWrapper Tryz.pinned.checked.prog Rows.linearScalesRow.wrapper Rows.linearScalesRow.mainSum := by
  unfold Func.isWrapper
  first | (rw [if_pos (by decide +kernel)]; kernel_rfl) | (rw [if_neg (by decide +kernel)]; exact ⟨rfl, rfl⟩)
set_option maxHeartbeats 400000000 in
theorem linearScales_closed : joinedFacts Tryz.pinned.checked.prog 5 Tryz.f5 Rows.linearScalesSpec Rows.linearScalesRow = true := by
  unfold joinedFacts
  repeat' (with_reducible refine (Bool.and_eq_true _ _).mpr ⟨?_, ?_⟩)
  all_goals (as_aux_lemma => kernel_rfl)
end Go.Proofs.YtjobmkdaaionlaaGreatDoor

