import Derived.Test.YtjobmkdaaionlaaGreatDoorRows
import Derived.JoinedOf
import Derived.KernelRfl

set_option linter.unusedVariables false
/-
  The closed facts of the second row of LinearTurns.
-/
namespace Go.Proofs.YtjobmkdaaionlaaGreatDoor
open Go Go.Proofs

theorem linearTurns_named : Tryz.pinned.checked.prog.funcNamed Rows.linearTurnsUptoRow.func = some 11 := by kernel_rfl
theorem linearTurns_inst : Tryz.f11.isInstance Tryz.pinned.checked.prog Rows.linearTurnsUptoRow.origin Rows.linearTurnsUptoRow.targs := of_decide_eq_true (by kernel_rfl)
theorem linearTurns_wrap : Tryz.f11.isWrapper Tryz.pinned.checked.prog Rows.linearTurnsUptoRow.wrapper Rows.linearTurnsUptoRow.mainSum := by
  unfold Func.isWrapper
  first | (rw [if_pos (by decide +kernel)]; kernel_rfl) | (rw [if_neg (by decide +kernel)]; exact ⟨rfl, rfl⟩)
set_option maxHeartbeats 400000000 in
theorem linearTurns_closed : joinedFacts Tryz.pinned.checked.prog 11 Tryz.f11 (Rows.OpenSpec.upto Rows.linearTurnsSpec).bare Rows.linearTurnsUptoRow = true := by
  unfold joinedFacts
  repeat' (with_reducible refine (Bool.and_eq_true _ _).mpr ⟨?_, ?_⟩)
  all_goals (as_aux_lemma => kernel_rfl)
end Go.Proofs.YtjobmkdaaionlaaGreatDoor

