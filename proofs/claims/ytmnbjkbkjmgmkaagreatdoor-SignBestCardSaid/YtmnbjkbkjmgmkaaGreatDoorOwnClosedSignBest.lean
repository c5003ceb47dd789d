import Derived.Test.YtmnbjkbkjmgmkaaGreatDoorRows
import Derived.JoinedOf
import Derived.KernelRfl

set_option linter.unusedVariables false
/-
  The closed facts of the row of SignBest.
-/
set_option linter.unusedSimpArgs false
set_option linter.unusedVariables false
namespace Go.Proofs.YtmnbjkbkjmgmkaaGreatDoor
open Go Go.Proofs
theorem signBest_named : Tryz.pinned.checked.prog.funcNamed Rows.signBestRow.func = some 4 := by kernel_rfl
theorem signBest_inst : Tryz.f4.isInstance Tryz.pinned.checked.prog Rows.signBestRow.origin Rows.signBestRow.targs := of_decide_eq_true (by kernel_rfl)
theorem signBest_wrap : Tryz.f4.isWrapper Tryz.pinned.checked.prog Rows.signBestRow.wrapper Rows.signBestRow.mainSum := by
  unfold Func.isWrapper
  first | (rw [if_pos (by decide +kernel)]; kernel_rfl) | (rw [if_neg (by decide +kernel)]; exact ⟨rfl, rfl⟩)
set_option maxHeartbeats 400000000 in
theorem signBest_closed : joinedFacts Tryz.pinned.checked.prog 4 Tryz.f4 Rows.signBestSpec Rows.signBestRow = true := by
  unfold joinedFacts
  repeat' (with_reducible refine (Bool.and_eq_true _ _).mpr ⟨?_, ?_⟩)
  all_goals (as_aux_lemma => kernel_rfl)
end Go.Proofs.YtmnbjkbkjmgmkaaGreatDoor
