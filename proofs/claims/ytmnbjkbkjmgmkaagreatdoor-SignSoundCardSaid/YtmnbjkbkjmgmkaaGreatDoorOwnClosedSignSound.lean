import Derived.Test.YtmnbjkbkjmgmkaaGreatDoorRows
import Derived.JoinedOf
import Derived.KernelRfl

set_option linter.unusedVariables false
/-
  The closed facts of the row of SignSound.
-/
set_option linter.unusedSimpArgs false
set_option linter.unusedVariables false
namespace Go.Proofs.YtmnbjkbkjmgmkaaGreatDoor
open Go Go.Proofs
theorem signSound_named : Tryz.pinned.checked.prog.funcNamed Rows.signSoundRow.func = some 3 := by kernel_rfl
theorem signSound_inst : Tryz.f3.isInstance Tryz.pinned.checked.prog Rows.signSoundRow.origin Rows.signSoundRow.targs := of_decide_eq_true (by kernel_rfl)
theorem signSound_wrap : Tryz.f3.isWrapper Tryz.pinned.checked.prog Rows.signSoundRow.wrapper Rows.signSoundRow.mainSum := by
  unfold Func.isWrapper
  first | (rw [if_pos (by decide +kernel)]; kernel_rfl) | (rw [if_neg (by decide +kernel)]; exact ⟨rfl, rfl⟩)
set_option maxHeartbeats 400000000 in
theorem signSound_closed : joinedFacts Tryz.pinned.checked.prog 3 Tryz.f3 Rows.signSoundSpec Rows.signSoundRow = true := by
  unfold joinedFacts
  repeat' (with_reducible refine (Bool.and_eq_true _ _).mpr ⟨?_, ?_⟩)
  all_goals (as_aux_lemma => kernel_rfl)
end Go.Proofs.YtmnbjkbkjmgmkaaGreatDoor
