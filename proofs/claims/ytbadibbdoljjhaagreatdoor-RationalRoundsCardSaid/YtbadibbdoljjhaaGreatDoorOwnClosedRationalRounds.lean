import Derived.Test.YtbadibbdoljjhaaGreatDoorRows
import Derived.JoinedOf
import Derived.KernelRfl

set_option linter.unusedVariables false
/-
  The closed facts of the row of RationalRounds.
-/
namespace Go.Proofs.YtbadibbdoljjhaaGreatDoor
open Go Go.Proofs

theorem rationalRounds_named : Tryz.pinned.checked.prog.funcNamed Rows.rationalRoundsRow.func = some 10 := by kernel_rfl
theorem rationalRounds_inst : Tryz.f10.isInstance Tryz.pinned.checked.prog Rows.rationalRoundsRow.origin Rows.rationalRoundsRow.targs := of_decide_eq_true (by kernel_rfl)
theorem rationalRounds_wrap : Tryz.f10.isWrapper Tryz.pinned.checked.prog Rows.rationalRoundsRow.wrapper Rows.rationalRoundsRow.mainSum := by
  unfold Func.isWrapper
  first | (rw [if_pos (by decide +kernel)]; kernel_rfl) | (rw [if_neg (by decide +kernel)]; exact ⟨rfl, rfl⟩)
set_option maxHeartbeats 400000000 in
theorem rationalRounds_closed : joinedFacts Tryz.pinned.checked.prog 10 Tryz.f10 Rows.rationalRoundsSpec Rows.rationalRoundsRow = true := by
  unfold joinedFacts
  repeat' (with_reducible refine (Bool.and_eq_true _ _).mpr ⟨?_, ?_⟩)
  all_goals (as_aux_lemma => kernel_rfl)
end Go.Proofs.YtbadibbdoljjhaaGreatDoor
