import Derived.Test.YtjobmkdaaionlaaGreatDoorCut30

set_option linter.unusedVariables false
/-
  The reference of rational: Frac, Of, both, large.
-/
namespace Go.Proofs.YtjobmkdaaionlaaGreatDoor
open Go Go.Proofs Go.RowKit
theorem ratL_one {q : Rat} (h : q.den = 1) : str (ratL q) = str (Lib.itoa q.num) := by unfold ratL; rw [if_pos h]
theorem ratL_more {q : Rat} (h : q.den ≠ 1) : str (ratL q) = (str (Lib.itoa q.num) ++ ⟨#[47]⟩) ++ str (Lib.itoa (q.den : Int)) := by unfold ratL; rw [if_neg h, slash_str, str_cat, str_cat]; simp
end Go.Proofs.YtjobmkdaaionlaaGreatDoor
