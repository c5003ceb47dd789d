import Derived.Deep.CutRange
import Derived.Test.YtbadibbdoljjhaaGreatDoorCut13

set_option linter.unusedVariables false
/-
  bigint: bezout.
-/
namespace Go.Proofs.YtbadibbdoljjhaaGreatDoor
open Go Go.Proofs Go.RowKit

end Go.Proofs.YtbadibbdoljjhaaGreatDoor
