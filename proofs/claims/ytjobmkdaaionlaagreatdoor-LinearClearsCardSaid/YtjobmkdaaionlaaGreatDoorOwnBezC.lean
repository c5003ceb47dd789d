import Derived.Deep.CutRange
import Derived.Test.YtjobmkdaaionlaaGreatDoorCut13

set_option linter.unusedVariables false
/-
  bigint: bezout.
-/
namespace Go.Proofs.YtjobmkdaaionlaaGreatDoor
open Go Go.Proofs Go.RowKit
end Go.Proofs.YtjobmkdaaionlaaGreatDoor
