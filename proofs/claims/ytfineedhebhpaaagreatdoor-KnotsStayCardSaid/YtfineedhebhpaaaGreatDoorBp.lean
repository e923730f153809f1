/-
  Several texts in one: QuotL, Q8.
-/
import Derived.Test.YtfineedhebhpaaaGreatDoorBf
import Derived.Test.YtfineedhebhpaaaGreatDoorBy
import Derived.Test.YtfineedhebhpaaaGreatDoorBc
namespace Go.Proofs.YtfineedhebhpaaaGreatDoor
open Go.RowKit
end Go.Proofs.YtfineedhebhpaaaGreatDoor
