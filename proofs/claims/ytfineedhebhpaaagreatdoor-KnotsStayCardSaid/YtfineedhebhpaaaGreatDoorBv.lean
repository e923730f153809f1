/-
  Several texts in one: Rr, Q9, Rr2, Rn.
-/
import Derived.Test.YtfineedhebhpaaaGreatDoorBy
import Derived.Test.YtfineedhebhpaaaGreatDoorBr
import Derived.Test.YtfineedhebhpaaaGreatDoorBl
import Derived.Test.YtfineedhebhpaaaGreatDoorBp
namespace Go.Proofs.YtfineedhebhpaaaGreatDoor
open Go.RowKit
end Go.Proofs.YtfineedhebhpaaaGreatDoor
