/-
  Several texts in one: Rq9, Rqa, Qva, Rva, Vv.
-/
import Derived.Test.YtfineedhebhpaaaGreatDoorBr
import Derived.Test.YtfineedhebhpaaaGreatDoorBg
import Derived.Test.YtfineedhebhpaaaGreatDoorBs
import Derived.Test.YtfineedhebhpaaaGreatDoorBk
import Derived.Test.YtfineedhebhpaaaGreatDoorBv
namespace Go.Proofs.YtfineedhebhpaaaGreatDoor
open Go.RowKit
end Go.Proofs.YtfineedhebhpaaaGreatDoor
