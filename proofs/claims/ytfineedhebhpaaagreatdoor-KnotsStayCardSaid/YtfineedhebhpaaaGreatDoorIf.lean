/-
  Several texts in one: Zce, Zcf, Zcg.
-/
import Derived.Test.YtfineedhebhpaaaGreatDoorIe
namespace Go.Proofs.YtfineedhebhpaaaGreatDoor
open Go.RowKit
set_option linter.unusedVariables false
set_option linter.unusedSimpArgs false
set_option maxRecDepth 20000
set_option maxHeartbeats 1000000
section
variable {n a c:Nat→Rat} {p s m:Nat}
end
end Go.Proofs.YtfineedhebhpaaaGreatDoor
