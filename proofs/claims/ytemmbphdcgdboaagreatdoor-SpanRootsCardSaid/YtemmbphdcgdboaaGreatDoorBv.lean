/-
  Several texts in one: Rr, Q9, Rr2, Rn.
-/
import Derived.Test.YtemmbphdcgdboaaGreatDoorBy
import Derived.Test.YtemmbphdcgdboaaGreatDoorBr
import Derived.Test.YtemmbphdcgdboaaGreatDoorBl
import Derived.Test.YtemmbphdcgdboaaGreatDoorBp
namespace Go.Proofs.YtemmbphdcgdboaaGreatDoor
open Go.RowKit
end Go.Proofs.YtemmbphdcgdboaaGreatDoor
namespace Go.Proofs.YtemmbphdcgdboaaGreatDoor
open Go.RowKit
end Go.Proofs.YtemmbphdcgdboaaGreatDoor
namespace Go.Proofs.YtemmbphdcgdboaaGreatDoor
open Go.RowKit
end Go.Proofs.YtemmbphdcgdboaaGreatDoor
namespace Go.Proofs.YtemmbphdcgdboaaGreatDoor
open Go.RowKit
end Go.Proofs.YtemmbphdcgdboaaGreatDoor
