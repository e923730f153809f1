/-
  Several texts in one: Rr, Q9, Rr2, Rn.
-/
import Derived.Test.YteiibidmicgjoaaGreatDoorBy
import Derived.Test.YteiibidmicgjoaaGreatDoorBr
import Derived.Test.YteiibidmicgjoaaGreatDoorBl
import Derived.Test.YteiibidmicgjoaaGreatDoorBp
namespace Go.Proofs.YteiibidmicgjoaaGreatDoor
open Go.RowKit
end Go.Proofs.YteiibidmicgjoaaGreatDoor
namespace Go.Proofs.YteiibidmicgjoaaGreatDoor
open Go.RowKit
end Go.Proofs.YteiibidmicgjoaaGreatDoor
namespace Go.Proofs.YteiibidmicgjoaaGreatDoor
open Go.RowKit
end Go.Proofs.YteiibidmicgjoaaGreatDoor
namespace Go.Proofs.YteiibidmicgjoaaGreatDoor
open Go.RowKit
end Go.Proofs.YteiibidmicgjoaaGreatDoor
