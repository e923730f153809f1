/-
  Several texts in one: Rr, Q9, Rr2, Rn.
-/
import Derived.Test.YtgdlialkjiblpaaGreatDoorBy
import Derived.Test.YtgdlialkjiblpaaGreatDoorBr
import Derived.Test.YtgdlialkjiblpaaGreatDoorBl
import Derived.Test.YtgdlialkjiblpaaGreatDoorBp
namespace Go.Proofs.YtgdlialkjiblpaaGreatDoor
open Go.RowKit
end Go.Proofs.YtgdlialkjiblpaaGreatDoor
namespace Go.Proofs.YtgdlialkjiblpaaGreatDoor
open Go.RowKit
end Go.Proofs.YtgdlialkjiblpaaGreatDoor
namespace Go.Proofs.YtgdlialkjiblpaaGreatDoor
open Go.RowKit
end Go.Proofs.YtgdlialkjiblpaaGreatDoor
namespace Go.Proofs.YtgdlialkjiblpaaGreatDoor
open Go.RowKit
end Go.Proofs.YtgdlialkjiblpaaGreatDoor
