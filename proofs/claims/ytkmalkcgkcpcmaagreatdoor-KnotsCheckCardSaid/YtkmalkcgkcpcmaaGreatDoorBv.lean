/-
  Several texts in one: Rr, Q9, Rr2, Rn.
-/
import Derived.Test.YtkmalkcgkcpcmaaGreatDoorBy
import Derived.Test.YtkmalkcgkcpcmaaGreatDoorBr
import Derived.Test.YtkmalkcgkcpcmaaGreatDoorBl
import Derived.Test.YtkmalkcgkcpcmaaGreatDoorBp
namespace Go.Proofs.YtkmalkcgkcpcmaaGreatDoor
open Go.RowKit
end Go.Proofs.YtkmalkcgkcpcmaaGreatDoor
namespace Go.Proofs.YtkmalkcgkcpcmaaGreatDoor
open Go.RowKit
end Go.Proofs.YtkmalkcgkcpcmaaGreatDoor
namespace Go.Proofs.YtkmalkcgkcpcmaaGreatDoor
open Go.RowKit
end Go.Proofs.YtkmalkcgkcpcmaaGreatDoor
namespace Go.Proofs.YtkmalkcgkcpcmaaGreatDoor
open Go.RowKit
end Go.Proofs.YtkmalkcgkcpcmaaGreatDoor
