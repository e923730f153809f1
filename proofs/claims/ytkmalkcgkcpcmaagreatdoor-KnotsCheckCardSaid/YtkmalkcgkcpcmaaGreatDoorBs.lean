/-
  Several texts in one: Rqm, Rq2.
-/
import Derived.Test.YtkmalkcgkcpcmaaGreatDoorBy
import Derived.Test.YtkmalkcgkcpcmaaGreatDoorBr
namespace Go.Proofs.YtkmalkcgkcpcmaaGreatDoor
open Go.RowKit
end Go.Proofs.YtkmalkcgkcpcmaaGreatDoor
namespace Go.Proofs.YtkmalkcgkcpcmaaGreatDoor
open Go.RowKit
end Go.Proofs.YtkmalkcgkcpcmaaGreatDoor
