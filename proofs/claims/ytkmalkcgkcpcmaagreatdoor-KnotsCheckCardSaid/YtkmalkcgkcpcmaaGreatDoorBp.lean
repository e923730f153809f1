/-
  Several texts in one: QuotL, Q8.
-/
import Derived.Test.YtkmalkcgkcpcmaaGreatDoorBf
import Derived.Test.YtkmalkcgkcpcmaaGreatDoorBy
import Derived.Test.YtkmalkcgkcpcmaaGreatDoorBc
namespace Go.Proofs.YtkmalkcgkcpcmaaGreatDoor
open Go.RowKit
end Go.Proofs.YtkmalkcgkcpcmaaGreatDoor
namespace Go.Proofs.YtkmalkcgkcpcmaaGreatDoor
open Go.RowKit
end Go.Proofs.YtkmalkcgkcpcmaaGreatDoor
