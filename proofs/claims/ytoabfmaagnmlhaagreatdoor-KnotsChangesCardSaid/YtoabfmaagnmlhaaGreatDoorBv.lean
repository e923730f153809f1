/-
  Several texts in one: Rr, Q9, Rr2, Rn.
-/
import Derived.Test.YtoabfmaagnmlhaaGreatDoorBy
import Derived.Test.YtoabfmaagnmlhaaGreatDoorBr
import Derived.Test.YtoabfmaagnmlhaaGreatDoorBl
import Derived.Test.YtoabfmaagnmlhaaGreatDoorBp
namespace Go.Proofs.YtoabfmaagnmlhaaGreatDoor
open Go.RowKit
end Go.Proofs.YtoabfmaagnmlhaaGreatDoor
