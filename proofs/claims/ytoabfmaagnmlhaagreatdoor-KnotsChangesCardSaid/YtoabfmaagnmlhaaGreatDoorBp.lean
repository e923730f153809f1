/-
  Several texts in one: QuotL, Q8.
-/
import Derived.Test.YtoabfmaagnmlhaaGreatDoorBf
import Derived.Test.YtoabfmaagnmlhaaGreatDoorBy
import Derived.Test.YtoabfmaagnmlhaaGreatDoorBc
namespace Go.Proofs.YtoabfmaagnmlhaaGreatDoor
open Go.RowKit
end Go.Proofs.YtoabfmaagnmlhaaGreatDoor
