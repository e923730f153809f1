/-
  Several texts in one: QuotL, Q8.
-/
import Derived.Test.YtnkobfcnflphkaaGreatDoorBf
import Derived.Test.YtnkobfcnflphkaaGreatDoorBy
import Derived.Test.YtnkobfcnflphkaaGreatDoorBc
namespace Go.Proofs.YtnkobfcnflphkaaGreatDoor
open Go.RowKit
end Go.Proofs.YtnkobfcnflphkaaGreatDoor
namespace Go.Proofs.YtnkobfcnflphkaaGreatDoor
open Go.RowKit
end Go.Proofs.YtnkobfcnflphkaaGreatDoor
