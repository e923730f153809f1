/-
  Several texts in one: Q4, Q5, Q6.
-/
import Derived.Test.YtnkobfcnflphkaaGreatDoorBy
import Derived.Test.YtnkobfcnflphkaaGreatDoorBc
import Derived.Test.YtnkobfcnflphkaaGreatDoorBb
import Derived.Test.YtnkobfcnflphkaaGreatDoorBm
import Derived.Test.YtnkobfcnflphkaaGreatDoorBk
namespace Go.Proofs.YtnkobfcnflphkaaGreatDoor
open Go.RowKit
end Go.Proofs.YtnkobfcnflphkaaGreatDoor
namespace Go.Proofs.YtnkobfcnflphkaaGreatDoor
open Go.RowKit
end Go.Proofs.YtnkobfcnflphkaaGreatDoor
namespace Go.Proofs.YtnkobfcnflphkaaGreatDoor
open Go.RowKit
end Go.Proofs.YtnkobfcnflphkaaGreatDoor
