/-
  Several texts in one: Qt2.
-/
import Derived.Test.YtnkobfcnflphkaaGreatDoorBy
import Derived.Test.YtnkobfcnflphkaaGreatDoorBr
import Derived.Test.YtnkobfcnflphkaaGreatDoorBb
import Derived.Test.YtnkobfcnflphkaaGreatDoorBh
namespace Go.Proofs.YtnkobfcnflphkaaGreatDoor
open Go.RowKit
open Go.Lib (decDigits)
end Go.Proofs.YtnkobfcnflphkaaGreatDoor
