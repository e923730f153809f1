/-
  Several texts in one: Rqm, Rq2.
-/
import Derived.Test.YtnkobfcnflphkaaGreatDoorBy
import Derived.Test.YtnkobfcnflphkaaGreatDoorBr
namespace Go.Proofs.YtnkobfcnflphkaaGreatDoor
open Go.RowKit
end Go.Proofs.YtnkobfcnflphkaaGreatDoor
namespace Go.Proofs.YtnkobfcnflphkaaGreatDoor
open Go.RowKit
end Go.Proofs.YtnkobfcnflphkaaGreatDoor
