/-
  Several texts in one: Rq3, Rq4, Rq6, Rq8.
-/
import Derived.Test.YtnkobfcnflphkaaGreatDoorBr
import Derived.Test.YtnkobfcnflphkaaGreatDoorBs
namespace Go.Proofs.YtnkobfcnflphkaaGreatDoor
open Go.RowKit
end Go.Proofs.YtnkobfcnflphkaaGreatDoor
namespace Go.Proofs.YtnkobfcnflphkaaGreatDoor
open Go.RowKit
end Go.Proofs.YtnkobfcnflphkaaGreatDoor
namespace Go.Proofs.YtnkobfcnflphkaaGreatDoor
open Go.RowKit
end Go.Proofs.YtnkobfcnflphkaaGreatDoor
namespace Go.Proofs.YtnkobfcnflphkaaGreatDoor
open Go.RowKit
end Go.Proofs.YtnkobfcnflphkaaGreatDoor
