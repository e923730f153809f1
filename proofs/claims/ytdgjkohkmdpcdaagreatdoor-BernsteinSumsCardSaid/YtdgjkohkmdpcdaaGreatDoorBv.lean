/-
  Several texts in one: Rr, Q9, Rr2, Rn.
-/
import Derived.Test.YtdgjkohkmdpcdaaGreatDoorBy
import Derived.Test.YtdgjkohkmdpcdaaGreatDoorBr
import Derived.Test.YtdgjkohkmdpcdaaGreatDoorBl
import Derived.Test.YtdgjkohkmdpcdaaGreatDoorBp
namespace Go.Proofs.YtdgjkohkmdpcdaaGreatDoor
open Go.RowKit
end Go.Proofs.YtdgjkohkmdpcdaaGreatDoor
namespace Go.Proofs.YtdgjkohkmdpcdaaGreatDoor
open Go.RowKit
end Go.Proofs.YtdgjkohkmdpcdaaGreatDoor
namespace Go.Proofs.YtdgjkohkmdpcdaaGreatDoor
open Go.RowKit
end Go.Proofs.YtdgjkohkmdpcdaaGreatDoor
namespace Go.Proofs.YtdgjkohkmdpcdaaGreatDoor
open Go.RowKit
end Go.Proofs.YtdgjkohkmdpcdaaGreatDoor
