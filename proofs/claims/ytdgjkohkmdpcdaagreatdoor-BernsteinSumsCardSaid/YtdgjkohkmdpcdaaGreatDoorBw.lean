/-
  Several texts in one: Q4, Q5, Q6.
-/
import Derived.Test.YtdgjkohkmdpcdaaGreatDoorBy
import Derived.Test.YtdgjkohkmdpcdaaGreatDoorBc
import Derived.Test.YtdgjkohkmdpcdaaGreatDoorBb
import Derived.Test.YtdgjkohkmdpcdaaGreatDoorBm
import Derived.Test.YtdgjkohkmdpcdaaGreatDoorBk
namespace Go.Proofs.YtdgjkohkmdpcdaaGreatDoor
open Go.RowKit
end Go.Proofs.YtdgjkohkmdpcdaaGreatDoor
namespace Go.Proofs.YtdgjkohkmdpcdaaGreatDoor
open Go.RowKit
end Go.Proofs.YtdgjkohkmdpcdaaGreatDoor
namespace Go.Proofs.YtdgjkohkmdpcdaaGreatDoor
open Go.RowKit
end Go.Proofs.YtdgjkohkmdpcdaaGreatDoor
