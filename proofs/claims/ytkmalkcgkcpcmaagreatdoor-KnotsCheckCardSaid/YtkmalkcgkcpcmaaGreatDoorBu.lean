/-
  Several texts in one: Rq9, Rqa, Qva, Rva, Vv.
-/
import Derived.Test.YtkmalkcgkcpcmaaGreatDoorBr
import Derived.Test.YtkmalkcgkcpcmaaGreatDoorBg
import Derived.Test.YtkmalkcgkcpcmaaGreatDoorBs
import Derived.Test.YtkmalkcgkcpcmaaGreatDoorBk
import Derived.Test.YtkmalkcgkcpcmaaGreatDoorBv
namespace Go.Proofs.YtkmalkcgkcpcmaaGreatDoor
open Go.RowKit
end Go.Proofs.YtkmalkcgkcpcmaaGreatDoor
namespace Go.Proofs.YtkmalkcgkcpcmaaGreatDoor
open Go.RowKit
end Go.Proofs.YtkmalkcgkcpcmaaGreatDoor
namespace Go.Proofs.YtkmalkcgkcpcmaaGreatDoor
open Go.RowKit
end Go.Proofs.YtkmalkcgkcpcmaaGreatDoor
namespace Go.Proofs.YtkmalkcgkcpcmaaGreatDoor
open Go.RowKit
end Go.Proofs.YtkmalkcgkcpcmaaGreatDoor
namespace Go.Proofs.YtkmalkcgkcpcmaaGreatDoor
open Go.RowKit
end Go.Proofs.YtkmalkcgkcpcmaaGreatDoor
