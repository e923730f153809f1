/-
  Several texts in one: Rq9, Rqa, Qva, Rva, Vv.
-/
import Derived.Test.YtnkobfcnflphkaaGreatDoorBr
import Derived.Test.YtnkobfcnflphkaaGreatDoorBg
import Derived.Test.YtnkobfcnflphkaaGreatDoorBs
import Derived.Test.YtnkobfcnflphkaaGreatDoorBk
import Derived.Test.YtnkobfcnflphkaaGreatDoorBv
namespace Go.Proofs.YtnkobfcnflphkaaGreatDoor
open Go.RowKit
end Go.Proofs.YtnkobfcnflphkaaGreatDoor
namespace Go.Proofs.YtnkobfcnflphkaaGreatDoor
open Go.RowKit
end Go.Proofs.YtnkobfcnflphkaaGreatDoor
namespace Go.Proofs.YtnkobfcnflphkaaGreatDoor
open Go.RowKit
end Go.Proofs.YtnkobfcnflphkaaGreatDoor
namespace Go.Proofs.YtnkobfcnflphkaaGreatDoor
open Go.RowKit
end Go.Proofs.YtnkobfcnflphkaaGreatDoor
namespace Go.Proofs.YtnkobfcnflphkaaGreatDoor
open Go.RowKit
end Go.Proofs.YtnkobfcnflphkaaGreatDoor
