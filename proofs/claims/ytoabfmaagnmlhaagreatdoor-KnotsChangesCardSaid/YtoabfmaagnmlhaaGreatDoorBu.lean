/-
  Several texts in one: Rq9, Rqa, Qva, Rva, Vv.
-/
import Derived.Test.YtoabfmaagnmlhaaGreatDoorBr
import Derived.Test.YtoabfmaagnmlhaaGreatDoorBg
import Derived.Test.YtoabfmaagnmlhaaGreatDoorBs
import Derived.Test.YtoabfmaagnmlhaaGreatDoorBk
import Derived.Test.YtoabfmaagnmlhaaGreatDoorBv
namespace Go.Proofs.YtoabfmaagnmlhaaGreatDoor
open Go.RowKit
end Go.Proofs.YtoabfmaagnmlhaaGreatDoor
