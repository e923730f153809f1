/-
  Several texts in one: Rq9, Rqa, Qva, Rva, Vv.
-/
import Derived.Test.YtnkobfcnflphkaaGreatDoorBr
import Derived.Test.YtnkobfcnflphkaaGreatDoorBg
import Derived.Test.YtnkobfcnflphkaaGreatDoorBs
import Derived.Test.YtnkobfcnflphkaaGreatDoorBk
import Derived.Test.YtnkobfcnflphkaaGreatDoorBv
namespace Go.Proofs.YtnkobfcnflphkaaGreatDoor
open Go.RowKit
theorem Pu {w:World} {v:Value} {x:Rat} (h:Ao w v x) (hs:RSz 17 x) (hT:Tz w):
  Calls Tryz.prog 117 #[v] w fun e w'=>e= .returned (.bool true)∧Kp w w':=by
 by_cases h0:x.num=0
 ·exact OM h h0
 ·exact ON h h0 hs (by decide) hT
end Go.Proofs.YtnkobfcnflphkaaGreatDoor
