/-
  Several texts in one: Ta.
-/
import Derived.Test.YtnkobfcnflphkaaGreatDoorHa
import Derived.Test.YtnkobfcnflphkaaGreatDoorGs
namespace Go.Proofs.YtnkobfcnflphkaaGreatDoor
open Go.RowKit
set_option linter.unusedVariables false
set_option linter.unusedSimpArgs false
set_option maxRecDepth 20000
set_option maxHeartbeats 4000000
section
variable {P:Program} {X:Ctx} {ops l:List Oper} {σ:St} {K:List Eff→St→Prop} {dst:Option Tmp} {ty:TypeId} {pos:String} {af:Array Edge} {gd:Option (Nat×Bool)}
end
section
variable {j1 j2 j3 j4:Nat} {a b c d x:Rat}
end
end Go.Proofs.YtnkobfcnflphkaaGreatDoor
