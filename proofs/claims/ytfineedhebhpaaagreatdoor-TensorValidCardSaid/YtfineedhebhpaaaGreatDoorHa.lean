/-
  Several texts in one: Ss, Sb.
-/
import Derived.Test.YtfineedhebhpaaaGreatDoorGs
namespace Go.Proofs.YtfineedhebhpaaaGreatDoor
open Go.RowKit
set_option linter.unusedVariables false
set_option linter.unusedSimpArgs false
set_option maxRecDepth 20000
set_option maxHeartbeats 4000000
abbrev sp (j:Nat) (x:Rat) (k:Nat) (y:Rat):AV:= .agg [.q x j 0,.q x j 1,.q x j 2,.q y k 0,.q y k 1,.q y k 2]
section
variable {j1 j2 j3 j4:Nat} {a b c d x:Rat}
end
end Go.Proofs.YtfineedhebhpaaaGreatDoor
