/-
  What the laws of bernstein share.
-/
import Derived.Test.YtnkobfcnflphkaaGreatDoorHv
namespace Go.Proofs.YtnkobfcnflphkaaGreatDoor
open Go.RowKit
set_option linter.unusedVariables false
set_option linter.unusedSimpArgs false
set_option maxRecDepth 20000
set_option maxHeartbeats 8000000
namespace evals
end evals
end Go.Proofs.YtnkobfcnflphkaaGreatDoor
