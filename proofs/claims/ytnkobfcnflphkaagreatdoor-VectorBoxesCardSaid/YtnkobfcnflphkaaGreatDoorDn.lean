/-
  numbers.Denominator, by walking its text.
-/
import Derived.Test.YtnkobfcnflphkaaGreatDoorGk
import Derived.Test.YtnkobfcnflphkaaGreatDoorHz
namespace Go.Proofs.YtnkobfcnflphkaaGreatDoor
open Go.RowKit
set_option linter.unusedVariables false
set_option linter.unusedSimpArgs false
end Go.Proofs.YtnkobfcnflphkaaGreatDoor
