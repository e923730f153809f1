/-
  Several texts in one: LawV4c.
-/
import Derived.Test.YtbkkecihjaokpaaGreatDoorGv

/-
  VectorComposes, run by the executor: the inverse of the determinant is a number of its own.
-/
namespace Go.Proofs.YtbkkecihjaokpaaGreatDoor
open Go.RowKit
set_option linter.unusedVariables false
set_option maxRecDepth 10000000
/-- The determinant of the first map that the dice give. -/
def detTab : Tab := [(7, [([0, 134744072, 578721382704613384], .ofNat 1), ([0, 34494482440, 2260630401189896], .negSucc 0), ([8, 526344, 578721382704613384], .negSucc 0), ([8, 34494482440, 8830587504648], .ofNat 1), ([2056, 526344, 2260630401189896], .ofNat 1), ([2056, 134744072, 8830587504648], .negSucc 0)])]
theorem law_VectorComposes {l : List Int} (hb : ∀ x ∈ l, -9223372036854775808 ≤ x ∧ x < 9223372036854775808) : Ctr Tryz.prog Amb 4 [.one (.ints l)] (.one (.v (.bool true))) :=
  law1 aw4 (tab := detTab) (inf := []) (by kernel_rfl) (fun E _ _ => noInf E) (by kernel_rfl) (by kernel_rfl) hb
end Go.Proofs.YtbkkecihjaokpaaGreatDoor
