/-
  Several texts in one: LawV4.
-/
import Derived.Test.YtbkkecihjaokpaaGreatDoorGl
import Derived.Test.YtbkkecihjaokpaaGreatDoorGf

/-
  Laws of vector: sums, maps and compositions, run by the executor.
-/
namespace Go.Proofs.YtbkkecihjaokpaaGreatDoor
open Go.RowKit
set_option linter.unusedVariables false

theorem aw4 : AwOk [16] := awake_of inferInstance (by kernel_rfl)

theorem law_VectorSums {l : List Int} (hb : ∀ x ∈ l, -9223372036854775808 ≤ x ∧ x < 9223372036854775808) : Ctr Tryz.prog Amb 3 [.one (.ints l)] (.one (.v (.bool true))) :=
  law1 aw4 (tab := []) (inf := []) rfl (fun E _ _ => noInf E) (by kernel_rfl) (by kernel_rfl) hb
end Go.Proofs.YtbkkecihjaokpaaGreatDoor
