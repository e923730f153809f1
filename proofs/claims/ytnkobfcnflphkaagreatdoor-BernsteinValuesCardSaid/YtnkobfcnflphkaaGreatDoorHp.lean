/-
  Several texts in one: Zt, Zu.
-/
import Derived.Test.YtnkobfcnflphkaaGreatDoorHt
namespace Go.Proofs.YtnkobfcnflphkaaGreatDoor
open Go.RowKit
set_option linter.unusedVariables false
set_option linter.unusedSimpArgs false
set_option maxRecDepth 20000
set_option maxHeartbeats 4000000
theorem liftN_congr {f g:Nat→Rat} {d:Nat} (h: ∀q,q≤d→f q=g q): ∀e k,k≤d+e→liftN f d e k=liftN g d e k
 | 0,k,hk=>h k (by omega)
 | e+1,k,hk=>by
   show liftR (liftN f d e) (d+e+1) k=liftR (liftN g d e) (d+e+1) k
   exact liftR_congr (by omega) (by omega) fun q hq=>liftN_congr h e q (by omega)
end Go.Proofs.YtnkobfcnflphkaaGreatDoor
namespace Go.Proofs.YtnkobfcnflphkaaGreatDoor
open Go.RowKit
set_option linter.unusedVariables false
set_option linter.unusedSimpArgs false
set_option maxRecDepth 20000
set_option maxHeartbeats 4000000
end Go.Proofs.YtnkobfcnflphkaaGreatDoor
