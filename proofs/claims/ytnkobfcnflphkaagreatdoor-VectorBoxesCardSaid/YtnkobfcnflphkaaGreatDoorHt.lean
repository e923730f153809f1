/-
  Several texts in one: Zr, Zs.
-/
import Derived.Test.YtnkobfcnflphkaaGreatDoorHu
namespace Go.Proofs.YtnkobfcnflphkaaGreatDoor
open Go.RowKit
set_option linter.unusedVariables false
set_option linter.unusedSimpArgs false
set_option maxRecDepth 20000
set_option maxHeartbeats 4000000
theorem IB.add {D B C:Nat} {x y:Rat} (h:IB D B x) (k:IB D C y):IB D (B+C) (x+y):=by
 obtain ⟨z,h1,h2⟩:=h
 obtain ⟨w,k1,k2⟩:=k
 refine ⟨z+w,by rw [Rat.intCast_add,←h1,←k1];grind,Nat.le_trans (Int.natAbs_add_le _ _) (by omega)⟩
theorem IB.mul {D E B C:Nat} {x y:Rat} (h:IB D B x) (k:IB E C y):IB (D*E) (B*C) (x*y):=by
 obtain ⟨z,h1,h2⟩:=h
 obtain ⟨w,k1,k2⟩:=k
 refine ⟨z*w,by rw [Int.natCast_mul,Rat.intCast_mul,Rat.intCast_mul,←h1,←k1];grind,by rw [Int.natAbs_mul];exact Nat.mul_le_mul h2 k2⟩
theorem IB.zero {D B:Nat} :IB D B 0:=⟨0,by rw [Rat.zero_mul];rfl,Nat.zero_le _⟩
end Go.Proofs.YtnkobfcnflphkaaGreatDoor
namespace Go.Proofs.YtnkobfcnflphkaaGreatDoor
open Go.RowKit
set_option linter.unusedVariables false
set_option linter.unusedSimpArgs false
set_option maxRecDepth 20000
set_option maxHeartbeats 4000000
end Go.Proofs.YtnkobfcnflphkaaGreatDoor
