/-
  Several texts in one: Zg, Zh, Zi.
-/
import Derived.Test.YtnkobfcnflphkaaGreatDoorHx
import Derived.Test.YtnkobfcnflphkaaGreatDoorHz
import Derived.Test.YtnkobfcnflphkaaGreatDoorGs
import Derived.Test.YtnkobfcnflphkaaGreatDoorHn
namespace Go.Proofs.YtnkobfcnflphkaaGreatDoor
open Go.RowKit
set_option linter.unusedVariables false
set_option linter.unusedSimpArgs false
set_option maxRecDepth 20000
set_option maxHeartbeats 4000000
end Go.Proofs.YtnkobfcnflphkaaGreatDoor
namespace Go.Proofs.YtnkobfcnflphkaaGreatDoor
open Go.RowKit
set_option linter.unusedVariables false
set_option linter.unusedSimpArgs false
set_option maxRecDepth 20000
set_option maxHeartbeats 4000000
end Go.Proofs.YtnkobfcnflphkaaGreatDoor
namespace Go.Proofs.YtnkobfcnflphkaaGreatDoor
open Go.RowKit
set_option linter.unusedVariables false
set_option linter.unusedSimpArgs false
set_option maxRecDepth 20000
set_option maxHeartbeats 4000000
def IZ (b:Nat) (x:Rat):Prop:= ∃z:Int,x=(z:Rat)∧Sz b z.natAbs
theorem IZ.mono {b c:Nat} {x:Rat} (h:IZ b x) (hb:b≤c):IZ c x:=by
 obtain ⟨z,h1,h2⟩:=h
 exact ⟨z,h1,h2.mono hb⟩
theorem IZ.mul {b c:Nat} {x y:Rat} (h:IZ b x) (k:IZ c y):IZ (b+c) (x*y):=by
 obtain ⟨z,rfl,hz⟩:=h
 obtain ⟨w,rfl,hw⟩:=k
 exact ⟨z*w,(Rat.intCast_mul _ _).symm,by rw [Int.natAbs_mul];exact hz.mul hw⟩
theorem IZ.sub {b:Nat} {x y:Rat} (h:IZ b x) (k:IZ b y):IZ (b+1) (x-y):=by
 obtain ⟨z,rfl,hz⟩:=h
 obtain ⟨w,rfl,hw⟩:=k
 exact ⟨z-w,(Rat.intCast_sub _ _).symm,(hz.plus hw).le (by omega)⟩
end Go.Proofs.YtnkobfcnflphkaaGreatDoor
