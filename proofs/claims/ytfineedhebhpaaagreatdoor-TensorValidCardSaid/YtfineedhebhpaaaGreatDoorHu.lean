/-
  Several texts in one: Zl, Zo.
-/
import Derived.Test.YtfineedhebhpaaaGreatDoorHw
import Derived.Test.YtfineedhebhpaaaGreatDoorHz
import Derived.Test.YtfineedhebhpaaaGreatDoorHv
namespace Go.Proofs.YtfineedhebhpaaaGreatDoor
open Go.RowKit
set_option linter.unusedVariables false
set_option linter.unusedSimpArgs false
set_option maxRecDepth 20000
set_option maxHeartbeats 4000000
abbrev inD (x:Int):List D:= [.v (.int .i64 x)]
instance:Elm 1 inD:=⟨fun _=>rfl,fun _=>rfl⟩
theorem IZ.add {b c:Nat} {x y:Rat} (h:IZ b x) (k:IZ b y) (hc:b+1≤c):IZ c (x+y):=by
 obtain ⟨z,rfl,hz⟩:=h
 obtain ⟨w,rfl,hw⟩:=k
 exact ⟨z+w,(Rat.intCast_add _ _).symm,((hz.plus hw).le (Int.natAbs_add_le _ _)).mono hc⟩
theorem IZ.zero {b:Nat} :IZ b 0:=⟨0,rfl,Al _ _ (Nat.pow_pos (by decide))⟩
end Go.Proofs.YtfineedhebhpaaaGreatDoor
