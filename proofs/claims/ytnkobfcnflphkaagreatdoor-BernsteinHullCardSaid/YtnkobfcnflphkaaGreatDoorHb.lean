/-
  Several texts in one: Ta.
-/
import Derived.Test.YtnkobfcnflphkaaGreatDoorHa
import Derived.Test.YtnkobfcnflphkaaGreatDoorGs
namespace Go.Proofs.YtnkobfcnflphkaaGreatDoor
open Go.RowKit
set_option linter.unusedVariables false
set_option linter.unusedSimpArgs false
set_option maxRecDepth 20000
set_option maxHeartbeats 4000000
section
variable {P:Program} {X:Ctx} {ops l:List Oper} {σ:St} {K:List Eff→St→Prop} {dst:Option Tmp} {ty:TypeId} {pos:String} {af:Array Edge} {gd:Option (Nat×Bool)}
end
theorem cmp_pos {x y:Rat} :0<cmpR x y↔y<x:=by
 unfold cmpR
 by_cases h1:x<y
 ·rw [if_pos h1];constructor
  ·intro h;omega
  ·intro h;grind
 ·rw [if_neg h1]
  by_cases h2:y<x
  ·rw [if_pos h2];simp [h2]
  ·rw [if_neg h2];simp [h2]
theorem cmp_le0 {x y:Rat} :cmpR x y≤0↔x≤y:=by
 have h:=cmp_pos (x:=x) (y:=y)
 constructor
 ·intro h1;have: ¬y<x:=fun h2=>by have:=h.2 h2;omega
  grind
 ·intro h1;have: ¬0<cmpR x y:=fun h2=>by have:=h.1 h2;grind
  omega
theorem mn_cases (x y:Rat):(mn x y=x∧x≤y)∨(mn x y=y∧y≤x):=by
 unfold mn
 split
 ·rename_i h;exact .inl ⟨rfl,cmp_le0.1 h⟩
 ·rename_i h;exact .inr ⟨rfl,by have:=cmp_pos.1 (show 0<cmpR x y by omega);grind⟩
theorem mx_cases (x y:Rat):(mx x y=x∧y≤x)∨(mx x y=y∧x≤y):=by
 unfold mx
 split
 ·rename_i h;exact .inl ⟨rfl,by rw [ord_neg] at h;exact cmp_le0.1 (by omega)⟩
 ·rename_i h;exact .inr ⟨rfl,cmp_le0.1 (by omega)⟩
section
variable {j1 j2 j3 j4:Nat} {a b c d x:Rat}
end
end Go.Proofs.YtnkobfcnflphkaaGreatDoor
