/-
  Several texts in one: Ta.
-/
import Derived.Test.YtnkobfcnflphkaaGreatDoorHa
import Derived.Test.YtnkobfcnflphkaaGreatDoorGs
namespace Go.Proofs.YtnkobfcnflphkaaGreatDoor
open Go.RowKit
set_option linter.unusedVariables false
set_option linter.unusedSimpArgs false
set_option maxRecDepth 20000
set_option maxHeartbeats 4000000
section
variable {P:Program} {X:Ctx} {ops l:List Oper} {σ:St} {K:List Eff→St→Prop} {dst:Option Tmp} {ty:TypeId} {pos:String} {af:Array Edge} {gd:Option (Nat×Bool)}
theorem W8 {t u:TypeId} {x y:Operand} {a b c:Bool} [hT:OK P t] (hg:gOk ops σ.s gd) (hd:dB X.n dst=true) (hx:evC σ.s x= .one (.v (.bool a))) (hy:evC σ.s y= .one (.v (.bool b))) (hc:(a==b)=c) (hl:Ai P X ops l (σ.app dst ⟨.one (.v (.bool c)),[],[],[]⟩) (fun es σ'=>K (⟨.one (.v (.bool c)),[],[],[]⟩::es) σ')):
  Ai P X ops (⟨dst,.binOp .eql t x y u,ty,pos,af,gd⟩::l) σ K:=by
 subst hc
 exact MO (hT:=hT) hg hd hx hy hl
end
theorem Rg {x y:Rat} :0<Cd x y↔y<x:=by
 unfold Cd
 by_cases h1:x<y
 ·rw [if_pos h1];constructor
  ·intro h;omega
  ·intro h;grind
 ·rw [if_neg h1]
  by_cases h2:y<x
  ·rw [if_pos h2];simp [h2]
  ·rw [if_neg h2];simp [h2]
theorem Mn {x y:Rat} :Cd x y≤0↔x≤y:=by
 have h:=Rg (x:=x) (y:=y)
 constructor
 ·intro h1;have: ¬y<x:=fun h2=>by have:=h.2 h2;omega
  grind
 ·intro h1;have: ¬0<Cd x y:=fun h2=>by have:=h.1 h2;grind
  omega
theorem NR (x y:Rat):(mn x y=x∧x≤y)∨(mn x y=y∧y≤x):=by
 unfold mn
 split
 ·rename_i h;exact .inl ⟨rfl,Mn.1 h⟩
 ·rename_i h;exact .inr ⟨rfl,by have:=Rg.1 (show 0<Cd x y by omega);grind⟩
theorem NN (x y:Rat):(mx x y=x∧y≤x)∨(mx x y=y∧x≤y):=by
 unfold mx
 split
 ·rename_i h;exact .inl ⟨rfl,by rw [L6] at h;exact Mn.1 (by omega)⟩
 ·rename_i h;exact .inr ⟨rfl,Mn.1 (by omega)⟩
section
variable {j1 j2 j3 j4:Nat} {a b c d x:Rat}
theorem VW:Ctr Tryz.prog Amb 27 [sp j1 a j2 b,sp j3 a j4 b] (.one (.v (.bool true))):=XH (p:=true) (q:=true) (decide_eq_true rfl) (decide_eq_true rfl)
end
end Go.Proofs.YtnkobfcnflphkaaGreatDoor
