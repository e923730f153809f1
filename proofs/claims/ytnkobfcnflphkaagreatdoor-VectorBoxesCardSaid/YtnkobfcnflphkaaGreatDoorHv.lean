/-
  Several texts in one: Zj, Zk.
-/
import Derived.Test.YtnkobfcnflphkaaGreatDoorHw
namespace Go.Proofs.YtnkobfcnflphkaaGreatDoor
open Go.RowKit
set_option linter.unusedVariables false
set_option linter.unusedSimpArgs false
set_option maxRecDepth 20000
set_option maxHeartbeats 4000000
theorem numb_rsz (l:List Int) (n:Nat):RSz 2 (numb l n).1:=by
 obtain ⟨a1,a2,_⟩:=nxt_bd l n (m:=13) (by decide)
 obtain ⟨c1,c2,_⟩:=nxt_bd l (nxt l (nxt l n 13).2 4).2 (m:=4) (by decide)
 unfold numb
 simp only
 split
 ·have hn:RSz 1 (((nxt l n 13).1-6:Int):Rat):=⟨by
   rw [Rat.num_intCast];exact length_toL_le _ _ (by omega),by rw [Rat.den_intCast];exact length_toL_le _ _ (by decide)⟩
  have hd:RSz 1 ((1+(nxt l (nxt l (nxt l n 13).2 4).2 4).1:Int):Rat):=⟨by
   rw [Rat.num_intCast];exact length_toL_le _ _ (by omega),by rw [Rat.den_intCast];exact length_toL_le _ _ (by decide)⟩
  refine rsz_div hn hd ?_
  intro h0
  have h1:((1+(nxt l (nxt l (nxt l n 13).2 4).2 4).1:Int):Rat)=((0:Int):Rat):=h0
  have:=Rat.intCast_inj.1 h1
  omega
 ·exact rsz_cast _ (by omega) (by omega)
end Go.Proofs.YtnkobfcnflphkaaGreatDoor
namespace Go.Proofs.YtnkobfcnflphkaaGreatDoor
open Go.RowKit
set_option linter.unusedVariables false
set_option linter.unusedSimpArgs false
set_option maxRecDepth 20000
set_option maxHeartbeats 4000000
section
variable {P:Program} {X:Ctx} {ops l:List Oper} {σ:St} {K:List Eff→St→Prop} {dst:Option Tmp} {ty:TypeId} {pos:String} {af:Array Edge} {gd:Option (Nat×Bool)}
end
end Go.Proofs.YtnkobfcnflphkaaGreatDoor
