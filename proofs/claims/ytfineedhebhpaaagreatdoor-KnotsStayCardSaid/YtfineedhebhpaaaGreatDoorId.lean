/-
  Several texts in one: Nw, Nx, Ny, Nz.
-/
import Derived.Test.YtfineedhebhpaaaGreatDoorIb
import Derived.Test.YtfineedhebhpaaaGreatDoorIc
namespace Go.Proofs.YtfineedhebhpaaaGreatDoor
open Go.RowKit
set_option linter.unusedVariables false
set_option linter.unusedSimpArgs false
set_option maxRecDepth 20000
set_option maxHeartbeats 4000000
set_option maxHeartbeats 1000000
section
variable {P:Program} {X:Ctx} {ops l:List Oper} {σ:St} {K:List Eff→St→Prop} {s:Nat→AV} {z:Nat→Nat}
variable {dst:Option Tmp} {ty:TypeId} {pos:String} {af:Array Edge} {gd:Option (Nat×Bool)}
theorem KZ (w:World) (t tx ty e:TypeId) (i:TypeInfo) (ht:P.underlying t=some (.slice e)) (hi:P.info? e=some i) (b off dLen dCap:Nat) (x:Value) (n:Nat) (news:List Value) (hs:Go.Src P i.size tx x n news w) (hle:n≤dLen)
  (hc: ∀j,j<news.length→(w.cell? ⟨b,off+j,none⟩).isSome=true) (hf: ∀j,j<news.length→w.frozen? ⟨b,off+j,none⟩=false):
  (Builtin.copy_ #[t,tx] ty #[.slice (some ⟨b,off,none⟩) dLen dCap,x]).run P w= .ok (goInt n) (w.setCells b off news):=by
 have hst:=run_storeCells_cells (P:=P) b off news 0 w (by simpa using hc) (by simpa using hf) hs.one
 simp only [Nat.add_zero] at hst
 have hm:Nat.min n dLen=n:=Nat.min_eq_left hle
 simp [Builtin.copy_,run_underlying ht,sizeOf,typeInfo,hi,hs.len,hm,hs.cells,hst]
end
set_option maxHeartbeats 300000
set_option maxHeartbeats 1000000
end Go.Proofs.YtfineedhebhpaaaGreatDoor
