/-
  Several texts in one: Frame6.
-/
import Derived.Test.YtfineedhebhpaaaGreatDoorGk
import Derived.Test.YtfineedhebhpaaaGreatDoorBd
import Derived.Test.YtfineedhebhpaaaGreatDoorCards
import Derived.Test.YtfineedhebhpaaaGreatDoorTie
import Derived.WalkKit
import Derived.ProofKit
import Derived.OpenShut
import Derived.ChangeOld
import Derived.Below
import Derived.Deep.DeepHandedRow
import Derived.Lib.LaidTab
import Derived.Stop.LaidErr
namespace Go.Proofs.YtfineedhebhpaaaGreatDoor
open List renaming getElem?_eq_getElem→Yv
open Go.ChangeShapes Go.WideShapes Go.ChangeAt Go.RowKit
set_option linter.unusedVariables false
set_option linter.unusedSimpArgs false
theorem and_true_mk {a b:Bool} (h:a=true) (k:b=true):(a&&b)=true:=by rw [h,k];rfl
theorem own:ownKnob Tryz.prog.godebug=none:=by kernel_rfl
theorem laidOut:laidOutB Tryz.prog=true:=by kernel_rfl
theorem X5:Tryz.prog.globalNamed "math/bits.deBruijn32tab" =some 1:=by kernel_rfl
theorem Up:(Tryz.prog.globals[1]?).map (·.type)=some 235:=by kernel_rfl
theorem UQ:Tryz.prog.cellsOf 235=32:=by kernel_rfl
theorem X4:Tryz.prog.globalNamed "math/bits.deBruijn64tab" =some 0:=by kernel_rfl
theorem Uo:(Tryz.prog.globals[0]?).map (·.type)=some 228:=by kernel_rfl
theorem UP:Tryz.prog.cellsOf 228=64:=by kernel_rfl
theorem QM:Tryz.prog.cellsOf 5=1:=by kernel_rfl
theorem KZ (tab:List Nat) (j:Nat):(tab.map fun n:Nat=>(n:Int)).getD j 0=((tab.getD j 0:Nat):Int):=by
 simp only [List.getD,List.getElem?_map]
 cases tab[j]?<;>rfl
theorem tz6 {W:World} (h:laidMetH Tryz.prog [("math/bits.deBruijn32tab",Rows.laid_math_bits_deBruijn32tab),("math/bits.deBruijn64tab",Rows.laid_math_bits_deBruijn64tab)] W):Tz W:=by
 have h1:laidMet Tryz.prog [("math/bits.deBruijn32tab",Rows.laid_math_bits_deBruijn32tab),("math/bits.deBruijn64tab",Rows.laid_math_bits_deBruijn64tab)] W:=h
 have a:Lib.TabIs Tryz.prog W "math/bits.deBruijn32tab" .u8 (Lib.deBruijn32tab.map fun n:Nat=>(n:Int)):=Lib.tabIs_of_head X5 Up Tryz.underlying235 Tryz.underlying5 QM UQ h1
 have b:Lib.TabIs Tryz.prog W "math/bits.deBruijn64tab" .u8 (Lib.deBruijn64tab.map fun n:Nat=>(n:Int)):=Lib.tabIs_of_head (rest:= []) X4 Uo Tryz.underlying228 Tryz.underlying5 QM UP h1.tail
 refine ⟨fun j hj=>?_,fun j hj=>?_⟩
 ·have:=a.cell X5 j (by simpa using hj)
  rwa [KZ] at this
 ·have:=b.cell X4 j (by simpa using hj)
  rwa [KZ] at this
theorem ints_of_trod {H:Type} {enc:TypeId×Value→H} {W:World} {a:Option Addr} {len cap:Nat} {d:DataW H} {p:List MemPlace}
  (h:DataW.Trod enc Tryz.prog W 0 (fun _=>true) true 22 (Value.slice a len cap) d p): ∃ls,IntsAt W (.slice a len cap) ls∧ ∀x∈ls,-9223372036854775808≤x∧x<9223372036854775808:=by
 obtain ⟨fuel,hf⟩:=h
 rcases open_ints Tryz.underlying22 Tryz.underlying3 (by kernel_rfl) hf with ⟨hcs,_⟩|⟨x,l,c,zs,hcs,_,hl,hm,hz,_,hcell,hwz⟩
 ·simp [Value.cells] at hcs
  obtain ⟨rfl,rfl,rfl⟩:=hcs
  exact ⟨[],⟨none,0,rfl,fun h=>absurd rfl h⟩,fun x hx=>by cases hx⟩
 ·simp [Value.cells] at hcs
  obtain ⟨rfl,rfl,rfl⟩:=hcs
  have hz':zs.length=cap:=by simpa using hz
  have hlen:(zs.take len).length=len:=by simp;omega
  refine ⟨zs.take len,⟨some x,cap,by rw [hlen],fun hne=>?_⟩,fun y hy=>?_⟩
  ·have hl0:0<len:=by
    rcases Nat.eq_zero_or_pos len with e|e
    ·subst e;simp at hne
    ·exact e
   obtain ⟨b,off,spot⟩:=x
   have hspot:spot=none:=by
    have:=World.cell?_spot (hcell 0 (by omega))
    simpa [Addr.add] using this
   subst hspot
   refine ⟨b,off,rfl,fun i n hi=>?_⟩
   have hil:i<len:=by have:=(List.getElem?_eq_some_iff.1 hi).1;omega
   have h1:=hcell i (by omega)
   rw [Addr.add_lit] at h1
   rw [h1]
   rw [List.getElem?_take_of_lt hil] at hi
   have hi':i<zs.length:=by omega
   rw [Yv hi'] at hi
   have hi2:zs[i]=n:=by simpa using hi
   subst hi2
   simp [List.getD,hi']
  ·have:=hwz y (List.mem_of_mem_take hy)
   have:=bounds_i64 this
   omega
def Te (h:Array Obj) (g:Nat) (cs:Array Value):Array Obj:=h.modify g fun
 | .cells _ t frozen=> .cells cs t frozen
 | o=>o
def Sb (h:Array Obj):Array Obj:=
 Te (Te h
    1 #[.int .u8 0,.int .u8 1,.int .u8 28,.int .u8 2,.int .u8 29,.int .u8 14,.int .u8 24,.int .u8 3,.int .u8 30,.int .u8 22,.int .u8 20,.int .u8 15,.int .u8 25,.int .u8 17,.int .u8 4,.int .u8 8,.int .u8 31,.int .u8 27,.int .u8 13,.int .u8 23,.int .u8 21,.int .u8 19,.int .u8 16,.int .u8 7,.int .u8 26,.int .u8 12,.int .u8 18,.int .u8 6,.int .u8 11,.int .u8 5,.int .u8 10,.int .u8 9])
    0 #[.int .u8 0,.int .u8 1,.int .u8 56,.int .u8 2,.int .u8 57,.int .u8 49,.int .u8 28,.int .u8 3,.int .u8 61,.int .u8 58,.int .u8 42,.int .u8 50,.int .u8 38,.int .u8 29,.int .u8 17,.int .u8 4,.int .u8 62,.int .u8 47,.int .u8 59,.int .u8 36,.int .u8 45,.int .u8 43,.int .u8 51,.int .u8 22,.int .u8 53,.int .u8 39,.int .u8 33,.int .u8 30,.int .u8 24,.int .u8 18,.int .u8 12,.int .u8 5,.int .u8 63,.int .u8 55,.int .u8 48,.int .u8 27,.int .u8 60,.int .u8 41,.int .u8 37,.int .u8 16,.int .u8 46,.int .u8 35,.int .u8 44,.int .u8 21,.int .u8 52,.int .u8 32,.int .u8 23,.int .u8 11,.int .u8 54,.int .u8 26,.int .u8 40,.int .u8 15,.int .u8 34,.int .u8 20,.int .u8 31,.int .u8 10,.int .u8 25,.int .u8 14,.int .u8 19,.int .u8 9,.int .u8 13,.int .u8 8,.int .u8 7,.int .u8 6]
noncomputable def laidWorld6 (os:Os):World:= { World.holding Tryz.prog os ⟨#[],#[],[]⟩ with heap:=Sb (World.holding Tryz.prog os ⟨#[],#[],[]⟩).heap }
theorem law_calls {f:FuncId} {args:List AV} {vs:List Value} {w:World} (h:Ctr Tryz.prog Amb f args (.one (.v (.bool true)))) (hZ:Tz w) (hv:B5 (cv w (fun _=>(0,0)) (fun _=>0) w) vs args):
  Calls Tryz.prog f vs.toArray w fun e w'=>e= .returned (.bool true)∧Kp w w':=
 (h w w (fun _=>(0,0)) (fun _=>0) vs hZ (Ext.refl _) (fun p hp=>by cases hp) (fun p hp=>by cases hp) hv).mono fun e w' ⟨r,W',h1,h2,_,h3,_⟩=>by
  have h3:r= .bool true:=h3
  subst h3
  exact ⟨h1,h2.os,h2.tape,h2.output,h2.size,fun k hk=>h2.block k hk fun ⟨p,hp,_⟩=>by cases hp⟩
theorem bnd64 {n:Int} (h:(Lit.int .i64 n).wf=true): -9223372036854775808≤n∧n<9223372036854775808:=by
 have:=Go.bounds_i64 h
 omega
end Go.Proofs.YtfineedhebhpaaaGreatDoor
