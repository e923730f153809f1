/-
  law03.matrix and det, by the engine.
-/
import Derived.Test.YtgdlialkjiblpaaGreatDoorHe
import Derived.Test.YtgdlialkjiblpaaGreatDoorHb
namespace Go.Proofs.YtgdlialkjiblpaaGreatDoor
open Go.RowKit
set_option linter.unusedVariables false
set_option linter.unusedSimpArgs false
set_option maxRecDepth 20000
set_option maxHeartbeats 8000000
section
variable {P:Program} {X:Ctx} {ops l:List Oper} {σ:St} {K:List Eff→St→Prop} {dst:Option Tmp} {ty:TypeId} {pos:String} {af:Array Edge} {gd:Option (Nat×Bool)}
theorem v_indexAddrE (o:Nat) {t:TypeId} {x y:Operand} {len:Nat} {agg:Bool} {n:Nat} [hF:Ary P t len agg n] {k off:Nat} {ik:IntKind} {i:Int} (hi:0≤i∧i<len) (ho:off+i.toNat*n=o) (hg:gOk ops σ.s gd:=by first | exact trivial | exact rfl) (hd:dB X.n dst=true:=by exact rfl) (hx:evC σ.s x= .one (.ptr k off):=by exact rfl) (hy:evC σ.s y= .one (.v (.int ik i)):=by exact rfl) (hl:RunK P X ops l (σ.app dst ⟨.one (.ptr k o),[],[],[]⟩) (fun es σ'=>K (⟨.one (.ptr k o),[],[],[]⟩::es) σ')):
  RunK P X ops (⟨dst,.indexAddr t x y,ty,pos,af,gd⟩::l) σ K:=by
 subst ho
 exact u_indexAddr hg hd hx hy (by rw [decide_eq_true hi.1,decide_eq_true hi.2];rfl) hl
theorem v_fieldAddrE (o:Nat) {t:TypeId} {x:Operand} {i fo:Nat} {agg:Bool} {n:Nat} [hF:Fld P t i fo agg n] {k off:Nat} (ho:off+fo=o) (hg:gOk ops σ.s gd:=by first | exact trivial | exact rfl) (hd:dB X.n dst=true:=by exact rfl) (hx:evC σ.s x= .one (.ptr k off):=by exact rfl) (hl:RunK P X ops l (σ.app dst ⟨.one (.ptr k o),[],[],[]⟩) (fun es σ'=>K (⟨.one (.ptr k o),[],[],[]⟩::es) σ')):
  RunK P X ops (⟨dst,.fieldAddr t x i,ty,pos,af,gd⟩::l) σ K:=by
 subst ho
 exact u_fieldAddr hg hd hx hl
end
theorem RowE.setO {α:Type} {n:Nat} {f:α→List D} (hf:Elm n f) {m:Nat→C} {l:List α} (h:RowE f m l) {i o:Nat} {a:α} {cs:List C} (ho:o=i*n) (hi:i<l.length) (he:EntL cs ((f a).map toC)):RowE f (laid m o cs) (l.set i a):=ho▸RowE.set hf h hi he
theorem RowE.set2 {α:Type} {f:α→List D} (hf:Elm 3 f) {m:Nat→C} {l:List α} (h:RowE f m l) {i o:Nat} {a b:α} {x y z u v w:C} (ho:o=i*3) (hi:i+1<l.length) (he:EntL [x,y,z] ((f a).map toC)) (he2:EntL [u,v,w] ((f b).map toC)):RowE f (laid m o [x,y,z,u,v,w]) ((l.set i a).set (i+1) b):=by
 subst ho
 have h1:RowE f (laid m (i*3) [x,y,z]) (l.set i a):=RowE.set hf h (by omega) he
 exact RowE.setO hf (o:=i*3+3) h1 (by omega) (by rw [List.length_set];exact hi) he2
theorem rd_laid3 {m:Nat→C} {o:Nat} {x y z u v w:C} :rdL (laid m o [x,y,z,u,v,w]) o 3= [x,y,z]:=by
 have h0:=laid_in (f:=m) (off:=o) (cs:= [x,y,z,u,v,w]) (i:=0) rfl
 have h1:=laid_in (f:=m) (off:=o) (cs:= [x,y,z,u,v,w]) (i:=1) rfl
 have h2:=laid_in (f:=m) (off:=o) (cs:= [x,y,z,u,v,w]) (i:=2) rfl
 show [_,_,_]=_
 rw [show laid m o [x,y,z,u,v,w] o=x from h0,h1,show laid m o [x,y,z,u,v,w] (o+1+1)=z from h2]
def elP (l:List Int):Nat→Nat
 | 0=>0
 | k+1=>(nxt l (spanD l (elP l k)).2.2 2).2
def elA (l:List Int) (k:Nat):Rat:=(spanD l (elP l k)).1
def elS (l:List Int) (k:Nat):Rat:=(spanD l (elP l k)).2.1
def elT (l:List Int) (k:Nat):Int:=(nxt l (spanD l (elP l k)).2.2 2).1
def elB (l:List Int) (k:Nat):Rat:=if elT l k=0 then elA l k else elS l k
theorem elP_bd (l:List Int): ∀k,elP l k≤l.length
 | 0=>Nat.zero_le _
 | k+1=>(nxt_bd l _ (m:=2) (by decide)).2.2 (spanD_bd l _ (elP_bd l k))
theorem elAB (l:List Int) (k:Nat):elA l k≤elB l k:=by
 have h:=spanD_le l (elP l k)
 unfold elB elA elS
 split
 ·exact Rat.le_refl
 ·grind
def mxL (A B:Nat→Rat):Nat→List Rat
 | 0=>List.replicate 18 0
 | q+1=>((mxL A B q).set (2*q) (A q)).set (2*q+1) (B q)
theorem mxL_len (A B:Nat→Rat): ∀q,(mxL A B q).length=18
 | 0=>by simp [mxL]
 | q+1=>by unfold mxL;rw [List.length_set,List.length_set,mxL_len A B q]
theorem mxL_lit (A B:Nat→Rat):mxL A B 9= [A 0,B 0,A 1,B 1,A 2,B 2,A 3,B 3,A 4,B 4,A 5,B 5,A 6,B 6,A 7,B 7,A 8,B 8]:=rfl
theorem mx_row1 {A B S:Nat→Rat} {q:Nat} (h:q<9) (hB:B q=S q):RowE (nmD 5) (laid (rowOf (blkL (nmD 5) (mxL A B q))) (2*q*3) [.q (A q) 5 0,.q (A q) 5 1,.q (A q) 5 2,.q (S q) 5 0,.q (S q) 5 1,.q (S q) 5 2]) (mxL A B (q+1)):=by
 have hl:=mxL_len A B q
 rw [←hB]
 exact RowE.set2 (f:=nmD 5) inferInstance (i:=2*q) RowE.base rfl (by omega) (EntL.of_eq rfl) (EntL.of_eq rfl)
theorem mx_row0 {A B S:Nat→Rat} {q:Nat} (h:q<9) (hB:B q=A q):RowE (nmD 5) (laid (laid (rowOf (blkL (nmD 5) (mxL A B q))) (2*q*3) [.q (A q) 5 0,.q (A q) 5 1,.q (A q) 5 2,.q (S q) 5 0,.q (S q) 5 1,.q (S q) 5 2]) ((2*q+1)*3) [.q (A q) 5 0,.q (A q) 5 1,.q (A q) 5 2]) (mxL A B (q+1)):=by
 have hl:=mxL_len A B q
 have h1:RowE (nmD 5) _ (((mxL A B q).set (2*q) (A q)).set (2*q+1) (S q)):=RowE.set2 (f:=nmD 5) (a:=A q) (b:=S q) inferInstance (i:=2*q) RowE.base rfl (by omega) (EntL.of_eq rfl) (EntL.of_eq rfl)
 have h2:RowE (nmD 5) _ ((((mxL A B q).set (2*q) (A q)).set (2*q+1) (S q)).set (2*q+1) (A q)):=RowE.setO (f:=nmD 5) (a:=A q) (cs:= [.q (A q) 5 0,.q (A q) 5 1,.q (A q) 5 2]) inferInstance h1 (i:=2*q+1) rfl (by rw [List.length_set,List.length_set];omega) (EntL.of_eq rfl)
 rw [List.set_set] at h2
 show RowE (nmD 5) _ (((mxL A B q).set (2*q) (A q)).set (2*q+1) (B q))
 rw [hB]
 exact h2
theorem d_matrix0 {l:List Int} (hb: ∀x∈l,-9223372036854775808≤x∧x<9223372036854775808) (hl:l.length≤1000000):
  CtrM Tryz.prog Amb 11 [.one (.ptr 900 0)] [(900,diceC l (elP l 0),diceC l (elP l 9))] (.agg (blkL (nmD 5) (mxL (elA l) (elB l) 9))):=by
 have N:=fun k=>d_span (k:=900) (n:=elP l k) hb hl (elP_bd l k)
 have T:=fun k=>d_next (k:=900) (n:=(spanD l (elP l k)).2.2) (m:=2) hb hl (spanD_bd l _ (elP_bd l k)) (by decide) (by decide)
 have hB: ∀k,elB l k=if elT l k=0 then elA l k else elS l k:=fun k=>rfl
 replace N: ∀k,CtrM Tryz.prog Amb 55 [.one (.ptr 900 0)] [(900,diceC l (elP l k),diceC l (spanD l (elP l k)).2.2)] (sp 5 (elA l k) 5 (elS l k)):=N
 replace T: ∀k,CtrM Tryz.prog Amb 19 [.one (.ptr 900 0),.one (.v (.int .i64 2))] [(900,diceC l (spanD l (elP l k)).2.2,diceC l (elP l (k+1)))] (.one (.v (.int .i64 (elT l k)))):=T
 obtain ⟨U,hU⟩: ∃U:Nat→Nat,∀k,U k=(spanD l (elP l k)).2.2:=⟨_,fun _=>rfl⟩
 simp only [←hU] at N T
 clear hU
 generalize elP l=p at*
 generalize elA l=A at*
 generalize elB l=B at*
 generalize elS l=S at*
 generalize elT l=t at*
 rw [mxL_lit]
 apply ctr_body Tryz.func11 rfl rfl rfl rfl rfl
 case hin=>simp [inA,inC]
 intro W0 base D μ0 hA hD
 repeat (first
  | refine aw_seq ?_ | refine aw_block ?_ | refine aw_condT rfl ?_ | refine aw_condF rfl ?_
  | ((first | refine aw_plainK (by kernel_rfl) ?_ | refine aw_drawK (by kernel_rfl) (by kernel_rfl) (by kernel_rfl) ?_)
     repeat (first
      | refine v_move (hl:=?_)
      | refine v_assign (hl:=?_)
      | refine v_load (hl:=?_)
      | refine v_fieldAddr (hl:=?_)
      | refine v_store (hl:=?_)
      | refine v_alloc (hl:=?_)
      | refine v_bin (hl:=?_)
      | refine v_indexAddr (hl:=?_)
      | refine v_eqBool (hl:=?_))
     apply RunK.nil;try refine And.intro (by kernel_rfl) ?_)
  | refine aw_skip ?_ | refine aw_exit ?_)
 refine aw_loop (fun n σ=> ∃i:Nat,n=3-i∧i≤3∧Wk ⟨W0,base,D,35,[900],μ0⟩ σ [(0,.one (.ptr 900 0)),(2,.one (.ptr 2 0)),(3,.one (.ptr 3 0)),(4,.one (.v (.int .i64 (i:Nat))))] [(900,diceC l (p (3*i))),(2,blkL (nmD 5) (mxL A B 0)),(3,blkL (nmD 5) (mxL A B (3*i)))]) (n:=3) ⟨0,by omega,by omega,?_⟩ ?_
 ·refine wk_mk ?_ ?_ rfl
  ·repeat (first | exact nil_all | (refine List.forall_mem_cons.2 ⟨?_,?_⟩;focus (first | exact Ent.of_eq rfl | (refine Ent.one' rfl ?_;(first | exact EntC.ratsLe (by omega) | exact EntC.ratsNil | exact EntC.glNil | (refine EntC.int ?_;omega) | (refine EntC.glLen ?_;first | omega | simp) | exact EntC.of_eq rfl | (refine EntC.q rfl ?_;omega) | exact Z0 _ | exact Z2 _ | exact EntC.z0 (k:=0) | exact EntC.z1 (k:=0) | exact EntC.z2 (k:=0) | exact EntC.z0 | exact EntC.z1 | exact EntC.z2)) | (refine Ent.agg' rfl ?_;(repeat (first | exact EntL.nil' rfl | (refine EntL.cons' rfl ?_ ?_;focus (first | exact EntC.ratsLe (by omega) | exact EntC.ratsNil | exact EntC.glNil | (refine EntC.int ?_;omega) | (refine EntC.glLen ?_;first | omega | simp) | exact EntC.of_eq rfl | (refine EntC.q rfl ?_;omega) | exact Z0 _ | exact Z2 _ | exact EntC.z0 (k:=0) | exact EntC.z1 (k:=0) | exact EntC.z2 (k:=0) | exact EntC.z0 | exact EntC.z1 | exact EntC.z2))));done))))
  ·repeat (first | exact nil_all | (refine List.forall_mem_cons.2 ⟨?_,?_⟩;focus (first | exact blk_keep inferInstance | (refine blk_ok rfl ?_ rfl;focus ((repeat (first | exact EntL.nil' rfl | (refine EntL.cons' rfl ?_ ?_;focus (first | exact EntC.ratsLe (by omega) | exact EntC.ratsNil | exact EntC.glNil | (refine EntC.int ?_;omega) | (refine EntC.glLen ?_;first | omega | simp) | exact EntC.of_eq rfl | (refine EntC.q rfl ?_;omega) | exact Z0 _ | exact Z2 _ | exact EntC.z0 (k:=0) | exact EntC.z1 (k:=0) | exact EntC.z2 (k:=0) | exact EntC.z0 | exact EntC.z1 | exact EntC.z2))));done)))))
 intro n σ hI
 obtain ⟨i,hn,hi3,hw⟩:=hI
 refine aw_wk hw ?_
 clear hw
 by_cases hi:i<3
 ·have bi:=binLt (k:= .i64) (decide_eq_true (show (i:Int)<3 by omega))
  have hin:=binAdd (k:= .i64) (show (IntKind.i64).wrap ((i:Int)+1)=((i+1:Nat):Int) from IntWalk.i64_in _ (by omega))
  repeat (first
   | refine aw_seq ?_ | refine aw_block ?_ | refine aw_condT rfl ?_ | refine aw_condF rfl ?_
   | ((first | refine aw_plainK (by kernel_rfl) ?_ | refine aw_drawK (by kernel_rfl) (by kernel_rfl) (by kernel_rfl) ?_)
      repeat (first
       | refine v_move (hl:=?_)
       | refine v_assign (hl:=?_)
       | refine v_load (hl:=?_)
       | refine v_fieldAddr (hl:=?_)
       | refine v_store (hl:=?_)
       | refine v_alloc (hl:=?_)
       | refine v_bin (hl:=?_)
       | refine v_indexAddr (hl:=?_)
       | refine v_eqBool (hl:=?_))
      apply RunK.nil;try refine And.intro (by kernel_rfl) ?_)
   | refine aw_skip ?_ | refine aw_exit ?_)
  refine aw_loop (fun m σ=> ∃j:Nat,m=3-j∧j≤3∧Wk ⟨W0,base,D,35,[900],μ0⟩ σ [(0,.one (.ptr 900 0)),(2,.one (.ptr 2 0)),(3,.one (.ptr 3 0)),(4,.one (.v (.int .i64 (i:Nat)))),(5,.one (.v (.int .i64 (j:Nat))))] [(900,diceC l (p (3*i+j))),(2,blkL (nmD 5) (mxL A B 0)),(3,blkL (nmD 5) (mxL A B (3*i+j)))]) (n:=3) ⟨0,by omega,by omega,?_⟩ ?_
  ·refine wk_mk ?_ ?_ rfl
   ·repeat (first | exact nil_all | (refine List.forall_mem_cons.2 ⟨?_,?_⟩;focus (first | exact Ent.of_eq rfl | (refine Ent.one' rfl ?_;(first | exact EntC.ratsLe (by omega) | exact EntC.ratsNil | exact EntC.glNil | (refine EntC.int ?_;omega) | (refine EntC.glLen ?_;first | omega | simp) | exact EntC.of_eq rfl | (refine EntC.q rfl ?_;omega) | exact Z0 _ | exact Z2 _ | exact EntC.z0 (k:=0) | exact EntC.z1 (k:=0) | exact EntC.z2 (k:=0) | exact EntC.z0 | exact EntC.z1 | exact EntC.z2)) | (refine Ent.agg' rfl ?_;(repeat (first | exact EntL.nil' rfl | (refine EntL.cons' rfl ?_ ?_;focus (first | exact EntC.ratsLe (by omega) | exact EntC.ratsNil | exact EntC.glNil | (refine EntC.int ?_;omega) | (refine EntC.glLen ?_;first | omega | simp) | exact EntC.of_eq rfl | (refine EntC.q rfl ?_;omega) | exact Z0 _ | exact Z2 _ | exact EntC.z0 (k:=0) | exact EntC.z1 (k:=0) | exact EntC.z2 (k:=0) | exact EntC.z0 | exact EntC.z1 | exact EntC.z2))));done))))
   ·repeat (first | exact nil_all | (refine List.forall_mem_cons.2 ⟨?_,?_⟩;focus (first | exact blk_keep inferInstance | (refine blk_ok rfl ?_ rfl;focus ((repeat (first | exact EntL.nil' rfl | (refine EntL.cons' rfl ?_ ?_;focus (first | exact EntC.ratsLe (by omega) | exact EntC.ratsNil | exact EntC.glNil | (refine EntC.int ?_;omega) | (refine EntC.glLen ?_;first | omega | simp) | exact EntC.of_eq rfl | (refine EntC.q rfl ?_;omega) | exact Z0 _ | exact Z2 _ | exact EntC.z0 (k:=0) | exact EntC.z1 (k:=0) | exact EntC.z2 (k:=0) | exact EntC.z0 | exact EntC.z1 | exact EntC.z2))));done)))))
  intro m σ hI
  obtain ⟨j,hm,hj3,hw⟩:=hI
  refine aw_wk hw ?_
  clear hw
  by_cases hj:j<3
  ·have bj:=binLt (k:= .i64) (decide_eq_true (show (j:Int)<3 by omega))
   have hjn:=binAdd (k:= .i64) (show (IntKind.i64).wrap ((j:Int)+1)=((j+1:Nat):Int) from IntWalk.i64_in _ (by omega))
   have li:(0:Int)≤((i:Nat):Int)∧((i:Nat):Int)<(3:Nat):=by omega
   have lj:(0:Int)≤((j:Nat):Int)∧((j:Nat):Int)<(3:Nat):=by omega
   obtain ⟨q,hq⟩: ∃q,q=3*i+j:=⟨_,rfl⟩
   have o1:0+((i:Nat):Int).toNat*18=18*i:=by rw [Int.toNat_natCast];omega
   have o2:18*i+((j:Nat):Int).toNat*6=(2*q)*3:=by rw [Int.toNat_natCast];omega
   have o3:(2*q)*3+3=(2*q+1)*3:=by omega
   have o4:(2*q)*3+0=(2*q)*3:=by omega
   rw [←hq]
   have hcl:=mxL_len A B q
   have hbl:(blkL (nmD 5) (mxL A B q)).length=54:=by rw [blkL_len (n:=3) inferInstance,hcl]
   have N':=N q
   have T':=T q
   have hB':=hB q
   have st1:(2*q)*3+6≤(blkL (nmD 5) (mxL A B q)).length:=by omega
   have st0:(2*q)*3+3≤(blkL (nmD 5) (mxL A B q)).length:=by omega
   have st2:(2*q+1)*3+3≤(blkL (nmD 5) (mxL A B q)).length:=by omega
   have ld:rdL (laid (rowOf (blkL (nmD 5) (mxL A B q))) ((2*q)*3) [.q (A q) 5 0,.q (A q) 5 1,.q (A q) 5 2,.q (S q) 5 0,.q (S q) 5 1,.q (S q) 5 2]) ((2*q)*3) 3= [.q (A q) 5 0,.q (A q) 5 1,.q (A q) 5 2]:=rd_laid3
   have q9:q<9:=by omega
   have lz:(blkL (nmD 5) (mxL A B q)).length=(mxL A B (q+1)).length*3:=by rw [hbl,mxL_len]
   by_cases ht:t q=0
   ·have bt:=binEq (k:= .i64) (decide_eq_true ht)
    rw [if_pos ht] at hB'
    have r0:=mx_row0 (S:=S) q9 hB'
    repeat (first
     | refine aw_seq ?_ | refine aw_block ?_ | refine aw_condT rfl ?_ | refine aw_condF rfl ?_
     | ((first | refine aw_plainK (by kernel_rfl) ?_ | refine aw_drawK (by kernel_rfl) (by kernel_rfl) (by kernel_rfl) ?_)
        repeat (first
         | refine v_indexAddrE _ li o1 (hl:=?_)
         | refine v_indexAddrE _ lj o2 (hl:=?_)
         | refine v_fieldAddrE _ o4 (hl:=?_)
         | refine v_fieldAddrE _ o3 (hl:=?_)
         | refine v_loadG (k:=3) (off:=2*q*3) st0 ld (hl:=?_)
         | refine v_storeG (k:=3) (off:=2*q*3) st1 (hl:=?_)
         | refine v_storeG (k:=3) (off:=(2*q+1)*3) st2 (hl:=?_)
         | refine v_move (hl:=?_)
         | refine v_assign (hl:=?_)
         | refine v_load (hl:=?_)
         | refine v_fieldAddr (hl:=?_)
         | refine v_store (hl:=?_)
         | refine v_alloc (hl:=?_)
         | refine v_bin (hl:=?_)
         | refine v_indexAddr (hl:=?_)
         | refine v_eqBool (hl:=?_)
         | refine v_callM hA (hc:=N') (hl:=?_)
         | refine v_callM hA (hc:=T') (hl:=?_))
        apply RunK.nil;try refine And.intro (by kernel_rfl) ?_)
     | refine aw_skip ?_ | refine aw_exit ?_)
    refine ⟨m-1,by omega,j+1,by omega,by omega,?_⟩
    rw [show 3*i+(j+1)=q+1 by omega]
    refine wk_mk ?_ ?_ rfl
    ·repeat (first | exact nil_all | (refine List.forall_mem_cons.2 ⟨?_,?_⟩;focus (first | exact Ent.of_eq rfl | (refine Ent.one' rfl ?_;(first | exact EntC.ratsLe (by omega) | exact EntC.ratsNil | exact EntC.glNil | (refine EntC.int ?_;omega) | (refine EntC.glLen ?_;first | omega | simp) | exact EntC.of_eq rfl | (refine EntC.q rfl ?_;omega) | exact Z0 _ | exact Z2 _ | exact EntC.z0 (k:=0) | exact EntC.z1 (k:=0) | exact EntC.z2 (k:=0) | exact EntC.z0 | exact EntC.z1 | exact EntC.z2)) | (refine Ent.agg' rfl ?_;(repeat (first | exact EntL.nil' rfl | (refine EntL.cons' rfl ?_ ?_;focus (first | exact EntC.ratsLe (by omega) | exact EntC.ratsNil | exact EntC.glNil | (refine EntC.int ?_;omega) | (refine EntC.glLen ?_;first | omega | simp) | exact EntC.of_eq rfl | (refine EntC.q rfl ?_;omega) | exact Z0 _ | exact Z2 _ | exact EntC.z0 (k:=0) | exact EntC.z1 (k:=0) | exact EntC.z2 (k:=0) | exact EntC.z0 | exact EntC.z1 | exact EntC.z2))));done))))
    ·repeat (first | exact nil_all | (refine List.forall_mem_cons.2 ⟨?_,?_⟩;focus (first | exact blk_keep inferInstance | (exact blk_row (z:=(blkL (nmD 5) (mxL A B q)).length) inferInstance r0 lz) | (refine blk_ok rfl ?_ rfl;focus ((repeat (first | exact EntL.nil' rfl | (refine EntL.cons' rfl ?_ ?_;focus (first | exact EntC.ratsLe (by omega) | exact EntC.ratsNil | exact EntC.glNil | (refine EntC.int ?_;omega) | (refine EntC.glLen ?_;first | omega | simp) | exact EntC.of_eq rfl | (refine EntC.q rfl ?_;omega) | exact Z0 _ | exact Z2 _ | exact EntC.z0 (k:=0) | exact EntC.z1 (k:=0) | exact EntC.z2 (k:=0) | exact EntC.z0 | exact EntC.z1 | exact EntC.z2))));done)))))
   ·have bt:=binEq (k:= .i64) (decide_eq_false ht)
    rw [if_neg ht] at hB'
    have r1:=mx_row1 (A:=A) q9 hB'
    repeat (first
     | refine aw_seq ?_ | refine aw_block ?_ | refine aw_condT rfl ?_ | refine aw_condF rfl ?_
     | ((first | refine aw_plainK (by kernel_rfl) ?_ | refine aw_drawK (by kernel_rfl) (by kernel_rfl) (by kernel_rfl) ?_)
        repeat (first
         | refine v_indexAddrE _ li o1 (hl:=?_)
         | refine v_indexAddrE _ lj o2 (hl:=?_)
         | refine v_storeG (k:=3) (off:=2*q*3) st1 (hl:=?_)
         | refine v_move (hl:=?_)
         | refine v_assign (hl:=?_)
         | refine v_load (hl:=?_)
         | refine v_fieldAddr (hl:=?_)
         | refine v_store (hl:=?_)
         | refine v_alloc (hl:=?_)
         | refine v_bin (hl:=?_)
         | refine v_indexAddr (hl:=?_)
         | refine v_eqBool (hl:=?_)
         | refine v_callM hA (hc:=N') (hl:=?_)
         | refine v_callM hA (hc:=T') (hl:=?_))
        apply RunK.nil;try refine And.intro (by kernel_rfl) ?_)
     | refine aw_skip ?_ | refine aw_exit ?_)
    refine ⟨m-1,by omega,j+1,by omega,by omega,?_⟩
    rw [show 3*i+(j+1)=q+1 by omega]
    refine wk_mk ?_ ?_ rfl
    ·repeat (first | exact nil_all | (refine List.forall_mem_cons.2 ⟨?_,?_⟩;focus (first | exact Ent.of_eq rfl | (refine Ent.one' rfl ?_;(first | exact EntC.ratsLe (by omega) | exact EntC.ratsNil | exact EntC.glNil | (refine EntC.int ?_;omega) | (refine EntC.glLen ?_;first | omega | simp) | exact EntC.of_eq rfl | (refine EntC.q rfl ?_;omega) | exact Z0 _ | exact Z2 _ | exact EntC.z0 (k:=0) | exact EntC.z1 (k:=0) | exact EntC.z2 (k:=0) | exact EntC.z0 | exact EntC.z1 | exact EntC.z2)) | (refine Ent.agg' rfl ?_;(repeat (first | exact EntL.nil' rfl | (refine EntL.cons' rfl ?_ ?_;focus (first | exact EntC.ratsLe (by omega) | exact EntC.ratsNil | exact EntC.glNil | (refine EntC.int ?_;omega) | (refine EntC.glLen ?_;first | omega | simp) | exact EntC.of_eq rfl | (refine EntC.q rfl ?_;omega) | exact Z0 _ | exact Z2 _ | exact EntC.z0 (k:=0) | exact EntC.z1 (k:=0) | exact EntC.z2 (k:=0) | exact EntC.z0 | exact EntC.z1 | exact EntC.z2))));done))))
    ·repeat (first | exact nil_all | (refine List.forall_mem_cons.2 ⟨?_,?_⟩;focus (first | exact blk_keep inferInstance | (exact blk_row (z:=(blkL (nmD 5) (mxL A B q)).length) inferInstance r1 lz) | (refine blk_ok rfl ?_ rfl;focus ((repeat (first | exact EntL.nil' rfl | (refine EntL.cons' rfl ?_ ?_;focus (first | exact EntC.ratsLe (by omega) | exact EntC.ratsNil | exact EntC.glNil | (refine EntC.int ?_;omega) | (refine EntC.glLen ?_;first | omega | simp) | exact EntC.of_eq rfl | (refine EntC.q rfl ?_;omega) | exact Z0 _ | exact Z2 _ | exact EntC.z0 (k:=0) | exact EntC.z1 (k:=0) | exact EntC.z2 (k:=0) | exact EntC.z0 | exact EntC.z1 | exact EntC.z2))));done)))))
  ·have hj':j=3:=by omega
   subst hj'
   have bj:=binLt (k:= .i64) (decide_eq_false (show ¬(((3:Nat):Int))<3 by omega))
   repeat (first
    | refine aw_seq ?_ | refine aw_block ?_ | refine aw_condT rfl ?_ | refine aw_condF rfl ?_
    | ((first | refine aw_plainK (by kernel_rfl) ?_ | refine aw_drawK (by kernel_rfl) (by kernel_rfl) (by kernel_rfl) ?_)
       repeat (first
        | refine v_move (hl:=?_)
        | refine v_assign (hl:=?_)
        | refine v_load (hl:=?_)
        | refine v_fieldAddr (hl:=?_)
        | refine v_store (hl:=?_)
        | refine v_alloc (hl:=?_)
        | refine v_bin (hl:=?_)
        | refine v_indexAddr (hl:=?_)
        | refine v_eqBool (hl:=?_))
       apply RunK.nil;try refine And.intro (by kernel_rfl) ?_)
    | refine aw_skip ?_ | refine aw_exit ?_)
   refine ⟨n-1,by omega,i+1,by omega,by omega,?_⟩
   rw [show 3*(i+1)=3*i+3 by omega]
   refine wk_mk ?_ ?_ rfl
   ·repeat (first | exact nil_all | (refine List.forall_mem_cons.2 ⟨?_,?_⟩;focus (first | exact Ent.of_eq rfl | (refine Ent.one' rfl ?_;(first | exact EntC.ratsLe (by omega) | exact EntC.ratsNil | exact EntC.glNil | (refine EntC.int ?_;omega) | (refine EntC.glLen ?_;first | omega | simp) | exact EntC.of_eq rfl | (refine EntC.q rfl ?_;omega) | exact Z0 _ | exact Z2 _ | exact EntC.z0 (k:=0) | exact EntC.z1 (k:=0) | exact EntC.z2 (k:=0) | exact EntC.z0 | exact EntC.z1 | exact EntC.z2)) | (refine Ent.agg' rfl ?_;(repeat (first | exact EntL.nil' rfl | (refine EntL.cons' rfl ?_ ?_;focus (first | exact EntC.ratsLe (by omega) | exact EntC.ratsNil | exact EntC.glNil | (refine EntC.int ?_;omega) | (refine EntC.glLen ?_;first | omega | simp) | exact EntC.of_eq rfl | (refine EntC.q rfl ?_;omega) | exact Z0 _ | exact Z2 _ | exact EntC.z0 (k:=0) | exact EntC.z1 (k:=0) | exact EntC.z2 (k:=0) | exact EntC.z0 | exact EntC.z1 | exact EntC.z2))));done))))
   ·repeat (first | exact nil_all | (refine List.forall_mem_cons.2 ⟨?_,?_⟩;focus (first | exact blk_keep inferInstance | (refine blk_ok rfl ?_ rfl;focus ((repeat (first | exact EntL.nil' rfl | (refine EntL.cons' rfl ?_ ?_;focus (first | exact EntC.ratsLe (by omega) | exact EntC.ratsNil | exact EntC.glNil | (refine EntC.int ?_;omega) | (refine EntC.glLen ?_;first | omega | simp) | exact EntC.of_eq rfl | (refine EntC.q rfl ?_;omega) | exact Z0 _ | exact Z2 _ | exact EntC.z0 (k:=0) | exact EntC.z1 (k:=0) | exact EntC.z2 (k:=0) | exact EntC.z0 | exact EntC.z1 | exact EntC.z2))));done)))))
 ·have hi':i=3:=by omega
  subst hi'
  rw [show (3*3:Nat)=9 from rfl,mxL_lit]
  repeat (first
   | refine aw_seq ?_ | refine aw_block ?_ | refine aw_condT rfl ?_ | refine aw_condF rfl ?_
   | ((first | refine aw_plainK (by kernel_rfl) ?_ | refine aw_drawK (by kernel_rfl) (by kernel_rfl) (by kernel_rfl) ?_)
      repeat (first
       | refine v_move (hl:=?_)
       | refine v_assign (hl:=?_)
       | refine v_load (hl:=?_)
       | refine v_fieldAddr (hl:=?_)
       | refine v_store (hl:=?_)
       | refine v_alloc (hl:=?_)
       | refine v_bin (hl:=?_)
       | refine v_indexAddr (hl:=?_)
       | refine v_eqBool (hl:=?_))
      apply RunK.nil;try refine And.intro (by kernel_rfl) ?_)
   | refine aw_skip ?_ | refine aw_exit ?_)
  refine aw_ret (And.intro (Or.inr rfl) ?_)
  exact f_oneM (hE:=(Ent.of_eq (by kernel_rfl)))
theorem mx_cells (A B:Nat→Rat):blkL (nmD 5) (mxL A B 9)= [.q (A 0) 5 0,.q (A 0) 5 1,.q (A 0) 5 2,.q (B 0) 5 0,.q (B 0) 5 1,.q (B 0) 5 2,.q (A 1) 5 0,.q (A 1) 5 1,.q (A 1) 5 2,.q (B 1) 5 0,.q (B 1) 5 1,.q (B 1) 5 2,.q (A 2) 5 0,.q (A 2) 5 1,.q (A 2) 5 2,.q (B 2) 5 0,.q (B 2) 5 1,.q (B 2) 5 2,.q (A 3) 5 0,.q (A 3) 5 1,.q (A 3) 5 2,.q (B 3) 5 0,.q (B 3) 5 1,.q (B 3) 5 2,.q (A 4) 5 0,.q (A 4) 5 1,.q (A 4) 5 2,.q (B 4) 5 0,.q (B 4) 5 1,.q (B 4) 5 2,.q (A 5) 5 0,.q (A 5) 5 1,.q (A 5) 5 2,.q (B 5) 5 0,.q (B 5) 5 1,.q (B 5) 5 2,.q (A 6) 5 0,.q (A 6) 5 1,.q (A 6) 5 2,.q (B 6) 5 0,.q (B 6) 5 1,.q (B 6) 5 2,.q (A 7) 5 0,.q (A 7) 5 1,.q (A 7) 5 2,.q (B 7) 5 0,.q (B 7) 5 1,.q (B 7) 5 2,.q (A 8) 5 0,.q (A 8) 5 1,.q (A 8) 5 2,.q (B 8) 5 0,.q (B 8) 5 1,.q (B 8) 5 2]:=by
 rw [mxL_lit]
 kernel_rfl
theorem d_matrix {k:Nat} {l:List Int} (hb: ∀x∈l,-9223372036854775808≤x∧x<9223372036854775808) (hl:l.length≤1000000):
  CtrM Tryz.prog Amb 11 [.one (.ptr k 0)] [(k,diceC l (elP l 0),diceC l (elP l 9))] (.agg (blkL (nmD 5) (mxL (elA l) (elB l) 9))):=by
 have h:=d_matrix0 hb hl
 generalize elA l=A at*
 generalize elB l=B at*
 generalize elP l 0=p at*
 generalize elP l 9=p' at*
 rw [mx_cells] at h⊢
 exact h.at1 k (by kernel_rfl) rfl
theorem d_det {j:Nat} {x0 x1 x2 x3 x4 x5 x6 x7 x8:Rat} (hj:j≤1000):Ctr Tryz.prog Amb 20 [.agg [.q x0 j 0,.q x0 j 1,.q x0 j 2,.q x1 j 0,.q x1 j 1,.q x1 j 2,.q x2 j 0,.q x2 j 1,.q x2 j 2,.q x3 j 0,.q x3 j 1,.q x3 j 2,.q x4 j 0,.q x4 j 1,.q x4 j 2,.q x5 j 0,.q x5 j 1,.q x5 j 2,.q x6 j 0,.q x6 j 1,.q x6 j 2,.q x7 j 0,.q x7 j 1,.q x7 j 2,.q x8 j 0,.q x8 j 1,.q x8 j 2]] (nm 100000 (sar x0 x1 x2 x3 x4 x5 x6 x7 x8)):=by
 have I1:=r_int (n:=1) rfl
 rw [show ((1:Int):Rat)=1 from rfl] at I1
 unfold sar
 refine ctr_body Tryz.func20 rfl rfl rfl rfl rfl rfl ?_
 intro W0 base D μ0 hA hD
 repeat (first
  | refine aw_seq ?_ | refine aw_block ?_ | refine aw_condT rfl ?_ | refine aw_condF rfl ?_ | refine aw_loopN 6 ?_
  | ((first | refine aw_plainK (by kernel_rfl) ?_ | refine aw_drawK (by kernel_rfl) (by kernel_rfl) (by kernel_rfl) ?_)
     repeat (first
      | refine v_move (hl:=?_)
      | refine v_assign (hl:=?_)
      | refine v_load (hl:=?_)
      | refine v_store (hl:=?_)
      | refine v_box (hl:=?_)
      | refine v_alloc (hl:=?_)
      | refine v_binL (hl:=?_)
      | refine v_indexAddrTo 0 (hl:=?_)
      | refine v_indexAddrTo 3 (hl:=?_)
      | refine v_indexAddrTo 6 (hl:=?_)
      | refine v_indexAddr (hl:=?_)
      | refine v_allocAt 1000 (hl:=?_)
      | refine v_boxAt 1000 (hl:=?_)
      | refine v_allocAt 2000 (hl:=?_)
      | refine v_boxAt 2000 (hl:=?_)
      | refine v_callE hA (hc:=I1) (hl:=?_)
      | (refine v_call hA (hc:=r_mul ?_ ?_) (hl:=?_);omega;omega)
      | (refine v_call hA (hc:=r_sub ?_ ?_) (hl:=?_);omega;omega)
      | (refine v_call hA (hc:=r_add ?_ ?_) (hl:=?_);omega;omega))
     apply RunK.nil;try refine And.intro (by kernel_rfl) ?_)
  | refine aw_skip ?_ | refine aw_exit ?_)
 refine aw_ret (And.intro (Or.inr rfl) ?_)
 exact f_one
end Go.Proofs.YtgdlialkjiblpaaGreatDoor
