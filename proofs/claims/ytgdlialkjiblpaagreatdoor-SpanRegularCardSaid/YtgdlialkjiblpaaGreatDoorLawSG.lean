/-
  SpanRegular, by contracts.
-/
import Derived.Test.YtgdlialkjiblpaaGreatDoorWe
namespace Go.Proofs.YtgdlialkjiblpaaGreatDoor
open Go.RowKit
set_option linter.unusedVariables false
set_option linter.unusedSimpArgs false
set_option maxRecDepth 20000
set_option maxHeartbeats 8000000
namespace regular
theorem light' {l:List Int} {b:Bool} (h:decide ((l.length:Int)≤500)=b):Ctr Tryz.prog Amb 9 [.one (.ints l)] (.one (.v (.bool b))):=h▸d_light l
def qP (l:List Int):Nat→Nat
 | 0=>0
 | c+1=>(nxt l (qP l c) 200).2
theorem qP_bd (l:List Int): ∀c,qP l c≤l.length
 | 0=>Nat.zero_le _
 | c+1=>(nxt_bd l _ (m:=200) (by decide)).2.2 (qP_bd l c)
def qV (l:List Int) (c:Nat):Int:=(nxt l (qP l c) 200).1
def qY (A B:Nat→Rat) (l:List Int) (k q:Nat):Rat:=A q+partR (qV l (9*k+q))*(B q-A q)
def xL (x:Nat→Rat):Nat→List Rat
 | 0=>List.replicate 9 0
 | q+1=>(xL x q).set q (x q)
theorem xL_len (x:Nat→Rat): ∀q,(xL x q).length=9
 | 0=>by simp [xL]
 | q+1=>by unfold xL;rw [List.length_set,xL_len x q]
theorem xL_row {x:Nat→Rat} {q:Nat} (h:q<9):RowE (nmD 25) (laid (rowOf (blkL (nmD 25) (xL x q))) (q*3) [.q (x q) 25 0,.q (x q) 25 1,.q (x q) 25 2]) (xL x (q+1)):=
 RowE.set (f:=nmD 25) inferInstance RowE.base (by rw [xL_len];exact h) (EntL.of_eq rfl)
theorem xL_cells (x:Nat→Rat):blkL (nmD 25) (xL x 9)= [.q (x 0) 25 0,.q (x 0) 25 1,.q (x 0) 25 2,.q (x 1) 25 0,.q (x 1) 25 1,.q (x 1) 25 2,.q (x 2) 25 0,.q (x 2) 25 1,.q (x 2) 25 2,.q (x 3) 25 0,.q (x 3) 25 1,.q (x 3) 25 2,.q (x 4) 25 0,.q (x 4) 25 1,.q (x 4) 25 2,.q (x 5) 25 0,.q (x 5) 25 1,.q (x 5) 25 2,.q (x 6) 25 0,.q (x 6) 25 1,.q (x 6) 25 2,.q (x 7) 25 0,.q (x 7) 25 1,.q (x 7) 25 2,.q (x 8) 25 0,.q (x 8) 25 1,.q (x 8) 25 2]:=by kernel_rfl
theorem mx_get (A B:Nat→Rat) {q:Nat} (h:q<9):(mxL A B 9)[2*q]?=some (A q)∧(mxL A B 9)[2*q+1]?=some (B q):=by
 rw [mxL_lit]
 have:q=0∨q=1∨q=2∨q=3∨q=4∨q=5∨q=6∨q=7∨q=8:=by omega
 rcases this with rfl | rfl | rfl | rfl | rfl | rfl | rfl | rfl | rfl<;>exact ⟨rfl,rfl⟩
theorem mx_rd (A B:Nat→Rat) {q:Nat} (h:q<9):rdL (rowOf (blkL (nmD 5) (mxL A B 9))) (2*q*3) 6= [.q (A q) 5 0,.q (A q) 5 1,.q (A q) 5 2,.q (B q) 5 0,.q (B q) 5 1,.q (B q) 5 2]:=by
 obtain ⟨h1,h2⟩:=mx_get A B h
 have r1:=rdL_row (n:=3) (f:=nmD 5) inferInstance h1
 have r2:=rdL_row (n:=3) (f:=nmD 5) inferInstance h2
 rw [show (2*q+1)*3=2*q*3+1+1+1 by omega] at r2
 show rdL _ (2*q*3) 3++rdL _ (2*q*3+1+1+1) 3=_
 rw [r1,r2]
 rfl
abbrev mlit (A B:Nat→Rat):List C:= [.q (A 0) 5 0,.q (A 0) 5 1,.q (A 0) 5 2,.q (B 0) 5 0,.q (B 0) 5 1,.q (B 0) 5 2,.q (A 1) 5 0,.q (A 1) 5 1,.q (A 1) 5 2,.q (B 1) 5 0,.q (B 1) 5 1,.q (B 1) 5 2,.q (A 2) 5 0,.q (A 2) 5 1,.q (A 2) 5 2,.q (B 2) 5 0,.q (B 2) 5 1,.q (B 2) 5 2,.q (A 3) 5 0,.q (A 3) 5 1,.q (A 3) 5 2,.q (B 3) 5 0,.q (B 3) 5 1,.q (B 3) 5 2,.q (A 4) 5 0,.q (A 4) 5 1,.q (A 4) 5 2,.q (B 4) 5 0,.q (B 4) 5 1,.q (B 4) 5 2,.q (A 5) 5 0,.q (A 5) 5 1,.q (A 5) 5 2,.q (B 5) 5 0,.q (B 5) 5 1,.q (B 5) 5 2,.q (A 6) 5 0,.q (A 6) 5 1,.q (A 6) 5 2,.q (B 6) 5 0,.q (B 6) 5 1,.q (B 6) 5 2,.q (A 7) 5 0,.q (A 7) 5 1,.q (A 7) 5 2,.q (B 7) 5 0,.q (B 7) 5 1,.q (B 7) 5 2,.q (A 8) 5 0,.q (A 8) 5 1,.q (A 8) 5 2,.q (B 8) 5 0,.q (B 8) 5 1,.q (B 8) 5 2]
def sA (s:Nat→Int):Nat→Int
 | 0=>0
 | _=>s 0
def sB (s:Nat→Int):Nat→Int
 | 0=>0
 | 1=>0
 | _=>s 1
theorem sg_same {u v a b:Rat} (h: ¬(u≤0∧0≤v)) (a1:u≤a) (a2:a≤v) (b1:u≤b) (b2:b≤v):sgnR a=sgnR b∧sgnR a≠0:=by
 rw [sgn_cmp,sgn_cmp]
 unfold cmpR
 by_cases hu:0<u
 ·rw [if_neg (show ¬a<0 by grind),if_neg (show ¬b<0 by grind),if_pos (show 0<a by grind),if_pos (show 0<b by grind)]
  decide
 ·have hv:v<0:=by grind
  rw [if_pos (show a<0 by grind),if_pos (show b<0 by grind)]
  decide
theorem law {l m:List Int} (hb: ∀x∈l,-9223372036854775808≤x∧x<9223372036854775808) (hc: ∀x∈m,-9223372036854775808≤x∧x<9223372036854775808):
  Ctr Tryz.prog Amb 4 [.one (.ints l),.one (.ints m)] (.one (.v (.bool true))):=by
 by_cases hL:(l.length:Int)≤500
 ·have D1:=light' (decide_eq_true hL)
  by_cases hM:(m.length:Int)≤500
  ·have D2:=light' (decide_eq_true hM)
   have hl:l.length≤1000000:=by omega
   have hm:m.length≤1000000:=by omega
   have M1:=d_matrix (k:=24) hb hl
   rw [mx_cells] at M1
   have le:=elAB l
   generalize elA l=A at*
   generalize elB l=B at*
   have S3:=s_det3 (j:=5) (a0:=A 0) (b0:=B 0) (a1:=A 1) (b1:=B 1) (a2:=A 2) (b2:=B 2) (a3:=A 3) (b3:=B 3) (a4:=A 4) (b4:=B 4) (a5:=A 5) (b5:=B 5) (a6:=A 6) (b6:=B 6) (a7:=A 7) (b7:=B 7) (a8:=A 8) (b8:=B 8) (by decide)
   have hx: ∀k q,A q≤qY A B m k q∧qY A B m k q≤B q:=fun k q=>within (le _) (partR_bd _).1 (partR_bd _).2
   have N: ∀c,CtrM Tryz.prog Amb 19 [.one (.ptr 29 0),.one (.v (.int .i64 200))] [(29,diceC m (qP m c),diceC m (qP m (c+1)))] (.one (.v (.int .i64 (qV m c)))):=fun c=>d_next (k:=29) (n:=qP m c) (m:=200) hc hm (qP_bd m c) (by decide) (by decide)
   have W: ∀k q,Ctr Tryz.prog Amb 18 [sp 5 (A q) 5 (B q),.one (.v (.int .i64 (qV m (9*k+q))))] (nm 25 (qY A B m k q)):=fun k q=>by
    obtain ⟨v1,v2,_⟩:=nxt_bd m (qP m (9*k+q)) (m:=200) (by decide)
    exact d_within (j1:=5) (j2:=5) (a:=A q) (b:=B q) (n:=qV m (9*k+q)) (by unfold qV;omega) (by unfold qV;omega) (by decide) (by decide)
   obtain ⟨p,hp⟩: ∃p,p=qP m:=⟨_,rfl⟩
   obtain ⟨v,hv⟩: ∃v,v=qV m:=⟨_,rfl⟩
   have hp0:p 0=0:=by rw [hp];rfl
   rw [←hp,←hv] at N
   rw [←hv] at W
   clear hp hv
   generalize qY A B m=x at*
   obtain ⟨e,he⟩: ∃e:Nat→Rat,∀k,e k=sar (x k 0) (x k 1) (x k 2) (x k 3) (x k 4) (x k 5) (x k 6) (x k 7) (x k 8):=⟨_,fun _=>rfl⟩
   have hd: ∀k,(d3 (A 0) (B 0) (A 1) (B 1) (A 2) (B 2) (A 3) (B 3) (A 4) (B 4) (A 5) (B 5) (A 6) (B 6) (A 7) (B 7) (A 8) (B 8)).1≤e k∧e k≤(d3 (A 0) (B 0) (A 1) (B 1) (A 2) (B 2) (A 3) (B 3) (A 4) (B 4) (A 5) (B 5) (A 6) (B 6) (A 7) (B 7) (A 8) (B 8)).2:=fun k=>by
    rw [he k]
    exact d3_has (hx k 0).1 (hx k 0).2 (hx k 1).1 (hx k 1).2 (hx k 2).1 (hx k 2).2 (hx k 3).1 (hx k 3).2 (hx k 4).1 (hx k 4).2 (hx k 5).1 (hx k 5).2 (hx k 6).1 (hx k 6).2 (hx k 7).1 (hx k 7).2 (hx k 8).1 (hx k 8).2
   have Dt: ∀k,Ctr Tryz.prog Amb 20 [.agg [.q (x k 0) 25 0,.q (x k 0) 25 1,.q (x k 0) 25 2,.q (x k 1) 25 0,.q (x k 1) 25 1,.q (x k 1) 25 2,.q (x k 2) 25 0,.q (x k 2) 25 1,.q (x k 2) 25 2,.q (x k 3) 25 0,.q (x k 3) 25 1,.q (x k 3) 25 2,.q (x k 4) 25 0,.q (x k 4) 25 1,.q (x k 4) 25 2,.q (x k 5) 25 0,.q (x k 5) 25 1,.q (x k 5) 25 2,.q (x k 6) 25 0,.q (x k 6) 25 1,.q (x k 6) 25 2,.q (x k 7) 25 0,.q (x k 7) 25 1,.q (x k 7) 25 2,.q (x k 8) 25 0,.q (x k 8) 25 1,.q (x k 8) 25 2]] (nm 100000 (e k)):=fun k=>by rw [he k];exact d_det (by decide)
   clear hx le he
   obtain ⟨u,hu⟩: ∃u,u=(d3 (A 0) (B 0) (A 1) (B 1) (A 2) (B 2) (A 3) (B 3) (A 4) (B 4) (A 5) (B 5) (A 6) (B 6) (A 7) (B 7) (A 8) (B 8)).1:=⟨_,rfl⟩
   obtain ⟨w,hw⟩: ∃w,w=(d3 (A 0) (B 0) (A 1) (B 1) (A 2) (B 2) (A 3) (B 3) (A 4) (B 4) (A 5) (B 5) (A 6) (B 6) (A 7) (B 7) (A 8) (B 8)).2:=⟨_,rfl⟩
   rw [←hu,←hw] at hd S3
   clear hu hw
   have HT: ∀k,Ctr Tryz.prog Amb 21 [sp 1197 u 1197 w,nm 100000 (e k)] (.one (.v (.bool true))):=fun k=>s_hasT (hd k).1 (hd k).2 (by decide) (by decide) (by decide)
   obtain ⟨s,hs⟩: ∃s:Nat→Int,∀k,s k=sgnR (e k):=⟨_,fun _=>rfl⟩
   have G: ∀k,Ctr Tryz.prog Amb 22 [nm 100000 (e k)] (.one (.v (.int .i64 (s k)))):=fun k=>by rw [hs k];exact r_sign
   have hsame: ¬(u≤0∧0≤w)→s 0=s 1∧s 0≠0:=fun h=>by rw [hs 0,hs 1];exact sg_same h (hd 0).1 (hd 0).2 (hd 1).1 (hd 1).2
   clear hs hd
   refine ctr_body Tryz.func4 rfl rfl rfl rfl rfl rfl ?_
   intro W0 base D μ0 hA hD
   repeat (first
    | refine aw_seq ?_ | refine aw_block ?_ | refine aw_condT rfl ?_ | refine aw_condF rfl ?_
    | ((first | refine aw_plainK (by kernel_rfl) ?_ | refine aw_drawK (by kernel_rfl) (by kernel_rfl) (by kernel_rfl) ?_)
       repeat (first
        | refine v_skip (hl:=?_)
        | refine v_move (hl:=?_)
        | refine v_assign (hl:=?_)
        | refine v_load (hl:=?_)
        | refine v_store (hl:=?_)
        | refine v_alloc (hl:=?_)
        | refine v_buildS (hl:=?_)
        | refine v_buildA (hl:=?_)
        | refine v_bin (hl:=?_)
        | refine v_indexAddr (hl:=?_)
        | refine v_not (hl:=?_)
        | refine v_pickT (hl:=?_)
        | refine v_pickF (hl:=?_)
        | refine v_eqBool (hl:=?_)
        | refine v_callE hA (hc:=D1) (hl:=?_)
        | refine v_callE hA (hc:=D2) (hl:=?_)
        | refine v_callN hA (hc:=d_roll l) (hl:=?_)
        | refine v_callN hA (hc:=d_roll m) (hl:=?_)
        | refine v_callM hA (hc:=M1) (hl:=?_)
        | refine v_callK hA (hc:=S3) (dst:=some 27) (hl:=?_))
       apply RunK.nil;try refine And.intro (by kernel_rfl) ?_)
    | refine aw_skip ?_ | refine aw_exit ?_)
   refine aw_loop (fun n σ=> ∃k:Nat,n=2-k∧k≤2∧Wk ⟨W0,base,D,83,[],μ0⟩ σ [(5,.one (.ptr 5 0)),(6,.one (.ptr 6 0)),(7,.one (.ptr 29 0)),(8,.one (.ptr 8 0)),(9,.one (.v (.int .i64 (k:Nat))))] [(5,mlit A B),(6,[.q u 1197 0,.q u 1197 1,.q u 1197 2,.q w 1197 0,.q w 1197 1,.q w 1197 2]),(29,diceC m (p (9*k))),(8,[.v (.int .i64 (sA s k)),.v (.int .i64 (sB s k))])]) (n:=2) ⟨0,by omega,by omega,?_⟩ ?_
   ·rw [show p (9*0)=0 from hp0]
    refine wk_mk ?_ ?_ rfl
    ·repeat (first | exact nil_all | (refine List.forall_mem_cons.2 ⟨?_,?_⟩;focus (first | exact Ent.of_eq rfl | (refine Ent.one' rfl ?_;(first | exact EntC.ratsLe (by omega) | exact EntC.ratsNil | exact EntC.glNil | (refine EntC.int ?_;omega) | (refine EntC.glLen ?_;first | omega | simp) | exact EntC.of_eq rfl | (refine EntC.q rfl ?_;omega) | exact Z0 _ | exact Z2 _ | exact EntC.z0 (k:=0) | exact EntC.z1 (k:=0) | exact EntC.z2 (k:=0) | exact EntC.z0 | exact EntC.z1 | exact EntC.z2)) | (refine Ent.agg' rfl ?_;(repeat (first | exact EntL.nil' rfl | (refine EntL.cons' rfl ?_ ?_;focus (first | exact EntC.ratsLe (by omega) | exact EntC.ratsNil | exact EntC.glNil | (refine EntC.int ?_;omega) | (refine EntC.glLen ?_;first | omega | simp) | exact EntC.of_eq rfl | (refine EntC.q rfl ?_;omega) | exact Z0 _ | exact Z2 _ | exact EntC.z0 (k:=0) | exact EntC.z1 (k:=0) | exact EntC.z2 (k:=0) | exact EntC.z0 | exact EntC.z1 | exact EntC.z2))));done))))
    ·repeat (first | exact nil_all | (refine List.forall_mem_cons.2 ⟨?_,?_⟩;focus (first | exact blk_keep inferInstance | (refine blk_ok rfl ?_ rfl;focus ((repeat (first | exact EntL.nil' rfl | (refine EntL.cons' rfl ?_ ?_;focus (first | exact EntC.ratsLe (by omega) | exact EntC.ratsNil | exact EntC.glNil | (refine EntC.int ?_;omega) | (refine EntC.glLen ?_;first | omega | simp) | exact EntC.of_eq rfl | (refine EntC.q rfl ?_;omega) | exact Z0 _ | exact Z2 _ | exact EntC.z0 (k:=0) | exact EntC.z1 (k:=0) | exact EntC.z2 (k:=0) | exact EntC.z0 | exact EntC.z1 | exact EntC.z2))));done)))))
   intro n σ hI
   obtain ⟨k,hn,hk2,hw⟩:=hI
   refine aw_wk hw ?_
   clear hw D1 D2 M1 S3 hp0
   by_cases hk:k<2
   ·have bk:=binLt (k:= .i64) (decide_eq_true (show (k:Int)<2 by omega))
    have hkn:=binAdd (k:= .i64) (show (IntKind.i64).wrap ((k:Int)+1)=((k+1:Nat):Int) from IntWalk.i64_in _ (by omega))
    repeat (first
     | refine aw_seq ?_ | refine aw_block ?_ | refine aw_condT rfl ?_ | refine aw_condF rfl ?_
     | ((first | refine aw_plainK (by kernel_rfl) ?_ | refine aw_drawK (by kernel_rfl) (by kernel_rfl) (by kernel_rfl) ?_)
        repeat (first
         | refine v_skip (hl:=?_)
         | refine v_move (hl:=?_)
         | refine v_assign (hl:=?_)
         | refine v_load (hl:=?_)
         | refine v_store (hl:=?_)
         | refine v_alloc (hl:=?_)
         | refine v_buildS (hl:=?_)
         | refine v_buildA (hl:=?_)
         | refine v_bin (hl:=?_)
         | refine v_indexAddr (hl:=?_)
         | refine v_not (hl:=?_)
         | refine v_pickT (hl:=?_)
         | refine v_pickF (hl:=?_)
         | refine v_eqBool (hl:=?_))
        apply RunK.nil;try refine And.intro (by kernel_rfl) ?_)
     | refine aw_skip ?_ | refine aw_exit ?_)
    refine aw_loop (fun n σ=> ∃i:Nat,n=3-i∧i≤3∧Wk ⟨W0,base,D,83,[],μ0⟩ σ [(5,.one (.ptr 5 0)),(6,.one (.ptr 6 0)),(7,.one (.ptr 29 0)),(8,.one (.ptr 8 0)),(9,.one (.v (.int .i64 (k:Nat)))),(10,.one (.ptr 10 0)),(11,.one (.v (.int .i64 (i:Nat))))] [(5,mlit A B),(6,[.q u 1197 0,.q u 1197 1,.q u 1197 2,.q w 1197 0,.q w 1197 1,.q w 1197 2]),(29,diceC m (p (9*k+3*i))),(8,[.v (.int .i64 (sA s k)),.v (.int .i64 (sB s k))]),(10,blkL (nmD 25) (xL (x k) (3*i)))]) (n:=3) ⟨0,by omega,by omega,?_⟩ ?_
    ·refine wk_mk ?_ ?_ rfl
     ·repeat (first | exact nil_all | (refine List.forall_mem_cons.2 ⟨?_,?_⟩;focus (first | exact Ent.of_eq rfl | (refine Ent.one' rfl ?_;(first | exact EntC.ratsLe (by omega) | exact EntC.ratsNil | exact EntC.glNil | (refine EntC.int ?_;omega) | (refine EntC.glLen ?_;first | omega | simp) | exact EntC.of_eq rfl | (refine EntC.q rfl ?_;omega) | exact Z0 _ | exact Z2 _ | exact EntC.z0 (k:=0) | exact EntC.z1 (k:=0) | exact EntC.z2 (k:=0) | exact EntC.z0 | exact EntC.z1 | exact EntC.z2)) | (refine Ent.agg' rfl ?_;(repeat (first | exact EntL.nil' rfl | (refine EntL.cons' rfl ?_ ?_;focus (first | exact EntC.ratsLe (by omega) | exact EntC.ratsNil | exact EntC.glNil | (refine EntC.int ?_;omega) | (refine EntC.glLen ?_;first | omega | simp) | exact EntC.of_eq rfl | (refine EntC.q rfl ?_;omega) | exact Z0 _ | exact Z2 _ | exact EntC.z0 (k:=0) | exact EntC.z1 (k:=0) | exact EntC.z2 (k:=0) | exact EntC.z0 | exact EntC.z1 | exact EntC.z2))));done))))
     ·repeat (first | exact nil_all | (refine List.forall_mem_cons.2 ⟨?_,?_⟩;focus (first | exact blk_keep inferInstance | (refine blk_ok rfl ?_ rfl;focus ((repeat (first | exact EntL.nil' rfl | (refine EntL.cons' rfl ?_ ?_;focus (first | exact EntC.ratsLe (by omega) | exact EntC.ratsNil | exact EntC.glNil | (refine EntC.int ?_;omega) | (refine EntC.glLen ?_;first | omega | simp) | exact EntC.of_eq rfl | (refine EntC.q rfl ?_;omega) | exact Z0 _ | exact Z2 _ | exact EntC.z0 (k:=0) | exact EntC.z1 (k:=0) | exact EntC.z2 (k:=0) | exact EntC.z0 | exact EntC.z1 | exact EntC.z2))));done)))))
    intro n1 σ hI
    obtain ⟨i,hn1,hi3,hw⟩:=hI
    refine aw_wk hw ?_
    clear hw
    by_cases hi:i<3
    ·have bi:=binLt (k:= .i64) (decide_eq_true (show (i:Int)<3 by omega))
     have hin:=binAdd (k:= .i64) (show (IntKind.i64).wrap ((i:Int)+1)=((i+1:Nat):Int) from IntWalk.i64_in _ (by omega))
     repeat (first
      | refine aw_seq ?_ | refine aw_block ?_ | refine aw_condT rfl ?_ | refine aw_condF rfl ?_
      | ((first | refine aw_plainK (by kernel_rfl) ?_ | refine aw_drawK (by kernel_rfl) (by kernel_rfl) (by kernel_rfl) ?_)
         repeat (first
          | refine v_skip (hl:=?_)
          | refine v_move (hl:=?_)
          | refine v_assign (hl:=?_)
          | refine v_load (hl:=?_)
          | refine v_store (hl:=?_)
          | refine v_alloc (hl:=?_)
          | refine v_buildS (hl:=?_)
          | refine v_buildA (hl:=?_)
          | refine v_bin (hl:=?_)
          | refine v_indexAddr (hl:=?_)
          | refine v_not (hl:=?_)
          | refine v_pickT (hl:=?_)
          | refine v_pickF (hl:=?_)
          | refine v_eqBool (hl:=?_))
         apply RunK.nil;try refine And.intro (by kernel_rfl) ?_)
      | refine aw_skip ?_ | refine aw_exit ?_)
     refine aw_loop (fun n σ=> ∃j:Nat,n=3-j∧j≤3∧Wk ⟨W0,base,D,83,[],μ0⟩ σ [(5,.one (.ptr 5 0)),(6,.one (.ptr 6 0)),(7,.one (.ptr 29 0)),(8,.one (.ptr 8 0)),(9,.one (.v (.int .i64 (k:Nat)))),(10,.one (.ptr 10 0)),(11,.one (.v (.int .i64 (i:Nat)))),(12,.one (.v (.int .i64 (j:Nat))))] [(5,mlit A B),(6,[.q u 1197 0,.q u 1197 1,.q u 1197 2,.q w 1197 0,.q w 1197 1,.q w 1197 2]),(29,diceC m (p (9*k+(3*i+j)))),(8,[.v (.int .i64 (sA s k)),.v (.int .i64 (sB s k))]),(10,blkL (nmD 25) (xL (x k) (3*i+j)))]) (n:=3) ⟨0,by omega,by omega,?_⟩ ?_
     ·refine wk_mk ?_ ?_ rfl
      ·repeat (first | exact nil_all | (refine List.forall_mem_cons.2 ⟨?_,?_⟩;focus (first | exact Ent.of_eq rfl | (refine Ent.one' rfl ?_;(first | exact EntC.ratsLe (by omega) | exact EntC.ratsNil | exact EntC.glNil | (refine EntC.int ?_;omega) | (refine EntC.glLen ?_;first | omega | simp) | exact EntC.of_eq rfl | (refine EntC.q rfl ?_;omega) | exact Z0 _ | exact Z2 _ | exact EntC.z0 (k:=0) | exact EntC.z1 (k:=0) | exact EntC.z2 (k:=0) | exact EntC.z0 | exact EntC.z1 | exact EntC.z2)) | (refine Ent.agg' rfl ?_;(repeat (first | exact EntL.nil' rfl | (refine EntL.cons' rfl ?_ ?_;focus (first | exact EntC.ratsLe (by omega) | exact EntC.ratsNil | exact EntC.glNil | (refine EntC.int ?_;omega) | (refine EntC.glLen ?_;first | omega | simp) | exact EntC.of_eq rfl | (refine EntC.q rfl ?_;omega) | exact Z0 _ | exact Z2 _ | exact EntC.z0 (k:=0) | exact EntC.z1 (k:=0) | exact EntC.z2 (k:=0) | exact EntC.z0 | exact EntC.z1 | exact EntC.z2))));done))))
      ·repeat (first | exact nil_all | (refine List.forall_mem_cons.2 ⟨?_,?_⟩;focus (first | exact blk_keep inferInstance | (refine blk_ok rfl ?_ rfl;focus ((repeat (first | exact EntL.nil' rfl | (refine EntL.cons' rfl ?_ ?_;focus (first | exact EntC.ratsLe (by omega) | exact EntC.ratsNil | exact EntC.glNil | (refine EntC.int ?_;omega) | (refine EntC.glLen ?_;first | omega | simp) | exact EntC.of_eq rfl | (refine EntC.q rfl ?_;omega) | exact Z0 _ | exact Z2 _ | exact EntC.z0 (k:=0) | exact EntC.z1 (k:=0) | exact EntC.z2 (k:=0) | exact EntC.z0 | exact EntC.z1 | exact EntC.z2))));done)))))
     intro n2 σ hI
     obtain ⟨j,hn2,hj3,hw⟩:=hI
     refine aw_wk hw ?_
     clear hw
     by_cases hj:j<3
     ·have bj:=binLt (k:= .i64) (decide_eq_true (show (j:Int)<3 by omega))
      have hjn:=binAdd (k:= .i64) (show (IntKind.i64).wrap ((j:Int)+1)=((j+1:Nat):Int) from IntWalk.i64_in _ (by omega))
      have li:(0:Int)≤((i:Nat):Int)∧((i:Nat):Int)<(3:Nat):=by omega
      have lj:(0:Int)≤((j:Nat):Int)∧((j:Nat):Int)<(3:Nat):=by omega
      obtain ⟨q,hq⟩: ∃q,q=3*i+j:=⟨_,rfl⟩
      have o1:0+((i:Nat):Int).toNat*18=18*i:=by rw [Int.toNat_natCast];omega
      have o2:18*i+((j:Nat):Int).toNat*6=(2*q)*3:=by rw [Int.toNat_natCast];omega
      have o3:0+((i:Nat):Int).toNat*9=9*i:=by rw [Int.toNat_natCast];omega
      have o4:9*i+((j:Nat):Int).toNat*3=q*3:=by rw [Int.toNat_natCast];omega
      rw [←hq]
      have q9:q<9:=by omega
      have ld:rdL (rowOf (mlit A B)) (2*q*3) 6=_:=(mx_cells A B)▸mx_rd A B q9
      have r0:=xL_row (x:=x k) q9
      have st:q*3+3≤(blkL (nmD 25) (xL (x k) q)).length:=by rw [blkL_len (n:=3) inferInstance,xL_len];omega
      have st1:2*q*3+6≤(mlit A B).length:=by show _≤54;omega
      have lz:(blkL (nmD 25) (xL (x k) q)).length=(xL (x k) (q+1)).length*3:=by rw [blkL_len (n:=3) inferInstance,xL_len,xL_len]
      have N':=N (9*k+q)
      have W':=W k q
      repeat (first
       | refine aw_seq ?_ | refine aw_block ?_ | refine aw_condT rfl ?_ | refine aw_condF rfl ?_
       | ((first | refine aw_plainK (by kernel_rfl) ?_ | refine aw_drawK (by kernel_rfl) (by kernel_rfl) (by kernel_rfl) ?_)
          repeat (first
           | refine v_indexAddrE _ li o1 (hl:=?_)
           | refine v_indexAddrE _ li o3 (hl:=?_)
           | refine v_indexAddrE _ lj o2 (hl:=?_)
           | refine v_indexAddrE _ lj o4 (hl:=?_)
           | refine v_loadG (k:=5) (off:=2*q*3) st1 ld (hl:=?_)
           | refine v_storeG (k:=10) (off:=q*3) st (hl:=?_)
           | refine v_skip (hl:=?_)
           | refine v_move (hl:=?_)
           | refine v_assign (hl:=?_)
           | refine v_load (hl:=?_)
           | refine v_store (hl:=?_)
           | refine v_alloc (hl:=?_)
           | refine v_buildS (hl:=?_)
           | refine v_buildA (hl:=?_)
           | refine v_bin (hl:=?_)
           | refine v_indexAddr (hl:=?_)
           | refine v_not (hl:=?_)
           | refine v_pickT (hl:=?_)
           | refine v_pickF (hl:=?_)
           | refine v_eqBool (hl:=?_)
           | refine v_callM hA (hc:=N') (hl:=?_)
           | refine v_callE hA (hc:=W') (hl:=?_))
          apply RunK.nil;try refine And.intro (by kernel_rfl) ?_)
       | refine aw_skip ?_ | refine aw_exit ?_)
      refine ⟨n2-1,by omega,j+1,by omega,by omega,?_⟩
      rw [show 9*k+(3*i+(j+1))=9*k+q+1 by omega,show 3*i+(j+1)=q+1 by omega]
      refine wk_mk ?_ ?_ rfl
      ·repeat (first | exact nil_all | (refine List.forall_mem_cons.2 ⟨?_,?_⟩;focus (first | exact Ent.of_eq rfl | (refine Ent.one' rfl ?_;(first | exact EntC.ratsLe (by omega) | exact EntC.ratsNil | exact EntC.glNil | (refine EntC.int ?_;omega) | (refine EntC.glLen ?_;first | omega | simp) | exact EntC.of_eq rfl | (refine EntC.q rfl ?_;omega) | exact Z0 _ | exact Z2 _ | exact EntC.z0 (k:=0) | exact EntC.z1 (k:=0) | exact EntC.z2 (k:=0) | exact EntC.z0 | exact EntC.z1 | exact EntC.z2)) | (refine Ent.agg' rfl ?_;(repeat (first | exact EntL.nil' rfl | (refine EntL.cons' rfl ?_ ?_;focus (first | exact EntC.ratsLe (by omega) | exact EntC.ratsNil | exact EntC.glNil | (refine EntC.int ?_;omega) | (refine EntC.glLen ?_;first | omega | simp) | exact EntC.of_eq rfl | (refine EntC.q rfl ?_;omega) | exact Z0 _ | exact Z2 _ | exact EntC.z0 (k:=0) | exact EntC.z1 (k:=0) | exact EntC.z2 (k:=0) | exact EntC.z0 | exact EntC.z1 | exact EntC.z2))));done))))
      ·repeat (first | exact nil_all | (refine List.forall_mem_cons.2 ⟨?_,?_⟩;focus (first | exact blk_keep inferInstance | (exact blk_row (z:=(blkL (nmD 25) (xL (x k) q)).length) inferInstance r0 lz) | (refine blk_ok rfl ?_ rfl;focus ((repeat (first | exact EntL.nil' rfl | (refine EntL.cons' rfl ?_ ?_;focus (first | exact EntC.ratsLe (by omega) | exact EntC.ratsNil | exact EntC.glNil | (refine EntC.int ?_;omega) | (refine EntC.glLen ?_;first | omega | simp) | exact EntC.of_eq rfl | (refine EntC.q rfl ?_;omega) | exact Z0 _ | exact Z2 _ | exact EntC.z0 (k:=0) | exact EntC.z1 (k:=0) | exact EntC.z2 (k:=0) | exact EntC.z0 | exact EntC.z1 | exact EntC.z2))));done)))))
     ·have hj':j=3:=by omega
      subst hj'
      repeat (first
       | refine aw_seq ?_ | refine aw_block ?_ | refine aw_condT rfl ?_ | refine aw_condF rfl ?_
       | ((first | refine aw_plainK (by kernel_rfl) ?_ | refine aw_drawK (by kernel_rfl) (by kernel_rfl) (by kernel_rfl) ?_)
          repeat (first
           | refine v_skip (hl:=?_)
           | refine v_move (hl:=?_)
           | refine v_assign (hl:=?_)
           | refine v_load (hl:=?_)
           | refine v_store (hl:=?_)
           | refine v_alloc (hl:=?_)
           | refine v_buildS (hl:=?_)
           | refine v_buildA (hl:=?_)
           | refine v_bin (hl:=?_)
           | refine v_indexAddr (hl:=?_)
           | refine v_not (hl:=?_)
           | refine v_pickT (hl:=?_)
           | refine v_pickF (hl:=?_)
           | refine v_eqBool (hl:=?_))
          apply RunK.nil;try refine And.intro (by kernel_rfl) ?_)
       | refine aw_skip ?_ | refine aw_exit ?_)
      refine ⟨n1-1,by omega,i+1,by omega,by omega,?_⟩
      rw [show 3*(i+1)=3*i+3 by omega]
      refine wk_mk ?_ ?_ rfl
      ·repeat (first | exact nil_all | (refine List.forall_mem_cons.2 ⟨?_,?_⟩;focus (first | exact Ent.of_eq rfl | (refine Ent.one' rfl ?_;(first | exact EntC.ratsLe (by omega) | exact EntC.ratsNil | exact EntC.glNil | (refine EntC.int ?_;omega) | (refine EntC.glLen ?_;first | omega | simp) | exact EntC.of_eq rfl | (refine EntC.q rfl ?_;omega) | exact Z0 _ | exact Z2 _ | exact EntC.z0 (k:=0) | exact EntC.z1 (k:=0) | exact EntC.z2 (k:=0) | exact EntC.z0 | exact EntC.z1 | exact EntC.z2)) | (refine Ent.agg' rfl ?_;(repeat (first | exact EntL.nil' rfl | (refine EntL.cons' rfl ?_ ?_;focus (first | exact EntC.ratsLe (by omega) | exact EntC.ratsNil | exact EntC.glNil | (refine EntC.int ?_;omega) | (refine EntC.glLen ?_;first | omega | simp) | exact EntC.of_eq rfl | (refine EntC.q rfl ?_;omega) | exact Z0 _ | exact Z2 _ | exact EntC.z0 (k:=0) | exact EntC.z1 (k:=0) | exact EntC.z2 (k:=0) | exact EntC.z0 | exact EntC.z1 | exact EntC.z2))));done))))
      ·repeat (first | exact nil_all | (refine List.forall_mem_cons.2 ⟨?_,?_⟩;focus (first | exact blk_keep inferInstance | (refine blk_ok rfl ?_ rfl;focus ((repeat (first | exact EntL.nil' rfl | (refine EntL.cons' rfl ?_ ?_;focus (first | exact EntC.ratsLe (by omega) | exact EntC.ratsNil | exact EntC.glNil | (refine EntC.int ?_;omega) | (refine EntC.glLen ?_;first | omega | simp) | exact EntC.of_eq rfl | (refine EntC.q rfl ?_;omega) | exact Z0 _ | exact Z2 _ | exact EntC.z0 (k:=0) | exact EntC.z1 (k:=0) | exact EntC.z2 (k:=0) | exact EntC.z0 | exact EntC.z1 | exact EntC.z2))));done)))))
    ·have hi':i=3:=by omega
     subst hi'
     rw [show (3*3:Nat)=9 from rfl,xL_cells]
     have Dt':=Dt k
     have HT':=HT k
     have G':=G k
     have hk':k=0∨k=1:=by omega
     rcases hk' with rfl | rfl
     ·repeat (first
       | refine aw_seq ?_ | refine aw_block ?_ | refine aw_condT rfl ?_ | refine aw_condF rfl ?_
       | ((first | refine aw_plainK (by kernel_rfl) ?_ | refine aw_drawK (by kernel_rfl) (by kernel_rfl) (by kernel_rfl) ?_)
          repeat (first
           | refine v_skip (hl:=?_)
           | refine v_move (hl:=?_)
           | refine v_assign (hl:=?_)
           | refine v_load (hl:=?_)
           | refine v_store (hl:=?_)
           | refine v_alloc (hl:=?_)
           | refine v_buildS (hl:=?_)
           | refine v_buildA (hl:=?_)
           | refine v_bin (hl:=?_)
           | refine v_indexAddr (hl:=?_)
           | refine v_not (hl:=?_)
           | refine v_pickT (hl:=?_)
           | refine v_pickF (hl:=?_)
           | refine v_eqBool (hl:=?_)
           | refine v_callE hA (hc:=HT') (hl:=?_)
           | refine v_callE hA (hc:=G') (hl:=?_)
           | refine v_callK hA (hc:=Dt') (dst:=some 56) (hl:=?_))
          apply RunK.nil;try refine And.intro (by kernel_rfl) ?_)
       | refine aw_skip ?_ | refine aw_exit ?_)
      refine ⟨1,by omega,1,by omega,by omega,?_⟩
      refine wk_mk ?_ ?_ rfl
      ·repeat (first | exact nil_all | (refine List.forall_mem_cons.2 ⟨?_,?_⟩;focus (first | exact Ent.of_eq rfl | (refine Ent.one' rfl ?_;(first | exact EntC.ratsLe (by omega) | exact EntC.ratsNil | exact EntC.glNil | (refine EntC.int ?_;omega) | (refine EntC.glLen ?_;first | omega | simp) | exact EntC.of_eq rfl | (refine EntC.q rfl ?_;omega) | exact Z0 _ | exact Z2 _ | exact EntC.z0 (k:=0) | exact EntC.z1 (k:=0) | exact EntC.z2 (k:=0) | exact EntC.z0 | exact EntC.z1 | exact EntC.z2)) | (refine Ent.agg' rfl ?_;(repeat (first | exact EntL.nil' rfl | (refine EntL.cons' rfl ?_ ?_;focus (first | exact EntC.ratsLe (by omega) | exact EntC.ratsNil | exact EntC.glNil | (refine EntC.int ?_;omega) | (refine EntC.glLen ?_;first | omega | simp) | exact EntC.of_eq rfl | (refine EntC.q rfl ?_;omega) | exact Z0 _ | exact Z2 _ | exact EntC.z0 (k:=0) | exact EntC.z1 (k:=0) | exact EntC.z2 (k:=0) | exact EntC.z0 | exact EntC.z1 | exact EntC.z2))));done))))
      ·repeat (first | exact nil_all | (refine List.forall_mem_cons.2 ⟨?_,?_⟩;focus (first | exact blk_keep inferInstance | (refine blk_ok rfl ?_ rfl;focus ((repeat (first | exact EntL.nil' rfl | (refine EntL.cons' rfl ?_ ?_;focus (first | exact EntC.ratsLe (by omega) | exact EntC.ratsNil | exact EntC.glNil | (refine EntC.int ?_;omega) | (refine EntC.glLen ?_;first | omega | simp) | exact EntC.of_eq rfl | (refine EntC.q rfl ?_;omega) | exact Z0 _ | exact Z2 _ | exact EntC.z0 (k:=0) | exact EntC.z1 (k:=0) | exact EntC.z2 (k:=0) | exact EntC.z0 | exact EntC.z1 | exact EntC.z2))));done)))))
     ·repeat (first
       | refine aw_seq ?_ | refine aw_block ?_ | refine aw_condT rfl ?_ | refine aw_condF rfl ?_
       | ((first | refine aw_plainK (by kernel_rfl) ?_ | refine aw_drawK (by kernel_rfl) (by kernel_rfl) (by kernel_rfl) ?_)
          repeat (first
           | refine v_skip (hl:=?_)
           | refine v_move (hl:=?_)
           | refine v_assign (hl:=?_)
           | refine v_load (hl:=?_)
           | refine v_store (hl:=?_)
           | refine v_alloc (hl:=?_)
           | refine v_buildS (hl:=?_)
           | refine v_buildA (hl:=?_)
           | refine v_bin (hl:=?_)
           | refine v_indexAddr (hl:=?_)
           | refine v_not (hl:=?_)
           | refine v_pickT (hl:=?_)
           | refine v_pickF (hl:=?_)
           | refine v_eqBool (hl:=?_)
           | refine v_callE hA (hc:=HT') (hl:=?_)
           | refine v_callE hA (hc:=G') (hl:=?_)
           | refine v_callK hA (hc:=Dt') (dst:=some 56) (hl:=?_))
          apply RunK.nil;try refine And.intro (by kernel_rfl) ?_)
       | refine aw_skip ?_ | refine aw_exit ?_)
      refine ⟨0,by omega,2,by omega,by omega,?_⟩
      refine wk_mk ?_ ?_ rfl
      ·repeat (first | exact nil_all | (refine List.forall_mem_cons.2 ⟨?_,?_⟩;focus (first | exact Ent.of_eq rfl | (refine Ent.one' rfl ?_;(first | exact EntC.ratsLe (by omega) | exact EntC.ratsNil | exact EntC.glNil | (refine EntC.int ?_;omega) | (refine EntC.glLen ?_;first | omega | simp) | exact EntC.of_eq rfl | (refine EntC.q rfl ?_;omega) | exact Z0 _ | exact Z2 _ | exact EntC.z0 (k:=0) | exact EntC.z1 (k:=0) | exact EntC.z2 (k:=0) | exact EntC.z0 | exact EntC.z1 | exact EntC.z2)) | (refine Ent.agg' rfl ?_;(repeat (first | exact EntL.nil' rfl | (refine EntL.cons' rfl ?_ ?_;focus (first | exact EntC.ratsLe (by omega) | exact EntC.ratsNil | exact EntC.glNil | (refine EntC.int ?_;omega) | (refine EntC.glLen ?_;first | omega | simp) | exact EntC.of_eq rfl | (refine EntC.q rfl ?_;omega) | exact Z0 _ | exact Z2 _ | exact EntC.z0 (k:=0) | exact EntC.z1 (k:=0) | exact EntC.z2 (k:=0) | exact EntC.z0 | exact EntC.z1 | exact EntC.z2))));done))))
      ·repeat (first | exact nil_all | (refine List.forall_mem_cons.2 ⟨?_,?_⟩;focus (first | exact blk_keep inferInstance | (refine blk_ok rfl ?_ rfl;focus ((repeat (first | exact EntL.nil' rfl | (refine EntL.cons' rfl ?_ ?_;focus (first | exact EntC.ratsLe (by omega) | exact EntC.ratsNil | exact EntC.glNil | (refine EntC.int ?_;omega) | (refine EntC.glLen ?_;first | omega | simp) | exact EntC.of_eq rfl | (refine EntC.q rfl ?_;omega) | exact Z0 _ | exact Z2 _ | exact EntC.z0 (k:=0) | exact EntC.z1 (k:=0) | exact EntC.z2 (k:=0) | exact EntC.z0 | exact EntC.z1 | exact EntC.z2))));done)))))
   ·have hk':k=2:=by omega
    subst hk'
    rw [show sA s 2=s 0 from rfl,show sB s 2=s 1 from rfl]
    by_cases h0:u≤0∧0≤w
    ·have H:=s_hasT (j1:=1197) (j2:=1197) (j3:=0) h0.1 h0.2 (by decide) (by decide) (by decide)
     repeat (first
      | refine aw_seq ?_ | refine aw_block ?_ | refine aw_condT rfl ?_ | refine aw_condF rfl ?_
      | ((first | refine aw_plainK (by kernel_rfl) ?_ | refine aw_drawK (by kernel_rfl) (by kernel_rfl) (by kernel_rfl) ?_)
         repeat (first
          | refine v_skip (hl:=?_)
          | refine v_move (hl:=?_)
          | refine v_assign (hl:=?_)
          | refine v_load (hl:=?_)
          | refine v_store (hl:=?_)
          | refine v_alloc (hl:=?_)
          | refine v_buildS (hl:=?_)
          | refine v_buildA (hl:=?_)
          | refine v_bin (hl:=?_)
          | refine v_indexAddr (hl:=?_)
          | refine v_not (hl:=?_)
          | refine v_pickT (hl:=?_)
          | refine v_pickF (hl:=?_)
          | refine v_eqBool (hl:=?_)
          | refine v_call hA (hc:=H) (hl:=?_)
          | refine v_callE hA (hc:=awake3) (hl:=?_)
          | (apply u_skipU;(case hg=>exact rfl)))
         apply RunK.nil;try refine And.intro (by kernel_rfl) ?_)
      | refine aw_skip ?_ | refine aw_exit ?_)
     refine aw_ret (And.intro (Or.inr rfl) ?_)
     exact f_one
    ·have hf:(decide (cmpR u 0≤0)&&decide (cmpR 0 w≤0))=false:=by
      rw [←Bool.decide_and]
      exact decide_eq_false fun h2=>h0 ⟨cmp_le0.1 h2.1,cmp_le0.1 h2.2⟩
     have H:=s_has (a:=u) (b:=w) (x:=0) (j1:=1197) (j2:=1197) (j3:=0) rfl rfl (by decide) (by decide) (by decide)
     rw [hf] at H
     obtain ⟨g1,g2⟩:=hsame h0
     have bq:=binEq (k:= .i64) (decide_eq_true g1)
     have bn:binR .neq .i64 (s 0) 0=some (.bool true):=by show some (Value.bool (s 0 !=0))=_;simp [g2]
     repeat (first
      | refine aw_seq ?_ | refine aw_block ?_ | refine aw_condT rfl ?_ | refine aw_condF rfl ?_
      | ((first | refine aw_plainK (by kernel_rfl) ?_ | refine aw_drawK (by kernel_rfl) (by kernel_rfl) (by kernel_rfl) ?_)
         repeat (first
          | refine v_skip (hl:=?_)
          | refine v_move (hl:=?_)
          | refine v_assign (hl:=?_)
          | refine v_load (hl:=?_)
          | refine v_store (hl:=?_)
          | refine v_alloc (hl:=?_)
          | refine v_buildS (hl:=?_)
          | refine v_buildA (hl:=?_)
          | refine v_bin (hl:=?_)
          | refine v_indexAddr (hl:=?_)
          | refine v_not (hl:=?_)
          | refine v_pickT (hl:=?_)
          | refine v_pickF (hl:=?_)
          | refine v_eqBool (hl:=?_)
          | refine v_call hA (hc:=H) (hl:=?_)
          | refine v_callE hA (hc:=awake3) (hl:=?_))
         apply RunK.nil;try refine And.intro (by kernel_rfl) ?_)
      | refine aw_skip ?_ | refine aw_exit ?_)
     refine aw_ret (And.intro (Or.inr rfl) ?_)
     exact f_one
  ·have D2:=light' (decide_eq_false hM)
   refine ctr_body Tryz.func4 rfl rfl rfl rfl rfl rfl ?_
   intro W0 base D μ0 hA hD
   repeat (first
    | refine aw_seq ?_ | refine aw_block ?_ | refine aw_condT rfl ?_ | refine aw_condF rfl ?_ | refine aw_loopN 6 ?_
    | ((first | refine aw_plainK (by kernel_rfl) ?_ | refine aw_drawK (by kernel_rfl) (by kernel_rfl) (by kernel_rfl) ?_)
       repeat (first
        | refine v_skip (hl:=?_)
        | refine v_move (hl:=?_)
        | refine v_assign (hl:=?_)
        | refine v_load (hl:=?_)
        | refine v_store (hl:=?_)
        | refine v_alloc (hl:=?_)
        | refine v_buildS (hl:=?_)
        | refine v_buildA (hl:=?_)
        | refine v_binL (hl:=?_)
        | refine v_indexAddrTo 0 (hl:=?_)
        | refine v_indexAddrTo 3 (hl:=?_)
        | refine v_indexAddrTo 6 (hl:=?_)
        | refine v_indexAddr (hl:=?_)
        | refine v_not (hl:=?_)
        | refine v_pickT (hl:=?_)
        | refine v_pickF (hl:=?_)
        | refine v_eqBool (hl:=?_)
        | refine v_allocAt 1000 (hl:=?_)
        | refine v_allocAt 2000 (hl:=?_)
        | refine v_callE hA (hc:=D1) (hl:=?_)
        | refine v_callE hA (hc:=D2) (hl:=?_)
        | refine v_callE hA (hc:=awake3) (hl:=?_))
       apply RunK.nil;try refine And.intro (by kernel_rfl) ?_)
    | refine aw_skip ?_ | refine aw_exit ?_)
   refine aw_ret (And.intro (Or.inr rfl) ?_)
   exact f_one
 ·have D1:=light' (decide_eq_false hL)
  refine ctr_body Tryz.func4 rfl rfl rfl rfl rfl rfl ?_
  intro W0 base D μ0 hA hD
  repeat (first
   | refine aw_seq ?_ | refine aw_block ?_ | refine aw_condT rfl ?_ | refine aw_condF rfl ?_ | refine aw_loopN 6 ?_
   | ((first | refine aw_plainK (by kernel_rfl) ?_ | refine aw_drawK (by kernel_rfl) (by kernel_rfl) (by kernel_rfl) ?_)
      repeat (first
       | refine v_skip (hl:=?_)
       | refine v_move (hl:=?_)
       | refine v_assign (hl:=?_)
       | refine v_load (hl:=?_)
       | refine v_store (hl:=?_)
       | refine v_alloc (hl:=?_)
       | refine v_buildS (hl:=?_)
       | refine v_buildA (hl:=?_)
       | refine v_binL (hl:=?_)
       | refine v_indexAddrTo 0 (hl:=?_)
       | refine v_indexAddrTo 3 (hl:=?_)
       | refine v_indexAddrTo 6 (hl:=?_)
       | refine v_indexAddr (hl:=?_)
       | refine v_not (hl:=?_)
       | refine v_pickT (hl:=?_)
       | refine v_pickF (hl:=?_)
       | refine v_eqBool (hl:=?_)
       | refine v_allocAt 1000 (hl:=?_)
       | refine v_allocAt 2000 (hl:=?_)
       | refine v_callE hA (hc:=D1) (hl:=?_)
       | refine v_callE hA (hc:=awake3) (hl:=?_))
      apply RunK.nil;try refine And.intro (by kernel_rfl) ?_)
   | refine aw_skip ?_ | refine aw_exit ?_)
  refine aw_ret (And.intro (Or.inr rfl) ?_)
  exact f_one
end regular
end Go.Proofs.YtgdlialkjiblpaaGreatDoor
