/-
  Several texts in one: Zt, Zu, Zv, Zw.
-/
import Derived.Test.YtdgjkohkmdpcdaaGreatDoorHt
namespace Go.Proofs.YtdgjkohkmdpcdaaGreatDoor
open Go.RowKit
set_option linter.unusedVariables false
set_option linter.unusedSimpArgs false
set_option maxRecDepth 20000
set_option maxHeartbeats 4000000
theorem liftN_congr {f g:Nat→Rat} {d:Nat} (h: ∀q,q≤d→f q=g q): ∀e k,k≤d+e→liftN f d e k=liftN g d e k
 | 0,k,hk=>h k (by omega)
 | e+1,k,hk=>by
   show liftR (liftN f d e) (d+e+1) k=liftR (liftN g d e) (d+e+1) k
   exact liftR_congr (by omega) (by omega) fun q hq=>liftN_congr h e q (by omega)
theorem liftN_scale (c:Rat) (f:Nat→Rat) (d:Nat): ∀e k,liftN (fun i=>c*f i) d e k=c*liftN f d e k
 | 0,k=>rfl
 | e+1,k=>by
   show liftR (liftN (fun i=>c*f i) d e) (d+e+1) k=c*liftR (liftN f d e) (d+e+1) k
   unfold liftR
   by_cases h0:k=0
   ·rw [if_pos h0,if_pos h0,liftN_scale c f d e]
   ·rw [if_neg h0,if_neg h0]
    by_cases h1:k=d+e+1
    ·rw [if_pos h1,if_pos h1,liftN_scale c f d e]
    ·rw [if_neg h1,if_neg h1,liftN_scale c f d e,liftN_scale c f d e]
     grind
theorem t_scale {js j d:Nat} {l:List Rat} {s:Rat} (hl:l.length=d+1) (hd:d≤1000) (h1:js≤10000000) (h2:j≤10000000):
  Ctr Tryz.prog Amb 34 [nm js s,.one (rats j l)] (.one (ratT (js+j+2) (d+1) fun i=>s*cf l i)):=by
 obtain ⟨R,hR⟩: ∃R,R=tab (d+1) fun i=>s*cf l i:=⟨_,rfl⟩
 unfold ratT
 rw [←hR]
 refine ctr_body Tryz.func34 rfl rfl rfl rfl rfl rfl ?_
 intro W0 base D μ0 hA hD
 repeat (first | refine aw_seq ?_ | refine aw_block ?_ | refine aw_condT rfl ?_ | refine aw_condF rfl ?_ | refine aw_pa ?_ | refine aw_da ?_ | refine aw_skip ?_ | refine aw_exit ?_)
 rw [hl]
 refine aw_loop (fun m σ=> ∃(i:Nat) (cur:List Rat),m=d+1-i∧i≤d+1∧cur=tab (d+1) (fun q=>if q<i then s*cf l q else 0)∧Wk ⟨W0,base,D,26,[],μ0⟩ σ [(1,.one (rats j l)),(2,.one (.ptr 2 0)),(5,.one (.gl 9 (d+1) 3)),(6,errV (i:Nat))] [(2,nmC js s),(9,blkL (nmD (js+j+2)) cur)]) (n:=d+1) ⟨0,List.replicate (d+1) 0,by omega,by omega,tab_rep.trans (tab_congr fun q _=>(if_neg (Nat.not_lt_zero q)).symm),?_⟩ ?_
 ·exact wk_a
 intro m σ hI
 obtain ⟨i,cur,hm,hi0,hcur,hw⟩:=hI
 refine aw_wk hw ?_
 clear hw
 have hcl:cur.length=d+1:=by rw [hcur];simp
 by_cases hi:i<d+1
 ·have bi:=binLt (k:= .i64) (decide_eq_true (show (i:Int)<(l.length:Int) by omega))
  have hin:=binAdd (k:= .i64) (show (IntKind.i64).wrap ((i:Int)+1)=((i+1:Nat):Int) from IntWalk.i64_in _ (by omega))
  have hx:l[((i:Nat):Int).toNat]?=some (cf l i):=getD_at (by omega)
  have hlt:(0:Int)≤((i:Nat):Int)∧((i:Nat):Int)<((d+1:Nat):Int):=by omega
  have hst:((i:Nat):Int).toNat*3+3≤(blkL (nmD (js+j+2)) cur).length:=by rw [blkL_len (n:=3) inferInstance,hcl,Int.toNat_natCast];omega
  have M1:=r_mul (j:=js) (k:=j) (x:=s) (y:=cf l i) (by omega) (by omega)
  have ht:cur.set i (s*cf l i)=tab (d+1) (fun q=>if q<i+1 then s*cf l q else 0):=by
   rw [hcur]
   refine tab_set hi (if_pos (by omega)) fun q hq hqi=>?_
   by_cases h1:q<i
   ·rw [if_pos h1,if_pos (by omega)]
   ·rw [if_neg h1,if_neg (by omega)]
  generalize cf l i=x at*
  repeat (first | refine aw_seq ?_ | refine aw_block ?_ | refine aw_condT rfl ?_ | refine aw_condF rfl ?_ | refine aw_pa ?_ | refine aw_da ?_ | refine aw_skip ?_ | refine aw_exit ?_)
  refine ⟨m-1,by omega,i+1,cur.set i (s*x),by omega,by omega,ht,?_⟩
  exact wk_a
 ·have bi:=binLt (k:= .i64) (decide_eq_false (show ¬(i:Int)<(l.length:Int) by omega))
  have he:cur=R:=by rw [hcur,hR];exact tab_congr fun q hq=>if_pos (by omega)
  subst he
  rw [←hcl]
  repeat (first | refine aw_seq ?_ | refine aw_block ?_ | refine aw_condT rfl ?_ | refine aw_condF rfl ?_ | refine aw_pa ?_ | refine aw_da ?_ | refine aw_skip ?_ | refine aw_exit ?_)
  refine aw_freeze 9 hD (ss:= [(4,.one (rats (js+j+2) cur))]) (bs:= []) ?_ ?_
  ·refine fk_mk ?_ ?_ rfl
   ·repeat (first | exact nil_all | (refine List.forall_mem_cons.2 ⟨?_,?_⟩;focus (first | exact fz_blk inferInstance | refine FzA.ent ?_;first | exact Ent.of_eq rfl | (refine Ent.one' rfl ?_;(first | exact EntC.ratsLe (by omega) | exact EntC.ratsNil | exact EntC.glNil | (refine EntC.int ?_;omega) | (refine EntC.glLen ?_;first | omega | simp) | exact EntC.of_eq rfl | (refine EntC.q rfl ?_;omega) | exact Z0 _ | exact Z2 _ | exact EntC.z0 (k:=0) | exact EntC.z1 (k:=0) | exact EntC.z2 (k:=0) | exact EntC.z0 | exact EntC.z1 | exact EntC.z2)) | (refine Ent.agg' rfl ?_;(repeat (first | exact EntL.nil' rfl | (refine EntL.cons' rfl ?_ ?_;focus (first | exact EntC.ratsLe (by omega) | exact EntC.ratsNil | exact EntC.glNil | (refine EntC.int ?_;omega) | (refine EntC.glLen ?_;first | omega | simp) | exact EntC.of_eq rfl | (refine EntC.q rfl ?_;omega) | exact Z0 _ | exact Z2 _ | exact EntC.z0 (k:=0) | exact EntC.z1 (k:=0) | exact EntC.z2 (k:=0) | exact EntC.z0 | exact EntC.z1 | exact EntC.z2))));done))))
   ·repeat (first | exact nil_all | (refine List.forall_mem_cons.2 ⟨?_,?_⟩;focus (first | exact blk_keep inferInstance | (refine blk_ok rfl ?_ rfl;focus ((repeat (first | exact EntL.nil' rfl | (refine EntL.cons' rfl ?_ ?_;focus (first | exact EntC.ratsLe (by omega) | exact EntC.ratsNil | exact EntC.glNil | (refine EntC.int ?_;omega) | (refine EntC.glLen ?_;first | omega | simp) | exact EntC.of_eq rfl | (refine EntC.q rfl ?_;omega) | exact Z0 _ | exact Z2 _ | exact EntC.z0 (k:=0) | exact EntC.z1 (k:=0) | exact EntC.z2 (k:=0) | exact EntC.z0 | exact EntC.z1 | exact EntC.z2))));done)))))
  refine aw_ret (And.intro (Or.inr rfl) ?_)
  exact f_one
theorem add_set {m i:Nat} {a b:Nat→Rat} (hi:i<m):(tab m fun q=>if q<i then a q+b q else a q).set i (a i+b i)=tab m fun q=>if q<i+1 then a q+b q else a q:=
 tab_set hi (if_pos (by omega)) fun q hq hqi=>by
  by_cases h:q<i
  ·rw [if_pos h,if_pos (by omega)]
  ·rw [if_neg h,if_neg (by omega)]
theorem t_addB {j k d e J:Nat} {p q:List Rat} (hp:p.length=d+1) (hq:q.length=e+1) (hd:d≤40) (he:e≤40) (hj:j≤J) (hk:k≤J) (hJ:J≤400000) (hz: ∀c,d+c≤40→ ∀k,k≤d+c→RSz J (liftN (cf p) d c k)) (hz2: ∀c,e+c≤40→ ∀k,k≤e+c→RSz J (liftN (cf q) e c k)):
  Ctr Tryz.prog Amb 30 [.one (rats j p),.one (rats k q)] (.one (ratT (J+J+1) (max d e+1) (pairR (· + ·) (cf p) (cf q) d e))):=by
 obtain ⟨N,hN⟩: ∃N,N=max d e:=⟨_,rfl⟩
 have E1:=t_elevate (j:=j) (d:=d) (n:=N) (J:=J) hp (by omega) (by omega) hj (by omega) hz
 have E2:=t_elevate (j:=k) (d:=e) (n:=N) (J:=J) hq (by omega) (by omega) hk (by omega) hz2
 obtain ⟨a,ha⟩: ∃a:Nat→Rat,a=liftN (cf p) d (N-d):=⟨_,rfl⟩
 obtain ⟨b,hb⟩: ∃b:Nat→Rat,b=liftN (cf q) e (N-e):=⟨_,rfl⟩
 have za: ∀i,i≤N→RSz J (a i):=fun i hi=>by rw [ha];exact hz (N-d) (by omega) i (by omega)
 have zb: ∀i,i≤N→RSz J (b i):=fun i hi=>by rw [hb];exact hz2 (N-e) (by omega) i (by omega)
 rw [←ha] at E1
 rw [←hb] at E2
 have hR':pairR (· + ·) (cf p) (cf q) d e=fun i=>a i+b i:=funext fun i=>by unfold pairR;rw [ha,hb,hN]
 rw [hR',←hN]
 clear ha hb hz hz2 hR'
 obtain ⟨A,hA1⟩: ∃A,A=tab (N+1) a:=⟨_,rfl⟩
 obtain ⟨B,hB1⟩: ∃B,B=tab (N+1) b:=⟨_,rfl⟩
 obtain ⟨R,hR⟩: ∃R,R=tab (N+1) fun i=>a i+b i:=⟨_,rfl⟩
 rw [←hA1] at E1
 rw [←hB1] at E2
 unfold ratT
 rw [←hR]
 have hAl:A.length=N+1:=by rw [hA1];simp
 have hBl:B.length=N+1:=by rw [hB1];simp
 have X2:CtrG Tryz.prog Amb 26 [.one (rats k q),errV (N:Nat)] [] [(121,blkL (nmD J) B)] (.tup [.one (.gl 121 (N+1) 3),errV 0]):=E2.at1 rfl (blkL_pf _) 121
 clear E2
 have hbl1:0<(blkL (nmD J) A).length:=blkL_ne (n:=3) inferInstance (by decide) (by omega)
 have hbl2:0<(blkL (nmD J) B).length:=blkL_ne (n:=3) inferInstance (by decide) (by omega)
 have hmx:(if (p.length:Int)<(q.length:Int) then (q.length:Int) else (p.length:Int))=((N+1:Nat):Int):=by split<;>omega
 have w1:=binSub (k:= .i64) (show (IntKind.i64).wrap (((N+1:Nat):Int)-1)=(N:Int) by rw [show (((N+1:Nat):Int)-1)=(N:Int) by omega];exact IntWalk.i64_in _ (by omega))
 refine ctr_body Tryz.func30 rfl rfl rfl rfl rfl rfl ?_
 intro W0 base D μ0 hA hD
 repeat (first | refine aw_seq ?_ | refine aw_block ?_ | refine aw_condT rfl ?_ | refine aw_condF rfl ?_ | refine aw_pa ?_ | refine aw_da ?_ | refine aw_skip ?_ | refine aw_exit ?_)
 refine aw_freeze 121 hD (ss:= [(6,.one (.gl 21 (N+1) 3)),(8,.one (rats J B)),(10,errV (0:Nat))]) (bs:= [(21,blkL (nmD J) A)]) ?_ ?_
 ·rw [←hBl]
  refine fk_mk ?_ ?_ rfl
  ·repeat (first | exact nil_all | (refine List.forall_mem_cons.2 ⟨?_,?_⟩;focus (first | exact fz_blk inferInstance | refine FzA.ent ?_;first | exact Ent.of_eq rfl | (refine Ent.one' rfl ?_;(first | exact EntC.ratsLe (by omega) | exact EntC.ratsNil | exact EntC.glNil | (refine EntC.int ?_;omega) | (refine EntC.glLen ?_;first | omega | simp) | exact EntC.of_eq rfl | (refine EntC.q rfl ?_;omega) | exact Z0 _ | exact Z2 _ | exact EntC.z0 (k:=0) | exact EntC.z1 (k:=0) | exact EntC.z2 (k:=0) | exact EntC.z0 | exact EntC.z1 | exact EntC.z2)) | (refine Ent.agg' rfl ?_;(repeat (first | exact EntL.nil' rfl | (refine EntL.cons' rfl ?_ ?_;focus (first | exact EntC.ratsLe (by omega) | exact EntC.ratsNil | exact EntC.glNil | (refine EntC.int ?_;omega) | (refine EntC.glLen ?_;first | omega | simp) | exact EntC.of_eq rfl | (refine EntC.q rfl ?_;omega) | exact Z0 _ | exact Z2 _ | exact EntC.z0 (k:=0) | exact EntC.z1 (k:=0) | exact EntC.z2 (k:=0) | exact EntC.z0 | exact EntC.z1 | exact EntC.z2))));done))))
  ·repeat (first | exact nil_all | (refine List.forall_mem_cons.2 ⟨?_,?_⟩;focus (first | exact blk_keep inferInstance | (refine blk_ok rfl ?_ rfl;focus ((repeat (first | exact EntL.nil' rfl | (refine EntL.cons' rfl ?_ ?_;focus (first | exact EntC.ratsLe (by omega) | exact EntC.ratsNil | exact EntC.glNil | (refine EntC.int ?_;omega) | (refine EntC.glLen ?_;first | omega | simp) | exact EntC.of_eq rfl | (refine EntC.q rfl ?_;omega) | exact Z0 _ | exact Z2 _ | exact EntC.z0 (k:=0) | exact EntC.z1 (k:=0) | exact EntC.z2 (k:=0) | exact EntC.z0 | exact EntC.z1 | exact EntC.z2))));done)))))
 have hsz: ∀i,i≤N→RSz (J+J+1) (a i+b i):=fun i hi=>(za i hi).add (zb i hi)
 refine aw_loop (fun m σ=> ∃(i:Nat) (cur:List Rat),m=N+1-i∧i≤N+1∧cur=tab (N+1) (fun q=>if q<i then a q+b q else a q)∧Wk ⟨W0,base,D,48,[],μ0⟩ σ [(6,.one (.gl 21 (N+1) 3)),(8,.one (rats J B)),(10,errV (i:Nat))] [(21,blkL (nmD (J+J+1)) cur)]) (n:=N+1) ⟨0,A,by omega,by omega,hA1.trans (tab_congr fun q _=>(if_neg (Nat.not_lt_zero q)).symm),?_⟩ ?_
 ·refine wk_mk ?_ ?_ rfl
  ·repeat (first | exact nil_all | (refine List.forall_mem_cons.2 ⟨?_,?_⟩;focus (first | exact Ent.of_eq rfl | (refine Ent.one' rfl ?_;(first | exact EntC.ratsLe (by omega) | exact EntC.ratsNil | exact EntC.glNil | (refine EntC.int ?_;omega) | (refine EntC.glLen ?_;first | omega | simp) | exact EntC.of_eq rfl | (refine EntC.q rfl ?_;omega) | exact Z0 _ | exact Z2 _ | exact EntC.z0 (k:=0) | exact EntC.z1 (k:=0) | exact EntC.z2 (k:=0) | exact EntC.z0 | exact EntC.z1 | exact EntC.z2)) | (refine Ent.agg' rfl ?_;(repeat (first | exact EntL.nil' rfl | (refine EntL.cons' rfl ?_ ?_;focus (first | exact EntC.ratsLe (by omega) | exact EntC.ratsNil | exact EntC.glNil | (refine EntC.int ?_;omega) | (refine EntC.glLen ?_;first | omega | simp) | exact EntC.of_eq rfl | (refine EntC.q rfl ?_;omega) | exact Z0 _ | exact Z2 _ | exact EntC.z0 (k:=0) | exact EntC.z1 (k:=0) | exact EntC.z2 (k:=0) | exact EntC.z0 | exact EntC.z1 | exact EntC.z2))));done))))
  ·repeat (first | exact nil_all | (refine List.forall_mem_cons.2 ⟨?_,?_⟩;focus (first | exact blk_keep inferInstance | (exact blk_up (j:=J) (by omega) (blk_keep inferInstance)) | (refine blk_ok rfl ?_ rfl;focus ((repeat (first | exact EntL.nil' rfl | (refine EntL.cons' rfl ?_ ?_;focus (first | exact EntC.ratsLe (by omega) | exact EntC.ratsNil | exact EntC.glNil | (refine EntC.int ?_;omega) | (refine EntC.glLen ?_;first | omega | simp) | exact EntC.of_eq rfl | (refine EntC.q rfl ?_;omega) | exact Z0 _ | exact Z2 _ | exact EntC.z0 (k:=0) | exact EntC.z1 (k:=0) | exact EntC.z2 (k:=0) | exact EntC.z0 | exact EntC.z1 | exact EntC.z2))));done)))))
 intro m σ hI
 obtain ⟨i,cur,hm,hi0,hcur,hw⟩:=hI
 refine aw_wk hw ?_
 clear hw
 have hcl:cur.length=N+1:=by rw [hcur];simp
 by_cases hi:i<N+1
 ·have bi:=binLt (k:= .i64) (decide_eq_true (show (i:Int)<((N+1:Nat):Int) by omega))
  have hin:=binAdd (k:= .i64) (show (IntKind.i64).wrap ((i:Int)+1)=((i+1:Nat):Int) from IntWalk.i64_in _ (by omega))
  have hx:cur[((i:Nat):Int).toNat]?=some (a i):=by rw [hcur,tab_at hi,if_neg (Nat.lt_irrefl i)]
  have hy:B[((i:Nat):Int).toNat]?=some (b i):=by rw [hB1];exact tab_at hi
  have hlt:(0:Int)≤((i:Nat):Int)∧((i:Nat):Int)<((N+1:Nat):Int):=by omega
  have hst:((i:Nat):Int).toNat*3+3≤(blkL (nmD (J+J+1)) cur).length:=by rw [blkL_len (n:=3) inferInstance,hcl,Int.toNat_natCast];omega
  have ld:=rdL_row (f:=nmD (J+J+1)) (n:=3) inferInstance hx
  have A4:=r_add (j:=J+J+1) (k:=J) (x:=a i) (y:=b i) (by omega) (by omega)
  have ht:=add_set (a:=a) (b:=b) hi
  rw [←hcur] at ht
  have hz1:=hsz i (by omega)
  generalize a i=x at*
  generalize b i=y at*
  repeat (first | refine aw_seq ?_ | refine aw_block ?_ | refine aw_condT rfl ?_ | refine aw_condF rfl ?_ | refine aw_pa ?_ | refine aw_da ?_ | refine aw_skip ?_ | refine aw_exit ?_)
  refine ⟨m-1,by omega,i+1,cur.set i (x+y),by omega,by omega,ht,?_⟩
  exact wk_a
 ·have bi:=binLt (k:= .i64) (decide_eq_false (show ¬(i:Int)<((N+1:Nat):Int) by omega))
  have he:cur=R:=by rw [hcur,hR];exact tab_congr fun q hq=>if_pos (by omega)
  subst he
  repeat (first | refine aw_seq ?_ | refine aw_block ?_ | refine aw_condT rfl ?_ | refine aw_condF rfl ?_ | refine aw_pa ?_ | refine aw_da ?_ | refine aw_skip ?_ | refine aw_exit ?_)
  refine aw_freeze 21 hD (ss:= [(4,.one (rats (J+J+1) cur))]) (bs:= []) ?_ ?_
  ·rw [←hcl]
   refine fk_mk ?_ ?_ rfl
   ·repeat (first | exact nil_all | (refine List.forall_mem_cons.2 ⟨?_,?_⟩;focus (first | exact fz_blk inferInstance | refine FzA.ent ?_;first | exact Ent.of_eq rfl | (refine Ent.one' rfl ?_;(first | exact EntC.ratsLe (by omega) | exact EntC.ratsNil | exact EntC.glNil | (refine EntC.int ?_;omega) | (refine EntC.glLen ?_;first | omega | simp) | exact EntC.of_eq rfl | (refine EntC.q rfl ?_;omega) | exact Z0 _ | exact Z2 _ | exact EntC.z0 (k:=0) | exact EntC.z1 (k:=0) | exact EntC.z2 (k:=0) | exact EntC.z0 | exact EntC.z1 | exact EntC.z2)) | (refine Ent.agg' rfl ?_;(repeat (first | exact EntL.nil' rfl | (refine EntL.cons' rfl ?_ ?_;focus (first | exact EntC.ratsLe (by omega) | exact EntC.ratsNil | exact EntC.glNil | (refine EntC.int ?_;omega) | (refine EntC.glLen ?_;first | omega | simp) | exact EntC.of_eq rfl | (refine EntC.q rfl ?_;omega) | exact Z0 _ | exact Z2 _ | exact EntC.z0 (k:=0) | exact EntC.z1 (k:=0) | exact EntC.z2 (k:=0) | exact EntC.z0 | exact EntC.z1 | exact EntC.z2))));done))))
   ·repeat (first | exact nil_all | (refine List.forall_mem_cons.2 ⟨?_,?_⟩;focus (first | exact blk_keep inferInstance | (refine blk_ok rfl ?_ rfl;focus ((repeat (first | exact EntL.nil' rfl | (refine EntL.cons' rfl ?_ ?_;focus (first | exact EntC.ratsLe (by omega) | exact EntC.ratsNil | exact EntC.glNil | (refine EntC.int ?_;omega) | (refine EntC.glLen ?_;first | omega | simp) | exact EntC.of_eq rfl | (refine EntC.q rfl ?_;omega) | exact Z0 _ | exact Z2 _ | exact EntC.z0 (k:=0) | exact EntC.z1 (k:=0) | exact EntC.z2 (k:=0) | exact EntC.z0 | exact EntC.z1 | exact EntC.z2))));done)))))
  refine aw_ret (And.intro (Or.inr rfl) ?_)
  exact f_one
end Go.Proofs.YtdgjkohkmdpcdaaGreatDoor
namespace Go.Proofs.YtdgjkohkmdpcdaaGreatDoor
open Go.RowKit
set_option linter.unusedVariables false
set_option linter.unusedSimpArgs false
set_option maxRecDepth 20000
set_option maxHeartbeats 4000000
theorem rsz_scaled {j:Nat} {l:List Rat} {d:Nat} {c:Rat} (hc:RSz 1 c) (hr: ∀r∈l,RSz j r) (hl:l.length=d+1): ∀r∈tab (d+1) fun i=>c*cf l i,RSz (j+1) r:=fun r hr'=>by
 obtain ⟨i,hi,rfl⟩:=List.mem_map.1 hr'
 have hlt:i<l.length:=by have:=List.mem_range.1 hi;omega
 have h1:cf l i∈l:=by
  unfold cf
  rw [List.getD_eq_getElem?_getD,List.getElem?_eq_getElem hlt];exact List.getElem_mem hlt
 exact (hc.mul (hr _ h1)).mono (by omega)
theorem t_subB {j d e J:Nat} {p q:List Rat} (hp:p.length=d+1) (hq:q.length=e+1) (hd:d≤40) (he:e≤40) (hr: ∀r∈p,RSz j r) (hr2: ∀r∈q,RSz j r) (hJ:J≤400000) (hj:20+42*(j+4)≤J):
  Ctr Tryz.prog Amb 32 [.one (rats j p),.one (rats j q)] (.one (ratT (J+J+1) (max d e+1) (pairR (· - ·) (cf p) (cf q) d e))):=by
 have I1:=r_int (n:= -1) rfl
 have hm1:((-1:Int):Rat)= -1:=rfl
 have S1:=t_scale (js:=2) (j:=j) (d:=e) (l:=q) (s:=((-1:Int):Rat)) hq (by omega) (by omega) (by omega)
 have hN1:RSz 1 ((-1:Int):Rat):=⟨length_toL_le _ _ (by decide+kernel),length_toL_le _ _ (by decide+kernel)⟩
 have hb1: ∀x,x≤41→x*j≤41*j:=fun x hx=>Nat.mul_le_mul_right j hx
 have hb2: ∀x,x≤41→x*(j+1)≤41*(j+1):=fun x hx=>Nat.mul_le_mul_right (j+1) hx
 have hs:=rsz_scaled (c:=((-1:Int):Rat)) hN1 hr2 hq
 have A1:=t_addB (j:=j) (k:=2+j+2) (d:=d) (e:=e) (J:=J) (p:=p) (q:=tab (e+1) fun i=>((-1:Int):Rat)*cf q i) hp tab_len hd he (by omega) (by omega) hJ (fun c hc k hk=>(lift_rsz hp hc hr k hk).mono (by have:=hb1 (d+1) (by omega);omega)) (fun c hc k hk=>(lift_rsz tab_len hc hs k hk).mono (by have:=hb2 (e+1) (by omega);omega))
 have e1:tab (max d e+1) (pairR (· + ·) (cf p) (cf (tab (e+1) fun i=>((-1:Int):Rat)*cf q i)) d e)=tab (max d e+1) (pairR (· - ·) (cf p) (cf q) d e):=tab_congr fun i hi=>by
  unfold pairR
  have h1:liftN (cf (tab (e+1) fun i=>((-1:Int):Rat)*cf q i)) e (max d e-e) i=((-1:Int):Rat)*liftN (cf q) e (max d e-e) i:=by
   rw [←liftN_scale]
   exact liftN_congr (fun q hq=>tab_getD 0 (by omega)) _ _ (by omega)
  show _+_=_-_
  rw [h1,hm1]
  grind
 unfold ratT at A1 S1⊢
 rw [e1] at A1
 generalize tab (max d e+1) (pairR (· - ·) (cf p) (cf q) d e)=R at*
 generalize (tab (e+1) fun i=>((-1:Int):Rat)*cf q i)=T at*
 generalize ((-1:Int):Rat)=c at*
 clear e1
 refine ctr_body Tryz.func32 rfl rfl rfl rfl rfl rfl ?_
 intro W0 base D μ0 hA hD
 repeat (first | refine aw_seq ?_ | refine aw_block ?_ | refine aw_condT rfl ?_ | refine aw_condF rfl ?_ | refine aw_pa ?_ | refine aw_da ?_ | refine aw_skip ?_ | refine aw_exit ?_)
 refine aw_ret (And.intro (Or.inr rfl) ?_)
 exact f_one
end Go.Proofs.YtdgjkohkmdpcdaaGreatDoor
namespace Go.Proofs.YtdgjkohkmdpcdaaGreatDoor
open Go.RowKit
set_option linter.unusedVariables false
set_option linter.unusedSimpArgs false
set_option maxRecDepth 20000
set_option maxHeartbeats 4000000
theorem t_diffB {j d:Nat} {p:List Rat} (hp:p.length=d+1) (hd:d≤1000) (h2:j≤1000000):
  Ctr Tryz.prog Amb 36 [.one (rats j p)] (.one (rats (2+(j+j+3)+2) (difL (cf p) d))):=by
 obtain ⟨J,hJ⟩: ∃J,J=2+(j+j+3)+2:=⟨_,rfl⟩
 rw [←hJ]
 unfold difL
 by_cases h0:d=0
 ·rw [if_pos h0]
  have w2:=binEq (k:= .i64) (decide_eq_true (show (p.length:Int)=1 by omega))
  refine ctr_body Tryz.func36 rfl rfl rfl rfl rfl rfl ?_
  intro W0 base D μ0 hA hD
  repeat (first | refine aw_seq ?_ | refine aw_block ?_ | refine aw_condT rfl ?_ | refine aw_condF rfl ?_ | refine aw_pa ?_ | refine aw_da ?_ | refine aw_skip ?_ | refine aw_exit ?_)
  refine aw_wk (ss:= [(2,.one (.gl 10 1 3))]) (bs:= [(10,blkL (nmD J) [(0:Rat)])]) ?_ ?_
  ·exact wk_a
  refine aw_freeze 10 hD (ss:= [(2,.one (rats J [0]))]) (bs:= []) ?_ ?_
  ·exact fk_mk (List.forall_mem_cons.2 ⟨fz_blk (f:=nmD J) (l:= [(0:Rat)]) inferInstance,nil_all⟩) nil_all rfl
  refine aw_ret (And.intro (Or.inr rfl) ?_)
  exact f_one
 ·rw [if_neg h0]
  have w2:=binEq (k:= .i64) (decide_eq_false (show ¬(p.length:Int)=1 by omega))
  have w1:=binSub (k:= .i64) (show (IntKind.i64).wrap ((p.length:Int)-1)=(d:Int) by rw [show ((p.length:Int)-1)=(d:Int) by omega];exact IntWalk.i64_in _ (by omega))
  have I1:=r_int (n:=(d:Int)) (by rw [decide_eq_true (show-9223372036854775808≤(d:Int) by omega),decide_eq_true (show (d:Int)<9223372036854775808 by omega)];rfl)
  obtain ⟨s,hs⟩: ∃s,s=((d:Int):Rat):=⟨_,rfl⟩
  rw [←hs] at I1⊢
  obtain ⟨h,hh⟩: ∃h:Nat→Rat,h=fun i=>s*(cf p (i+1)-cf p i):=⟨_,rfl⟩
  rw [←hh]
  refine ctr_body Tryz.func36 rfl rfl rfl rfl rfl rfl ?_
  intro W0 base D μ0 hA hD
  repeat (first | refine aw_seq ?_ | refine aw_block ?_ | refine aw_condT rfl ?_ | refine aw_condF rfl ?_ | refine aw_pa ?_ | refine aw_da ?_ | refine aw_skip ?_ | refine aw_exit ?_)
  refine aw_loop (fun m σ=> ∃(i:Nat) (done:List Rat),m=d-i∧i≤d∧done=tab i h∧Wk ⟨W0,base,D,38,[],μ0⟩ σ [(0,.one (rats j p)),(3,.one (.ptr 3 0)),(4,.one (.gl 900 done.length 3)),(5,errV (i:Nat))] [(3,nmC 2 s),(900,blkL (nmD J) done)]) (n:=d) ⟨0,[],by omega,by omega,rfl,?_⟩ ?_
  ·exact wk_a
  intro m σ hI
  obtain ⟨i,done,hm,hi0,hdone,hw⟩:=hI
  refine aw_wk hw ?_
  clear hw
  have hdl:done.length=i:=by rw [hdone];simp
  have hin:=binAdd (k:= .i64) (show (IntKind.i64).wrap ((i:Int)+1)=((i+1:Nat):Int) from IntWalk.i64_in _ (by omega))
  by_cases hi:i<d
  ·have bi:=binLt (k:= .i64) (decide_eq_true (show ((i+1:Nat):Int)<(p.length:Int) by omega))
   have hx:p[((i+1:Nat):Int).toNat]?=some (cf p (i+1)):=getD_at (by omega)
   have hy:p[((i:Nat):Int).toNat]?=some (cf p i):=getD_at (by omega)
   have D1:=r_sub (j:=j) (k:=j) (x:=cf p (i+1)) (y:=cf p i) (by omega) (by omega)
   have M1:=r_mul (j:=2) (k:=j+j+3) (x:=s) (y:=cf p (i+1)-cf p i) (by omega) (by omega)
   have ht:done++ [s*(cf p (i+1)-cf p i)]=tab (i+1) h:=by
    rw [hdone,show s*(cf p (i+1)-cf p i)=h i by rw [hh]];exact tab_succ
   rw [←hJ] at M1
   generalize cf p (i+1)=x at*
   generalize cf p i=y at*
   repeat (first | refine aw_seq ?_ | refine aw_block ?_ | refine aw_condT rfl ?_ | refine aw_condF rfl ?_ | refine aw_pa ?_ | refine aw_da ?_ | refine aw_skip ?_ | refine aw_exit ?_)
   try refine aw_seq ?_
   refine aw_drawT 14 (by simp only [List.take_succ_cons,List.take_zero,List.drop_succ_cons,List.drop_zero];exact ⟨rfl,rfl⟩) (by kernel_rfl) (by kernel_rfl) (by kernel_rfl) (by kernel_rfl) (by kernel_rfl) ?_
   repeat (first
    | refine v_move (hl:=?_)
    | refine v_assign (hl:=?_)
    | refine v_load (hl:=?_)
    | refine v_store (hl:=?_)
    | refine v_alloc (hl:=?_)
    | refine v_buildS (hl:=?_)
    | refine v_buildA (hl:=?_)
    | refine v_bin (hl:=?_)
    | refine v_indexAddr (hl:=?_)
    | refine v_eqBool (hl:=?_)
    | refine v_max (hl:=?_)
    | refine v_min (hl:=?_)
    | refine v_len (hl:=?_)
    | refine v_lenS (hl:=?_)
    | refine v_loadF (hl:=?_)
    | refine v_buildL (hl:=?_)
    | refine v_idx hx (by omega) (hl:=?_)
    | refine v_idx hy (by omega) (hl:=?_)
    | refine v_callE hA (hc:=D1) (hl:=?_)
    | refine v_callE hA (hc:=M1) (hl:=?_))
   apply RunK.nil
   refine And.intro (by kernel_rfl) ?_
   refine v_app (k:=900) (ss:= [(0,.one (rats j p)),(3,.one (.ptr 3 0)),(5,errV (i:Nat))]) (bs:= [(3,nmC 2 s)]) (ns:=(nmC J (s*(x-y)))) hD ?_ ?_ ?_
   ·exact ⟨by omega,by omega⟩
   ·exact wk_a
   repeat (refine tl_run rfl ?_;(first | refine v_assign (hl:=?_) | refine v_move (hl:=?_) | refine v_store (hl:=?_));apply RunK.nil)
   refine tl_nil ?_
   repeat (first | refine aw_seq ?_ | refine aw_block ?_ | refine aw_condT rfl ?_ | refine aw_condF rfl ?_ | refine aw_pa ?_ | refine aw_da ?_ | refine aw_skip ?_ | refine aw_exit ?_)
   refine ⟨m-1,by omega,i+1,done++ [s*(x-y)],by omega,by omega,ht,?_⟩
   exact wk_a
  ·have bi:=binLt (k:= .i64) (decide_eq_false (show ¬((i+1:Nat):Int)<(p.length:Int) by omega))
   obtain rfl:i=d:=by omega
   repeat (first | refine aw_seq ?_ | refine aw_block ?_ | refine aw_condT rfl ?_ | refine aw_condF rfl ?_ | refine aw_pa ?_ | refine aw_da ?_ | refine aw_skip ?_ | refine aw_exit ?_)
   refine aw_freeze 900 hD (ss:= [(2,.one (rats J done))]) (bs:= []) ?_ ?_
   ·refine fk_mk ?_ ?_ rfl
    ·repeat (first | exact nil_all | (refine List.forall_mem_cons.2 ⟨?_,?_⟩;focus (first | exact fz_blk inferInstance | refine FzA.ent ?_;first | exact Ent.of_eq rfl | (refine Ent.one' rfl ?_;(first | exact EntC.ratsLe (by omega) | exact EntC.ratsNil | exact EntC.glNil | (refine EntC.int ?_;omega) | (refine EntC.glLen ?_;first | omega | simp) | exact EntC.of_eq rfl | (refine EntC.q rfl ?_;omega) | exact Z0 _ | exact Z2 _ | exact EntC.z0 (k:=0) | exact EntC.z1 (k:=0) | exact EntC.z2 (k:=0) | exact EntC.z0 | exact EntC.z1 | exact EntC.z2)) | (refine Ent.agg' rfl ?_;(repeat (first | exact EntL.nil' rfl | (refine EntL.cons' rfl ?_ ?_;focus (first | exact EntC.ratsLe (by omega) | exact EntC.ratsNil | exact EntC.glNil | (refine EntC.int ?_;omega) | (refine EntC.glLen ?_;first | omega | simp) | exact EntC.of_eq rfl | (refine EntC.q rfl ?_;omega) | exact Z0 _ | exact Z2 _ | exact EntC.z0 (k:=0) | exact EntC.z1 (k:=0) | exact EntC.z2 (k:=0) | exact EntC.z0 | exact EntC.z1 | exact EntC.z2))));done))))
    ·repeat (first | exact nil_all | (refine List.forall_mem_cons.2 ⟨?_,?_⟩;focus (first | exact blk_keep inferInstance | (refine blk_ok rfl ?_ rfl;focus ((repeat (first | exact EntL.nil' rfl | (refine EntL.cons' rfl ?_ ?_;focus (first | exact EntC.ratsLe (by omega) | exact EntC.ratsNil | exact EntC.glNil | (refine EntC.int ?_;omega) | (refine EntC.glLen ?_;first | omega | simp) | exact EntC.of_eq rfl | (refine EntC.q rfl ?_;omega) | exact Z0 _ | exact Z2 _ | exact EntC.z0 (k:=0) | exact EntC.z1 (k:=0) | exact EntC.z2 (k:=0) | exact EntC.z0 | exact EntC.z1 | exact EntC.z2))));done)))))
   subst hdone
   refine aw_ret (And.intro (Or.inr rfl) ?_)
   exact f_one
end Go.Proofs.YtdgjkohkmdpcdaaGreatDoor
namespace Go.Proofs.YtdgjkohkmdpcdaaGreatDoor
open Go.RowKit
set_option linter.unusedVariables false
set_option linter.unusedSimpArgs false
set_option maxRecDepth 20000
set_option maxHeartbeats 4000000
theorem div_set {m i:Nat} {a b:Nat→Rat} (hi:i<m):(tab m fun q=>if q<i then a q/b q else a q).set i (a i/b i)=tab m fun q=>if q<i+1 then a q/b q else a q:=
 tab_set hi (if_pos (by omega)) fun q hq hqi=>by
  by_cases h:q<i
  ·rw [if_pos h,if_pos (by omega)]
  ·rw [if_neg h,if_neg (by omega)]
set_option maxHeartbeats 16000000 in
theorem t_mulB {j k m n J:Nat} {p q:List Rat} (hp:p.length=m+1) (hq:q.length=n+1) (hmn:m+n≤40) (hj:j≤1000) (hk:k≤1000) (hr: ∀r∈p,RSz j r) (hr2: ∀r∈q,RSz k r) (hJ:J=200000):
  Ctr Tryz.prog Amb 28 [.one (rats j p),.one (rats k q)] (.tup [.one (rats J (tab (m+n+1) (mulQ (cf p) (cf q) m n))),errV 0]):=by
 have hNA:(m+1)*j≤41*1000:=Nat.mul_le_mul (by omega) hj
 have hNB:(n+1)*k≤41*1000:=Nat.mul_le_mul (by omega) hk
 obtain ⟨M,B1,hM0,hMs,hBs,hib⟩:=wgt_ib hp (by omega) hr
 obtain ⟨Q,B2,hQ0,hQs,hBs2,hib2⟩:=wgt_ib hq (by omega) hr2
 obtain ⟨N,hN⟩: ∃N,N=m+n:=⟨_,rfl⟩
 obtain ⟨a,ha⟩: ∃a:Nat→Rat,a=wgt m (cf p):=⟨_,rfl⟩
 obtain ⟨b,hb⟩: ∃b:Nat→Rat,b=wgt n (cf q):=⟨_,rfl⟩
 have hab: ∀i jj,i≤m→jj≤n→IB (M*Q) (B1*B2) (a i*b jj):=fun i jj hi hjj=>by rw [ha,hb];exact (hib i hi).mul (hib2 jj hjj)
 have s1:Sz 190000 (M*Q):=(hMs.mul hQs).mono (by omega)
 have s2:Sz 190000 ((m+1)*(B1*B2)):=(Sz.mul (j:=1) (m:=m+1) (length_toL_le _ _ (by omega)) (hBs.mul hBs2)).mono (by omega)
 have hcz: ∀i jj k',i≤m→jj≤n+1→RSz J (convI a b n i jj k'):=fun i jj k' hi hjj=>((convI_ib hab hi hjj).rsz (Nat.mul_pos hM0 hQ0) s1 s2).mono (by omega)
 have hcv: ∀k',RSz 190000 (convR a b n (m+1) k'):=fun k'=>(conv_ib hab (m+1) k' (Nat.le_refl _)).rsz (Nat.mul_pos hM0 hQ0) s1 s2
 have hdz: ∀k',k'≤N→RSz J (convR a b n (m+1) k'/binQ N k'):=fun k' hk'=>(rsz_div (hcv k') (binQ_rsz (by omega)) (binQ_ne hk')).mono (by omega)
 have hpa: ∀i,a i=binQ m i*cf p i:=fun i=>by rw [ha];rfl
 have hqb: ∀i,b i=binQ n i*cf q i:=fun i=>by rw [hb];rfl
 have hmq:mulQ (cf p) (cf q) m n=fun k=>convR a b n (m+1) k/binQ N k:=funext fun k=>by unfold mulQ;rw [ha,hb,hN]
 rw [hmq,←hN]
 clear hmq ha hb hab s1 s2 hcv hib hib2 hMs hBs hQs hBs2 hM0 hQ0 hr hr2
 obtain ⟨R,hR⟩: ∃R,R=tab (N+1) fun k=>convR a b n (m+1) k/binQ N k:=⟨_,rfl⟩
 rw [←hR]
 have e1:=binSub (k:= .i64) (show (IntKind.i64).wrap ((p.length:Int)-1)=(m:Int) by rw [show ((p.length:Int)-1)=(m:Int) by omega];exact IntWalk.i64_in _ (by omega))
 have e2:=binSub (k:= .i64) (show (IntKind.i64).wrap ((q.length:Int)-1)=(n:Int) by rw [show ((q.length:Int)-1)=(n:Int) by omega];exact IntWalk.i64_in _ (by omega))
 have e3:=binAdd (k:= .i64) (show (IntKind.i64).wrap ((m:Int)+(n:Int))=(N:Int) by rw [show ((m:Int)+(n:Int))=(N:Int) by omega];exact IntWalk.i64_in _ (by omega))
 have e4:=binGt (k:= .i64) (decide_eq_false (show ¬(N:Int)>40 by omega))
 have e5:=binAdd (k:= .i64) (show (IntKind.i64).wrap ((N:Int)+1)=((N+1:Nat):Int) from IntWalk.i64_in _ (by omega))
 refine ctr_body Tryz.func28 rfl rfl rfl rfl rfl rfl ?_
 intro W0 base D μ0 hA hD
 repeat (first | refine aw_seq ?_ | refine aw_block ?_ | refine aw_condT rfl ?_ | refine aw_condF rfl ?_ | refine aw_pa ?_ | refine aw_da ?_ | refine aw_skip ?_ | refine aw_exit ?_)
 clear e1 e2 e4 e5
 refine aw_loop (fun c σ=> ∃(i:Nat) (cur:List Rat),c=m+1-i∧i≤m+1∧cur=tab (N+1) (convR a b n i)∧Wk ⟨W0,base,D,89,[],μ0⟩ σ [(0,.one (rats j p)),(1,.one (rats k q)),(6,errV (m:Nat)),(7,errV (n:Nat)),(8,.one (.gl 27 (N+1) 3)),(9,errV (i:Nat))] [(27,blkL (nmD J) cur)]) (n:=m+1) ⟨0,List.replicate (N+1) 0,by omega,by omega,tab_rep,?_⟩ ?_
 ·exact wk_a
 intro c σ hI
 obtain ⟨i,cur,hc,hi0,hcur,hw⟩:=hI
 refine aw_wk hw ?_
 clear hw
 by_cases hi:i<m+1
 ·have bi:=binLe (k:= .i64) (decide_eq_true (show (i:Int)≤(m:Int) by omega))
  have hin:=binAdd (k:= .i64) (show (IntKind.i64).wrap ((i:Int)+1)=((i+1:Nat):Int) from IntWalk.i64_in _ (by omega))
  rw [←convI_start (n:=n)] at hcur
  repeat (first | refine aw_seq ?_ | refine aw_block ?_ | refine aw_condT rfl ?_ | refine aw_condF rfl ?_ | refine aw_pa ?_ | refine aw_da ?_ | refine aw_skip ?_ | refine aw_exit ?_)
  refine aw_loop (fun c σ=> ∃(jj:Nat) (cur:List Rat),c=n+1-jj∧jj≤n+1∧cur=tab (N+1) (convI a b n i jj)∧Wk ⟨W0,base,D,89,[],μ0⟩ σ [(0,.one (rats j p)),(1,.one (rats k q)),(6,errV (m:Nat)),(7,errV (n:Nat)),(8,.one (.gl 27 (N+1) 3)),(9,errV (i:Nat)),(10,errV (jj:Nat))] [(27,blkL (nmD J) cur)]) (n:=n+1) ⟨0,cur,by omega,by omega,hcur,?_⟩ ?_
  ·exact wk_a
  clear hcur cur
  intro c2 σ hI
  obtain ⟨jj,cur,hc2,hj0,hcur,hw⟩:=hI
  refine aw_wk hw ?_
  clear hw
  have hcl:cur.length=N+1:=by rw [hcur];simp
  by_cases hjj:jj<n+1
  ·have bj:=binLe (k:= .i64) (decide_eq_true (show (jj:Int)≤(n:Int) by omega))
   have hjn:=binAdd (k:= .i64) (show (IntKind.i64).wrap ((jj:Int)+1)=((jj+1:Nat):Int) from IntWalk.i64_in _ (by omega))
   have hij:=binAdd (k:= .i64) (show (IntKind.i64).wrap ((i:Int)+(jj:Int))=((i+jj:Nat):Int) from IntWalk.i64_in _ (by omega))
   have C1:=t_choose (n:=m) (k:=i) (by omega) (by omega)
   have C2:=t_choose (n:=n) (k:=jj) (by omega) (by omega)
   have hx:cur[((i+jj:Nat):Int).toNat]?=some (convI a b n i jj (i+jj)):=by rw [hcur];exact tab_at (by omega)
   have hya:p[((i:Nat):Int).toNat]?=some (cf p i):=getD_at (by omega)
   have hyb:q[((jj:Nat):Int).toNat]?=some (cf q jj):=getD_at (by omega)
   have lt1:(0:Int)≤((i+jj:Nat):Int)∧((i+jj:Nat):Int)<((N+1:Nat):Int):=by omega
   have st1:((i+jj:Nat):Int).toNat*3+3≤(blkL (nmD J) cur).length:=by rw [blkL_len (n:=3) inferInstance,hcl,Int.toNat_natCast];omega
   have ld1:=rdL_row (f:=nmD J) (n:=3) inferInstance hx
   have M1:=r_mul (j:=2) (k:=2) (x:=binQ m i) (y:=binQ n jj) (by omega) (by omega)
   have M2:=r_mul (j:=j) (k:=k) (x:=cf p i) (y:=cf q jj) (by omega) (by omega)
   have M3:=r_mul (j:=2+2+2) (k:=j+k+2) (x:=binQ m i*binQ n jj) (y:=cf p i*cf q jj) (by omega) (by omega)
   have A4:=r_add (j:=J) (k:=2+2+2+(j+k+2)+2) (x:=convI a b n i jj (i+jj)) (y:=binQ m i*binQ n jj*(cf p i*cf q jj)) (by omega) (by omega)
   have hpr:binQ m i*binQ n jj*(cf p i*cf q jj)=a i*b jj:=by rw [hpa,hqb];grind
   have ht:=convI_set (a:=a) (b:=b) (n:=n) (i:=i) (j:=jj) (N:=N+1) (x:=convI a b n i jj (i+jj)+binQ m i*binQ n jj*(cf p i*cf q jj)) (by omega) (by rw [hpr])
   rw [←hcur] at ht
   have hz:RSz J (convI a b n i jj (i+jj)+binQ m i*binQ n jj*(cf p i*cf q jj)):=by
    have e:convI a b n i jj (i+jj)+a i*b jj=convI a b n i (jj+1) (i+jj):=by
     rw [convI_at]
     unfold convI
     rw [if_pos ⟨by omega,by omega⟩,show i+jj-i=jj by omega]
    rw [hpr,e];exact hcz i (jj+1) (i+jj) (by omega) (by omega)
   clear hpr
   generalize convI a b n i jj (i+jj)=x at*
   generalize cf p i=y at*
   generalize cf q jj=z at*
   unfold binQ at*
   generalize ((bin m i:Int):Rat)=u at*
   generalize ((bin n jj:Int):Rat)=v at*
   repeat (first | refine aw_seq ?_ | refine aw_block ?_ | refine aw_condT rfl ?_ | refine aw_condF rfl ?_ | refine aw_pa ?_ | refine aw_da ?_ | refine aw_skip ?_ | refine aw_exit ?_)
   refine ⟨c2-1,by omega,jj+1,cur.set (i+jj) (x+u*v*(y*z)),by omega,by omega,ht,?_⟩
   have h1:i+jj<cur.length:=by omega
   refine wk_mk ?_ ?_ rfl
   ·repeat (first | exact nil_all | (refine List.forall_mem_cons.2 ⟨?_,?_⟩;focus (first | exact Ent.of_eq rfl | (refine Ent.one' rfl ?_;(first | exact EntC.ratsLe (by omega) | exact EntC.ratsNil | exact EntC.glNil | (refine EntC.int ?_;omega) | (refine EntC.glLen ?_;first | omega | simp) | exact EntC.of_eq rfl | (refine EntC.q rfl ?_;omega) | exact Z0 _ | exact Z2 _ | exact EntC.z0 (k:=0) | exact EntC.z1 (k:=0) | exact EntC.z2 (k:=0) | exact EntC.z0 | exact EntC.z1 | exact EntC.z2)) | (refine Ent.agg' rfl ?_;(repeat (first | exact EntL.nil' rfl | (refine EntL.cons' rfl ?_ ?_;focus (first | exact EntC.ratsLe (by omega) | exact EntC.ratsNil | exact EntC.glNil | (refine EntC.int ?_;omega) | (refine EntC.glLen ?_;first | omega | simp) | exact EntC.of_eq rfl | (refine EntC.q rfl ?_;omega) | exact Z0 _ | exact Z2 _ | exact EntC.z0 (k:=0) | exact EntC.z1 (k:=0) | exact EntC.z2 (k:=0) | exact EntC.z0 | exact EntC.z1 | exact EntC.z2))));done))))
   ·repeat (first | exact nil_all | (refine List.forall_mem_cons.2 ⟨?_,?_⟩;focus (first | exact blk_keep inferInstance | (exact blk_set inferInstance (i:=i+jj) h1 (cs:=nmC (J+(2+2+2+(j+k+2)+2)+3) (x+u*v*(y*z))) (entL_nm rfl hz) (hm:=by kernel_rfl)) | (refine blk_ok rfl ?_ rfl;focus ((repeat (first | exact EntL.nil' rfl | (refine EntL.cons' rfl ?_ ?_;focus (first | exact EntC.ratsLe (by omega) | exact EntC.ratsNil | exact EntC.glNil | (refine EntC.int ?_;omega) | (refine EntC.glLen ?_;first | omega | simp) | exact EntC.of_eq rfl | (refine EntC.q rfl ?_;omega) | exact Z0 _ | exact Z2 _ | exact EntC.z0 (k:=0) | exact EntC.z1 (k:=0) | exact EntC.z2 (k:=0) | exact EntC.z0 | exact EntC.z1 | exact EntC.z2))));done)))))
  ·have bj:=binLe (k:= .i64) (decide_eq_false (show ¬(jj:Int)≤(n:Int) by omega))
   obtain rfl:jj=n+1:=by omega
   rw [convI_end] at hcur
   repeat (first | refine aw_seq ?_ | refine aw_block ?_ | refine aw_condT rfl ?_ | refine aw_condF rfl ?_ | refine aw_pa ?_ | refine aw_da ?_ | refine aw_skip ?_ | refine aw_exit ?_)
   refine ⟨c-1,by omega,i+1,cur,by omega,by omega,hcur,?_⟩
   exact wk_a
 ·have bi:=binLe (k:= .i64) (decide_eq_false (show ¬(i:Int)≤(m:Int) by omega))
  obtain rfl:i=m+1:=by omega
  repeat (first | refine aw_seq ?_ | refine aw_block ?_ | refine aw_condT rfl ?_ | refine aw_condF rfl ?_ | refine aw_pa ?_ | refine aw_da ?_ | refine aw_skip ?_ | refine aw_exit ?_)
  refine aw_loop (fun c σ=> ∃(i:Nat) (cur:List Rat),c=N+1-i∧i≤N+1∧cur=tab (N+1) (fun q=>if q<i then convR a b n (m+1) q/binQ N q else convR a b n (m+1) q)∧Wk ⟨W0,base,D,89,[],μ0⟩ σ [(6,errV (m:Nat)),(7,errV (n:Nat)),(8,.one (.gl 27 (N+1) 3)),(12,errV (i:Nat))] [(27,blkL (nmD J) cur)]) (n:=N+1) ⟨0,cur,by omega,by omega,hcur.trans (tab_congr fun q _=>(if_neg (Nat.not_lt_zero q)).symm),?_⟩ ?_
  ·exact wk_a
  clear hcur cur bi
  intro c2 σ hI
  obtain ⟨i,cur,hc2,hj0,hcur,hw⟩:=hI
  refine aw_wk hw ?_
  clear hw
  have hcl:cur.length=N+1:=by rw [hcur];simp
  by_cases hi:i<N+1
  ·have bi:=binLe (k:= .i64) (decide_eq_true (show (i:Int)≤(N:Int) by omega))
   have hin:=binAdd (k:= .i64) (show (IntKind.i64).wrap ((i:Int)+1)=((i+1:Nat):Int) from IntWalk.i64_in _ (by omega))
   have C1:=t_choose (n:=N) (k:=i) (by omega) (by omega)
   have hx:cur[((i:Nat):Int).toNat]?=some (convR a b n (m+1) i):=by rw [hcur,tab_at hi,if_neg (Nat.lt_irrefl i)]
   have hlt:(0:Int)≤((i:Nat):Int)∧((i:Nat):Int)<((N+1:Nat):Int):=by omega
   have hst:((i:Nat):Int).toNat*3+3≤(blkL (nmD J) cur).length:=by rw [blkL_len (n:=3) inferInstance,hcl,Int.toNat_natCast];omega
   have ld:=rdL_row (f:=nmD J) (n:=3) inferInstance hx
   have O1:=r_over (j:=J) (k:=2) (x:=convR a b n (m+1) i) (y:=binQ N i) (by omega) (by omega) (binQ_ne (by omega))
   have ht:=div_set (a:=convR a b n (m+1)) (b:=binQ N) hi
   rw [←hcur] at ht
   have hz1:=hdz i (by omega)
   generalize convR a b n (m+1) i=x at*
   unfold binQ at*
   generalize ((bin N i:Int):Rat)=u at*
   repeat (first | refine aw_seq ?_ | refine aw_block ?_ | refine aw_condT rfl ?_ | refine aw_condF rfl ?_ | refine aw_pa ?_ | refine aw_da ?_ | refine aw_skip ?_ | refine aw_exit ?_)
   refine ⟨c2-1,by omega,i+1,cur.set i (x/u),by omega,by omega,ht,?_⟩
   exact wk_a
  ·have bi:=binLe (k:= .i64) (decide_eq_false (show ¬(i:Int)≤(N:Int) by omega))
   have he:cur=R:=by rw [hcur,hR];exact tab_congr fun q hq=>if_pos (by omega)
   subst he
   repeat (first | refine aw_seq ?_ | refine aw_block ?_ | refine aw_condT rfl ?_ | refine aw_condF rfl ?_ | refine aw_pa ?_ | refine aw_da ?_ | refine aw_skip ?_ | refine aw_exit ?_)
   refine aw_freeze 27 hD (ss:= [(4,.one (rats J cur)),(5,errV 0)]) (bs:= []) ?_ ?_
   ·rw [←hcl]
    refine fk_mk ?_ ?_ rfl
    ·repeat (first | exact nil_all | (refine List.forall_mem_cons.2 ⟨?_,?_⟩;focus (first | exact fz_blk inferInstance | refine FzA.ent ?_;first | exact Ent.of_eq rfl | (refine Ent.one' rfl ?_;(first | exact EntC.ratsLe (by omega) | exact EntC.ratsNil | exact EntC.glNil | (refine EntC.int ?_;omega) | (refine EntC.glLen ?_;first | omega | simp) | exact EntC.of_eq rfl | (refine EntC.q rfl ?_;omega) | exact Z0 _ | exact Z2 _ | exact EntC.z0 (k:=0) | exact EntC.z1 (k:=0) | exact EntC.z2 (k:=0) | exact EntC.z0 | exact EntC.z1 | exact EntC.z2)) | (refine Ent.agg' rfl ?_;(repeat (first | exact EntL.nil' rfl | (refine EntL.cons' rfl ?_ ?_;focus (first | exact EntC.ratsLe (by omega) | exact EntC.ratsNil | exact EntC.glNil | (refine EntC.int ?_;omega) | (refine EntC.glLen ?_;first | omega | simp) | exact EntC.of_eq rfl | (refine EntC.q rfl ?_;omega) | exact Z0 _ | exact Z2 _ | exact EntC.z0 (k:=0) | exact EntC.z1 (k:=0) | exact EntC.z2 (k:=0) | exact EntC.z0 | exact EntC.z1 | exact EntC.z2))));done))))
    ·repeat (first | exact nil_all | (refine List.forall_mem_cons.2 ⟨?_,?_⟩;focus (first | exact blk_keep inferInstance | (refine blk_ok rfl ?_ rfl;focus ((repeat (first | exact EntL.nil' rfl | (refine EntL.cons' rfl ?_ ?_;focus (first | exact EntC.ratsLe (by omega) | exact EntC.ratsNil | exact EntC.glNil | (refine EntC.int ?_;omega) | (refine EntC.glLen ?_;first | omega | simp) | exact EntC.of_eq rfl | (refine EntC.q rfl ?_;omega) | exact Z0 _ | exact Z2 _ | exact EntC.z0 (k:=0) | exact EntC.z1 (k:=0) | exact EntC.z2 (k:=0) | exact EntC.z0 | exact EntC.z1 | exact EntC.z2))));done)))))
   refine aw_ret (And.intro (Or.inr rfl) ?_)
   exact f_two
end Go.Proofs.YtdgjkohkmdpcdaaGreatDoor
