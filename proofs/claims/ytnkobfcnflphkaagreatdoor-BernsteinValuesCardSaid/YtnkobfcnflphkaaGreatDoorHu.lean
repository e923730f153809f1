/-
  Several texts in one: Zl, Zo.
-/
import Derived.Test.YtnkobfcnflphkaaGreatDoorHw
import Derived.Test.YtnkobfcnflphkaaGreatDoorHz
import Derived.Test.YtnkobfcnflphkaaGreatDoorHv
namespace Go.Proofs.YtnkobfcnflphkaaGreatDoor
open Go.RowKit
set_option linter.unusedVariables false
set_option linter.unusedSimpArgs false
set_option maxRecDepth 20000
set_option maxHeartbeats 4000000
abbrev inD (x:Int):List D:= [.v (.int .i64 x)]
instance:Elm 1 inD:=⟨fun _=>rfl,fun _=>rfl⟩
def rowI (n p q:Nat):Int:=if p<q then (bin (n+1) q:Int) else (bin n q:Int)
theorem rowI_start {n:Nat} :(tab (n+1) fun k=>(bin n k:Int))++ [1]=tab (n+2) (rowI n n):=by
 refine tab_eq (by simp) fun q hq=>?_
 unfold rowI
 by_cases h:q<n+1
 ·rw [List.getElem?_append_left (by simpa using h),tab_get h,if_neg (by omega)]
 ·obtain rfl:q=n+1:=by omega
  rw [List.getElem?_append_right (by simp),tab_len,Nat.sub_self,if_pos (by omega),bin_self];rfl
theorem rowI_end {n:Nat} :tab (n+2) (rowI n 0)=tab (n+1+1) fun k=>(bin (n+1) k:Int):=tab_congr fun q hq=>by
 unfold rowI
 by_cases h:0<q
 ·rw [if_pos h]
 ·obtain rfl:q=0:=by omega
  rw [if_neg h,bin_zero,bin_zero]
theorem rowI_set {n p:Nat} (hp:p<n):(tab (n+2) (rowI n (p+1))).set (p+1) ((bin n (p+1):Int)+(bin n p:Int))=tab (n+2) (rowI n p):=
 tab_set (by omega) (by
  unfold rowI
  rw [if_pos (by omega)]
  show (((bin n p+bin n (p+1):Nat)):Int)=_
  omega) fun q hq hqp=>by
  unfold rowI
  by_cases h:p+1<q
  ·rw [if_pos h,if_pos (by omega)]
  ·rw [if_neg h,if_neg (by omega)]
theorem bin_small {n k:Nat} (h:n≤41):bin n k≤2199023255552:=Nat.le_trans (bin_le n k) (Nat.le_trans (Nat.pow_le_pow_right (by decide) h) (by decide))
theorem binQ_rsz {n k:Nat} (h:n≤41):RSz 2 (binQ n k):=by
 have:=bin_small (k:=k) h
 exact rsz_cast _ (by omega) (by omega)
theorem binQ_iz {n k:Nat} (h:n≤41):IZ 2 (binQ n k):=IZ.nat (length_toL_le _ _ (by have:=bin_small (k:=k) h;omega))
theorem s_binomials {n:Nat} (hn:n≤40):Ctr Tryz.prog Amb 99 [errV (n:Nat)] (.one (ratT 2 (n+1) (binQ n))):=by
 refine ctr_body Tryz.func99 rfl rfl rfl rfl rfl rfl ?_
 intro W0 base D μ0 hA hD
 repeat (first | refine aw_seq ?_ | refine aw_block ?_ | refine aw_condT rfl ?_ | refine aw_condF rfl ?_ | refine aw_pa ?_ | refine aw_da ?_ | refine aw_skip ?_ | refine aw_exit ?_)
 refine aw_loop (fun m σ=> ∃(i:Nat) (row:List Int),m=n-i∧i≤n∧row=tab (i+1) (fun k=>(bin i k:Int))∧Wk ⟨W0,base,D,51,[],μ0⟩ σ [(3,.one (.gl 8 row.length 1)),(9,errV (n:Nat)),(10,errV (i:Nat))] [(8,blkL inD row)]) (n:=n) ⟨0,[1],by omega,by omega,rfl,?_⟩ ?_
 ·exact wk_a
 intro m σ hI
 obtain ⟨i,row,hm,hi0,hrow,hw⟩:=hI
 refine aw_wk hw ?_
 clear hw
 have hrl:row.length=i+1:=by rw [hrow];simp
 by_cases hi:i<n
 ·have bi:=binLt (k:= .i64) (decide_eq_true (show (i:Int)<(n:Int) by omega))
  have hin:=binAdd (k:= .i64) (show (IntKind.i64).wrap ((i:Int)+1)=((i+1:Nat):Int) from IntWalk.i64_in _ (by omega))
  have hst:=rowI_start (n:=i)
  rw [←hrow] at hst
  have hl2:(row++ [(1:Int)]).length=i+2:=by simp;omega
  have h2:=binSub (k:= .i64) (show (IntKind.i64).wrap (((i+2:Nat):Int)-2)=(i:Int) by rw [show (((i+2:Nat):Int)-2)=(i:Int) by omega];exact IntWalk.i64_in _ (by omega))
  repeat (first | refine aw_seq ?_ | refine aw_block ?_ | refine aw_condT rfl ?_ | refine aw_condF rfl ?_ | refine aw_pa ?_ | refine aw_da ?_ | refine aw_skip ?_ | refine aw_exit ?_)
  try refine aw_seq ?_
  refine aw_plainT 2 (by simp only [List.take_succ_cons,List.take_zero,List.drop_succ_cons,List.drop_zero];exact ⟨rfl,rfl⟩) (by kernel_rfl) ?_
  repeat (first
   | refine v_move (hl:=?_)
   | refine v_assign (hl:=?_)
   | refine v_load (hl:=?_)
   | refine v_store (hl:=?_)
   | refine v_bin (hl:=?_)
   | refine v_indexAddr (hl:=?_)
   | refine v_max (hl:=?_)
   | refine v_min (hl:=?_)
   | refine v_len (hl:=?_)
   | refine v_lenS (hl:=?_)
   | refine v_loadF (hl:=?_)
   | refine v_buildL (hl:=?_))
  apply RunK.nil
  refine v_app (k:=8) (ss:= [(9,errV (n:Nat)),(10,errV (i:Nat))]) (bs:= []) (ns:= [.v (.int .i64 1)]) hD ?_ ?_ ?_
  ·exact ⟨by omega,by omega⟩
  ·exact wk_a
  repeat (refine tl_run rfl ?_;(first | refine v_assign (hl:=?_) | refine v_move (hl:=?_) | refine v_store (hl:=?_));apply RunK.nil)
  refine tl_nil ?_
  refine aw_wk (ss:= [(3,.one (.gl 8 (i+2) 1)),(9,errV (n:Nat)),(10,errV (i:Nat))]) (bs:= [(8,blkL inD (row++ [1]))]) ?_ ?_
  ·exact wk_a
  rw [hst]
  repeat (first | refine aw_seq ?_ | refine aw_block ?_ | refine aw_condT rfl ?_ | refine aw_condF rfl ?_ | refine aw_pa ?_ | refine aw_da ?_ | refine aw_skip ?_ | refine aw_exit ?_)
  refine aw_loop (fun c σ=> ∃(p:Nat) (row:List Int),c=p∧p≤i∧row=tab (i+2) (rowI i p)∧Wk ⟨W0,base,D,51,[],μ0⟩ σ [(3,.one (.gl 8 (i+2) 1)),(4,errV (p:Nat)),(9,errV (n:Nat)),(10,errV (i:Nat))] [(8,blkL inD row)]) (n:=i) ⟨i,_,rfl,Nat.le_refl _,rfl,?_⟩ ?_
  ·exact wk_a
  clear hst hrow hrl hl2 row
  intro c σ hI
  obtain ⟨p,row,hc,hp0,hrow,hw⟩:=hI
  refine aw_wk hw ?_
  clear hw
  have hrl:row.length=i+2:=by rw [hrow];simp
  cases p with
  | succ p=>
    have bp:=binGt (k:= .i64) (decide_eq_true (show ((p+1:Nat):Int)>0 by omega))
    have hdn:=binSub (k:= .i64) (show (IntKind.i64).wrap (((p+1:Nat):Int)-1)=(p:Int) by rw [show (((p+1:Nat):Int)-1)=(p:Int) by omega];exact IntWalk.i64_in _ (by omega))
    have hx:row[((p+1:Nat):Int).toNat]?=some (bin i (p+1):Int):=by
     rw [hrow,tab_at (by omega)]
     unfold rowI
     rw [if_neg (Nat.lt_irrefl _)]
    have hy:row[((p:Nat):Int).toNat]?=some (bin i p:Int):=by
     rw [hrow,tab_at (by omega)]
     unfold rowI
     rw [if_neg (by omega)]
    have b1:=bin_small (n:=i) (k:=p+1) (by omega)
    have b2:=bin_small (n:=i) (k:=p) (by omega)
    have ht:=rowI_set (n:=i) (p:=p) (by omega)
    rw [←hrow] at ht
    have hadd:=binAdd (k:= .i64) (show (IntKind.i64).wrap ((bin i (p+1):Int)+(bin i p:Int))=(bin i (p+1):Int)+(bin i p:Int) from IntWalk.i64_in _ (by omega))
    have lt1:(0:Int)≤((p+1:Nat):Int)∧((p+1:Nat):Int)<((i+2:Nat):Int):=by omega
    have lt2:(0:Int)≤((p:Nat):Int)∧((p:Nat):Int)<((i+2:Nat):Int):=by omega
    have st1:((p+1:Nat):Int).toNat*1+1≤(blkL inD row).length:=by rw [blkL_len (n:=1) inferInstance,Int.toNat_natCast];omega
    have st2:((p:Nat):Int).toNat*1+1≤(blkL inD row).length:=by rw [blkL_len (n:=1) inferInstance,Int.toNat_natCast];omega
    have ld1:=rdL_row (f:=inD) (n:=1) inferInstance hx
    have ld2:=rdL_row (f:=inD) (n:=1) inferInstance hy
    generalize (bin i (p+1):Int)=x at*
    generalize (bin i p:Int)=y at*
    repeat (first | refine aw_seq ?_ | refine aw_block ?_ | refine aw_condT rfl ?_ | refine aw_condF rfl ?_ | refine aw_pa ?_ | refine aw_da ?_ | refine aw_skip ?_ | refine aw_exit ?_)
    refine ⟨p,by omega,p,row.set (p+1) (x+y),rfl,by omega,ht,?_⟩
    exact wk_a
  | zero=>
    have bp:=binGt (k:= .i64) (decide_eq_false (show ¬((0:Nat):Int)>0 by omega))
    rw [rowI_end] at hrow
    repeat (first | refine aw_seq ?_ | refine aw_block ?_ | refine aw_condT rfl ?_ | refine aw_condF rfl ?_ | refine aw_pa ?_ | refine aw_da ?_ | refine aw_skip ?_ | refine aw_exit ?_)
    refine ⟨m-1,by omega,i+1,row,by omega,by omega,hrow,?_⟩
    exact wk_a
 ·have bi:=binLt (k:= .i64) (decide_eq_false (show ¬(i:Int)<(n:Int) by omega))
  obtain rfl:i=n:=by omega
  repeat (first | refine aw_seq ?_ | refine aw_block ?_ | refine aw_condT rfl ?_ | refine aw_condF rfl ?_ | refine aw_pa ?_ | refine aw_da ?_ | refine aw_skip ?_ | refine aw_exit ?_)
  refine aw_loop (fun m σ=> ∃(q:Nat) (cur:List Rat),m=i+1-q∧q≤i+1∧cur=tab (i+1) (fun k=>if k<q then binQ i k else 0)∧Wk ⟨W0,base,D,51,[],μ0⟩ σ [(5,.one (.gl 36 row.length 3)),(37,.one (.gl 8 row.length 1)),(38,errV (row.length:Nat)),(39,errV (q:Nat))] [(8,blkL inD row),(36,blkL (nmD 2) cur)]) (n:=i+1) ⟨0,List.replicate row.length 0,by omega,by omega,by rw [hrl];exact tab_rep.trans (tab_congr fun q _=>(if_neg (Nat.not_lt_zero q)).symm),?_⟩ ?_
  ·exact wk_a
  intro m σ hI
  obtain ⟨q,cur,hm,hq0,hcur,hw⟩:=hI
  refine aw_wk hw ?_
  clear hw
  have hcl:cur.length=i+1:=by rw [hcur];simp
  by_cases hq:q<i+1
  ·have bq:=binLt (k:= .i64) (decide_eq_true (show (q:Int)<(row.length:Int) by omega))
   have hin:=binAdd (k:= .i64) (show (IntKind.i64).wrap ((q:Int)+1)=((q+1:Nat):Int) from IntWalk.i64_in _ (by omega))
   have hx:row[((q:Nat):Int).toNat]?=some (bin i q:Int):=by rw [hrow];exact tab_at (g:=fun k=>(bin i k:Int)) hq
   have b1:=bin_small (n:=i) (k:=q) (by omega)
   have I1:=c_int (n:=(bin i q:Int)) (by rw [decide_eq_true (show-9223372036854775808≤(bin i q:Int) by omega),decide_eq_true (show (bin i q:Int)<9223372036854775808 by omega)];rfl)
   have ht:cur.set q (binQ i q)=tab (i+1) (fun k=>if k<q+1 then binQ i k else 0):=by
    rw [hcur]
    refine tab_set hq (if_pos (by omega)) fun k hk hkq=>?_
    by_cases h1:k<q
    ·rw [if_pos h1,if_pos (by omega)]
    ·rw [if_neg h1,if_neg (by omega)]
   have lt1:(0:Int)≤((q:Nat):Int)∧((q:Nat):Int)<(row.length:Nat):=by omega
   have st1:((q:Nat):Int).toNat*1+1≤(blkL inD row).length:=by rw [blkL_len (n:=1) inferInstance,Int.toNat_natCast];omega
   have st2:((q:Nat):Int).toNat*3+3≤(blkL (nmD 2) cur).length:=by rw [blkL_len (n:=3) inferInstance,Int.toNat_natCast];omega
   have ld1:=rdL_row (f:=inD) (n:=1) inferInstance hx
   unfold binQ at ht
   generalize ((bin i q:Int):Rat)=y at*
   generalize (bin i q:Int)=x at*
   repeat (first | refine aw_seq ?_ | refine aw_block ?_ | refine aw_condT rfl ?_ | refine aw_condF rfl ?_ | refine aw_pa ?_ | refine aw_da ?_ | refine aw_skip ?_ | refine aw_exit ?_)
   refine ⟨m-1,by omega,q+1,cur.set q y,by omega,by omega,ht,?_⟩
   exact wk_a
  ·have bq:=binLt (k:= .i64) (decide_eq_false (show ¬(q:Int)<(row.length:Int) by omega))
   have he:cur=tab (i+1) (binQ i):=by rw [hcur];exact tab_congr fun k hk=>if_pos (by omega)
   rw [show row.length=cur.length by omega] at*
   repeat (first | refine aw_seq ?_ | refine aw_block ?_ | refine aw_condT rfl ?_ | refine aw_condF rfl ?_ | refine aw_pa ?_ | refine aw_da ?_ | refine aw_skip ?_ | refine aw_exit ?_)
   refine aw_freeze 36 hD (ss:= [(2,.one (rats 2 cur))]) (bs:= []) ?_ ?_
   ·refine fk_mk ?_ ?_ rfl
    ·repeat (first | exact nil_all | (refine List.forall_mem_cons.2 ⟨?_,?_⟩;focus (first | exact fz_blk inferInstance | refine FzA.ent ?_;first | exact Ent.of_eq rfl | (refine Ent.one' rfl ?_;(first | exact EntC.ratsLe (by omega) | exact EntC.ratsNil | exact EntC.glNil | (refine EntC.int ?_;omega) | (refine EntC.glLen ?_;first | omega | simp) | exact EntC.of_eq rfl | (refine EntC.q rfl ?_;omega) | exact Z0 _ | exact Z2 _ | exact EntC.z0 (k:=0) | exact EntC.z1 (k:=0) | exact EntC.z2 (k:=0) | exact EntC.z0 | exact EntC.z1 | exact EntC.z2)) | (refine Ent.agg' rfl ?_;(repeat (first | exact EntL.nil' rfl | (refine EntL.cons' rfl ?_ ?_;focus (first | exact EntC.ratsLe (by omega) | exact EntC.ratsNil | exact EntC.glNil | (refine EntC.int ?_;omega) | (refine EntC.glLen ?_;first | omega | simp) | exact EntC.of_eq rfl | (refine EntC.q rfl ?_;omega) | exact Z0 _ | exact Z2 _ | exact EntC.z0 (k:=0) | exact EntC.z1 (k:=0) | exact EntC.z2 (k:=0) | exact EntC.z0 | exact EntC.z1 | exact EntC.z2))));done))))
    ·repeat (first | exact nil_all | (refine List.forall_mem_cons.2 ⟨?_,?_⟩;focus (first | exact blk_keep inferInstance | (refine blk_ok rfl ?_ rfl;focus ((repeat (first | exact EntL.nil' rfl | (refine EntL.cons' rfl ?_ ?_;focus (first | exact EntC.ratsLe (by omega) | exact EntC.ratsNil | exact EntC.glNil | (refine EntC.int ?_;omega) | (refine EntC.glLen ?_;first | omega | simp) | exact EntC.of_eq rfl | (refine EntC.q rfl ?_;omega) | exact Z0 _ | exact Z2 _ | exact EntC.z0 (k:=0) | exact EntC.z1 (k:=0) | exact EntC.z2 (k:=0) | exact EntC.z0 | exact EntC.z1 | exact EntC.z2))));done)))))
   subst he
   refine aw_ret (And.intro (Or.inr rfl) ?_)
   exact f_one
end Go.Proofs.YtnkobfcnflphkaaGreatDoor
namespace Go.Proofs.YtnkobfcnflphkaaGreatDoor
open Go.RowKit
set_option linter.unusedVariables false
set_option linter.unusedSimpArgs false
set_option maxRecDepth 20000
set_option maxHeartbeats 4000000
theorem IZ.add {b c:Nat} {x y:Rat} (h:IZ b x) (k:IZ b y) (hc:b+1≤c):IZ c (x+y):=by
 obtain ⟨z,rfl,hz⟩:=h
 obtain ⟨w,rfl,hw⟩:=k
 exact ⟨z+w,(Rat.intCast_add _ _).symm,((hz.plus hw).le (Int.natAbs_add_le _ _)).mono hc⟩
theorem IZ.zero {b:Nat} :IZ b 0:=⟨0,rfl,length_toL_le _ _ (Nat.pow_pos (by decide))⟩
theorem conv_iz {a b:Nat→Rat} {c m n:Nat} (ha: ∀i j,i≤m→j≤n→IZ c (a i*b j)): ∀i k,i≤m+1→IZ (c+i) (convR a b n i k)
 | 0,_,_=>IZ.zero
 | i+1,k,h=>by
   have h1:=conv_iz ha i k (by omega)
   refine IZ.add h1 ?_ (by omega)
   split
   ·rename_i hh;exact (ha i (k-i) (by omega) (by omega)).mono (by omega)
   ·exact IZ.zero
theorem convI_iz {a b:Nat→Rat} {c m n:Nat} (ha: ∀i j,i≤m→j≤n→IZ c (a i*b j)) {i j k:Nat} (hi:i≤m) (hj:j≤n+1):IZ (c+(m+1)) (convI a b n i j k):=by
 refine IZ.add (conv_iz ha i k (by omega)) ?_ (by omega)
 split
 ·rename_i hh;exact (ha i (k-i) hi (by omega)).mono (by omega)
 ·exact IZ.zero
theorem s_weighted {j J n:Nat} {l:List Rat} (hl:l.length=n+1) (hn:n≤40) (hj:j≤10000) (hr: ∀r∈l,RSz j r) (hJ:(n+1)*j+2+j+4≤J) (hJ2:J≤10000000):
  CtrG Tryz.prog Amb 118 [.one (rats j l)] [] [(26,blkL (nmD J) (tab (n+1) fun i=>whS oneR l*cf l i*binQ n i))] (.tup [.one (.gl 26 (n+1) 3),nm ((n+1)*j+2) (whS oneR l)]):=by
 obtain ⟨M,hM0,_,hMS,hMsz,hint⟩:=whS_spec l 1 2 (by decide) (length_toL_le _ _ (by decide)) hr
 have W1:=s_wholeT (J:=J) hl (by omega) (by omega) hr (by omega)
 obtain ⟨S,hS⟩: ∃S,S=whS oneR l:=⟨_,rfl⟩
 rw [←hS] at W1⊢
 have hSM:S=((M:Int):Rat):=hS.trans hMS
 rw [hl] at hMsz
 have hz: ∀i,i≤n→RSz J (S*l.getD i 0*binQ n i):=fun i hi=>by
  have hlt:i<l.length:=by omega
  have hm:l.getD i 0∈l:=by
   rw [List.getD_eq_getElem?_getD,List.getElem?_eq_getElem hlt]
   exact List.getElem_mem hlt
  rw [hSM]
  exact (((IZ.scaled hMsz (hr _ hm) (hint _ hm)).mul (binQ_iz (n:=n) (k:=i) (by omega))).rsz (by omega)).mono (by omega)
 have B1:=s_binomials hn
 have hdn:=binSub (k:= .i64) (show (IntKind.i64).wrap ((l.length:Int)-1)=(n:Int) by rw [show ((l.length:Int)-1)=(n:Int) by omega];exact IntWalk.i64_in _ (by omega))
 clear hint hMS hS hSM hr hMsz hM0
 obtain ⟨F,hF⟩: ∃F,F=tab (n+1) fun i=>S*l.getD i 0:=⟨_,rfl⟩
 obtain ⟨R,hR⟩: ∃R,R=tab (n+1) fun i=>S*l.getD i 0*binQ n i:=⟨_,rfl⟩
 obtain ⟨G,hG⟩: ∃G,G=tab (n+1) (binQ n):=⟨_,rfl⟩
 have hFl:F.length=n+1:=by rw [hF];simp
 have hRl:R.length=n+1:=by rw [hR];simp
 unfold ratT at B1
 rw [←hF] at W1
 rw [←hG] at B1
 show CtrG Tryz.prog Amb 118 [.one (rats j l)] [] [(26,blkL (nmD J) (tab (n+1) fun i=>S*l.getD i 0*binQ n i))] _
 rw [←hR]
 have hbl:0<(blkL (nmD J) F).length:=blkL_ne (n:=3) inferInstance (by decide) (by omega)
 have hne':(!(blkL (nmD J) R).isEmpty)=true:=by
  have:=blkL_ne (f:=nmD J) inferInstance (by decide) (show 0<R.length by omega)
  cases hb:blkL (nmD J) R with
  | nil=>rw [hb] at this;cases this
  | cons a b=>rfl
 refine ctrG_body Tryz.func118 rfl rfl rfl rfl (by
  simp only [List.all_cons,List.all_nil,Bool.and_true,Bool.and_eq_true]
  exact ⟨by simp [inA,inC],blkL_in _ _,hne'⟩) (by simp [inA,inC]) (by simp) (by simp) ?_
 intro W0 base D μ0 hA hD
 repeat (first | refine aw_seq ?_ | refine aw_block ?_ | refine aw_condT rfl ?_ | refine aw_condF rfl ?_ | refine aw_pa ?_ | refine aw_da ?_ | refine aw_skip ?_ | refine aw_exit ?_)
 refine aw_loop (fun m σ=> ∃(i:Nat) (cur:List Rat),m=n+1-i∧i≤n+1∧cur=tab (n+1) (fun q=>if q<i then S*l.getD q 0*binQ n q else S*l.getD q 0)∧Wk ⟨W0,base,D,37,[],μ0⟩ σ [(3,.one (.ptr 3 0)),(4,.one (.gl 26 (n+1) 3)),(5,.one (.ptr 5 0)),(6,.one (rats 2 G)),(18,errV ((n+1:Nat):Int)),(19,errV (i:Nat))] [(3,nmC 2 0),(5,nmC ((n+1)*j+2) S),(26,blkL (nmD J) cur)]) (n:=n+1) ⟨0,F,by omega,by omega,hF.trans (tab_congr fun q _=>(if_neg (Nat.not_lt_zero q)).symm),?_⟩ ?_
 ·exact wk_a
 intro m σ hI
 obtain ⟨i,cur,hm,hi0,hcur,hw⟩:=hI
 refine aw_wk hw ?_
 clear hw
 have hcl:cur.length=n+1:=by rw [hcur];simp
 by_cases hi:i<n+1
 ·have bi:=binLt (k:= .i64) (decide_eq_true (show (i:Int)<((n+1:Nat):Int) by omega))
  have hin:=binAdd (k:= .i64) (show (IntKind.i64).wrap ((i:Int)+1)=((i+1:Nat):Int) from IntWalk.i64_in _ (by omega))
  have hx:cur[((i:Nat):Int).toNat]?=some (S*l.getD i 0):=by rw [hcur,tab_at hi,if_neg (Nat.lt_irrefl i)]
  have hy:G[((i:Nat):Int).toNat]?=some (binQ n i):=by rw [hG];exact tab_at hi
  have hlt:(0:Int)≤((i:Nat):Int)∧((i:Nat):Int)<((n+1:Nat):Int):=by omega
  have hst:((i:Nat):Int).toNat*3+3≤(blkL (nmD J) cur).length:=by rw [blkL_len (n:=3) inferInstance,hcl,Int.toNat_natCast];omega
  have ld:=rdL_row (f:=nmD J) (n:=3) inferInstance hx
  have hz1:=hz i (by omega)
  have ht:=fac_set (c:=fun q=>S*l.getD q 0) (g:=binQ n) hi
  replace ht:cur.set i (S*l.getD i 0*binQ n i)=tab (n+1) (fun q=>if q<i+1 then S*l.getD q 0*binQ n q else S*l.getD q 0):=by rw [hcur];exact ht
  have M4:=c_mul (j:=J) (k:=2) (x:=S*l.getD i 0) (y:=binQ n i) (by omega) (by omega)
  generalize S*l.getD i 0=x at*
  unfold binQ at*
  generalize ((bin n i:Int):Rat)=y at*
  repeat (first | refine aw_seq ?_ | refine aw_block ?_ | refine aw_condT rfl ?_ | refine aw_condF rfl ?_ | refine aw_pa ?_ | refine aw_da ?_ | refine aw_skip ?_ | refine aw_exit ?_)
  refine ⟨m-1,by omega,i+1,cur.set i (x*y),by omega,by omega,ht,?_⟩
  exact wk_a
 ·have bi:=binLt (k:= .i64) (decide_eq_false (show ¬(i:Int)<((n+1:Nat):Int) by omega))
  have he:cur=R:=by rw [hcur,hR];exact tab_congr fun q hq=>if_pos (by omega)
  subst he
  repeat (first | refine aw_seq ?_ | refine aw_block ?_ | refine aw_condT rfl ?_ | refine aw_condF rfl ?_ | refine aw_pa ?_ | refine aw_da ?_ | refine aw_skip ?_ | refine aw_exit ?_)
  refine aw_ret (And.intro (Or.inr rfl) (f_twoN ?_))
  exact List.forall_mem_cons.2 ⟨.inl (blk_keep inferInstance),nil_all⟩
theorem s_mul1 {ja js jw i:Nat} {l m:List Rat} {x y s:Rat} (hx:l[((i:Nat):Int).toNat]?=some x) (hy:m[((i:Nat):Int).toNat]?=some y) (h1:ja≤10000000) (h2:js≤10000000) (h3:jw≤10000000) (h0:s*y≠0):
  CtrM Tryz.prog Amb 119 [errV (i:Nat),.one (.ptr 901 0),.one (.ptr 902 0),.one (.ptr 903 0)] [(901,[rats ja l],[rats ja l]),(902,nmC js s,nmC js s),(903,[rats jw m],[rats jw m])] (nm (ja+(js+jw+2)+2) (x/(s*y))):=by
 have M1:=c_mul (j:=js) (k:=jw) (x:=s) (y:=y) (by omega) (by omega)
 have O1:=s_over (j:=ja) (k:=js+jw+2) (x:=x) (y:=s*y) (by omega) (by omega) h0
 apply ctr_body Tryz.func119 rfl rfl rfl rfl rfl
 case hin=>simp [inA,inC]
 intro W0 base D μ0 hA hD
 repeat (first | refine aw_seq ?_ | refine aw_block ?_ | refine aw_condT rfl ?_ | refine aw_condF rfl ?_ | refine aw_pa ?_ | refine aw_da ?_ | refine aw_skip ?_ | refine aw_exit ?_)
 refine aw_ret (And.intro (Or.inr rfl) ?_)
 exact f_ro (hb:=by repeat (first | exact nil_all | refine List.forall_mem_cons.2 ⟨⟨rfl,rfl,rfl⟩,?_⟩))
def wgt (n:Nat) (f:Nat→Rat) (i:Nat):Rat:=binQ n i*f i
def mulQ (f g:Nat→Rat) (m n k:Nat):Rat:=convR (wgt m f) (wgt n g) n (m+1) k/binQ (m+n) k
theorem mul_scaled {s t:Rat} {f g:Nat→Rat} {m n k:Nat} (hs:s≠0) (ht:t≠0) (hk:k≤m+n):convR (fun i=>s*f i*binQ m i) (fun i=>t*g i*binQ n i) n (m+1) k/(s*t*binQ (m+n) k)=mulQ f g m n k:=by
 have e:convR (fun i=>s*f i*binQ m i) (fun i=>t*g i*binQ n i) n (m+1) k=s*t*convR (wgt m f) (wgt n g) n (m+1) k:=by
  rw [←convR_scale]
  exact convR_congr (fun q _=>by unfold wgt;grind) (fun q _=>by unfold wgt;grind)
 rw [e]
 unfold mulQ
 have h1:=binQ_ne hk
 have h2:=rat_mul_ne hs ht
 generalize s*t=c at*
 generalize binQ (m+n) k=b at*
 generalize convR (wgt m f) (wgt n g) n (m+1) k=x at*
 have h3:=rat_mul_ne h2 h1
 grind
set_option maxHeartbeats 16000000 in
theorem s_mulB {j k m n:Nat} {p q:List Rat} (hp:p.length=m+1) (hq:q.length=n+1) (hmn:m+n≤40) (hj:j≤10000) (hk:k≤10000) (hr: ∀r∈p,RSz j r) (hr2: ∀r∈q,RSz k r):
  Ctr Tryz.prog Amb 45 [.one (rats j p),.one (rats k q)] (.tup [.one (rats 5000000 (tab (m+n+1) (mulQ (cf p) (cf q) m n))),errV 0]):=by
 have hNA:(m+1)*j≤41*10000:=Nat.mul_le_mul (by omega) hj
 have hNB:(n+1)*k≤41*10000:=Nat.mul_le_mul (by omega) hk
 obtain ⟨J,hJ⟩: ∃J,J=1000000:=⟨_,rfl⟩
 obtain ⟨M,hM0,_,hMS,hMsz,hint⟩:=whS_spec p 1 2 (by decide) (length_toL_le _ _ (by decide)) hr
 obtain ⟨Q,hQ0,_,hQS,hQsz,hqnt⟩:=whS_spec q 1 2 (by decide) (length_toL_le _ _ (by decide)) hr2
 have W1:=s_weighted (J:=J) hp (by omega) hj hr (by omega) (by omega)
 have W2:=s_weighted (J:=J) hq (by omega) hk hr2 (by omega) (by omega)
 obtain ⟨S,hS⟩: ∃S,S=whS oneR p:=⟨_,rfl⟩
 obtain ⟨T,hT⟩: ∃T,T=whS oneR q:=⟨_,rfl⟩
 rw [←hS] at W1
 rw [←hT] at W2
 have hSM:S=((M:Int):Rat):=hS.trans hMS
 have hTQ:T=((Q:Int):Rat):=hT.trans hQS
 have hS0:S≠0:=by rw [hSM];exact natQ_ne hM0
 have hT0:T≠0:=by rw [hTQ];exact natQ_ne hQ0
 rw [hp] at hMsz
 rw [hq] at hQsz
 obtain ⟨a,ha⟩: ∃a:Nat→Rat,a=fun i=>S*cf p i*binQ m i:=⟨_,rfl⟩
 obtain ⟨b,hb⟩: ∃b:Nat→Rat,b=fun i=>T*cf q i*binQ n i:=⟨_,rfl⟩
 have hva: ∀i,i≤m+n→convR a b n (m+1) i/(S*T*binQ (m+n) i)=mulQ (cf p) (cf q) m n i:=fun i hi=>by rw [ha,hb];exact mul_scaled hS0 hT0 hi
 have iz: ∀i j',i≤m→j'≤n→IZ (900000) (a i*b j'):=fun i j' hi hj'=>by
  have h1:cf p i∈p:=by
   have hlt:i<p.length:=by omega
   unfold cf
   rw [List.getD_eq_getElem?_getD,List.getElem?_eq_getElem hlt];exact List.getElem_mem hlt
  have h2:cf q j'∈q:=by
   have hlt:j'<q.length:=by omega
   unfold cf
   rw [List.getD_eq_getElem?_getD,List.getElem?_eq_getElem hlt];exact List.getElem_mem hlt
  rw [ha,hb,hSM,hTQ]
  exact (((IZ.scaled hMsz (hr _ h1) (hint _ h1)).mul (binQ_iz (n:=m) (k:=i) (by omega))).mul ((IZ.scaled hQsz (hr2 _ h2) (hqnt _ h2)).mul (binQ_iz (n:=n) (k:=j') (by omega)))).mono (by omega)
 have hcz: ∀i j' k',i≤m→j'≤n+1→RSz J (convI a b n i j' k'):=fun i j' k' hi hj'=>((convI_iz iz hi hj').rsz (by omega)).mono (by omega)
 have W1':CtrG Tryz.prog Amb 118 [.one (rats j p)] [] [(26,blkL (nmD J) (tab (m+1) a))] (.tup [.one (.gl 26 (m+1) 3),nm ((m+1)*j+2) S]):=by rw [ha];exact W1
 have W2':CtrG Tryz.prog Amb 118 [.one (rats k q)] [] [(126,blkL (nmD J) (tab (n+1) b))] (.tup [.one (.gl 126 (n+1) 3),nm ((n+1)*k+2) T]):=by
  have h:=W2.at1 rfl (blkL_pf _) 126
  rw [hb]
  exact h
 clear W1 W2 ha hb hint hqnt hMS hQS hS hT hSM hTQ hM0 hQ0 hMsz hQsz hr hr2 iz
 have M3:=c_mul (j:=(m+1)*j+2) (k:=(n+1)*k+2) (x:=S) (y:=T) (by omega) (by omega)
 obtain ⟨N,hN⟩: ∃N,N=m+n:=⟨_,rfl⟩
 have Bi:=s_binomials (n:=N) (by omega)
 have hST:S*T≠0:=rat_mul_ne hS0 hT0
 have B1:=b131 (g:=119) (n:=N) (J:=5000000) (h:=mulQ (cf p) (cf q) m n) (c0:=rats J (tab (N+1) (convR a b n (m+1)))) (c1:= .q (S*T) ((m+1)*j+2+((n+1)*k+2)+2) 0) (c2:= .q (S*T) ((m+1)*j+2+((n+1)*k+2)+2) 1) (c3:= .q (S*T) ((m+1)*j+2+((n+1)*k+2)+2) 2) (c4:=rats 2 (tab (N+1) (binQ N))) rfl rfl rfl rfl rfl rfl rfl rfl rfl rfl (k1:=11) (k2:=14) (k3:=15) (by omega) (fun i hi=>by
  rw [←hva i (by omega),←hN]
  have h:=s_mul1 (ja:=J) (js:=(m+1)*j+2+((n+1)*k+2)+2) (jw:=2) (i:=i) (l:=tab (N+1) (convR a b n (m+1))) (m:=tab (N+1) (binQ N)) (s:=S*T) (tab_at (by omega)) (tab_at (by omega)) (by omega) (by omega) (by omega) (rat_mul_ne hST (binQ_ne hi))
  exact CtrM.weak h (Ents.of_eq rfl) (Ent.agg (.cons (.q rfl (by omega)) (.cons (.q rfl (by omega)) (.cons (.q rfl (by omega)) .nil))))) (by decide)
 rw [←hN]
 obtain ⟨R0,hR0⟩: ∃R0,R0=tab (N+1) (mulQ (cf p) (cf q) m n):=⟨_,rfl⟩
 obtain ⟨A,hA1⟩: ∃A,A=tab (m+1) a:=⟨_,rfl⟩
 obtain ⟨B,hB1⟩: ∃B,B=tab (n+1) b:=⟨_,rfl⟩
 obtain ⟨C,hC1⟩: ∃C,C=tab (N+1) (convR a b n (m+1)):=⟨_,rfl⟩
 obtain ⟨G,hG1⟩: ∃G,G=tab (N+1) (binQ N):=⟨_,rfl⟩
 unfold ratT at B1 Bi
 rw [←hR0] at B1⊢
 rw [←hA1] at W1'
 rw [←hB1] at W2'
 rw [←hC1,←hG1] at B1
 rw [←hG1] at Bi
 have hAl:A.length=m+1:=by rw [hA1];simp
 have hBl:B.length=n+1:=by rw [hB1];simp
 have hbl1:0<(blkL (nmD J) A).length:=blkL_ne (n:=3) inferInstance (by decide) (by omega)
 have hbl2:0<(blkL (nmD J) B).length:=blkL_ne (n:=3) inferInstance (by decide) (by omega)
 clear hR0 hG1 hva hST
 have e1:=binSub (k:= .i64) (show (IntKind.i64).wrap ((p.length:Int)-1)=(m:Int) by rw [show ((p.length:Int)-1)=(m:Int) by omega];exact IntWalk.i64_in _ (by omega))
 have e2:=binAdd (k:= .i64) (show (IntKind.i64).wrap ((m:Int)+(q.length:Int))=((N+1:Nat):Int) by rw [show ((m:Int)+(q.length:Int))=((N+1:Nat):Int) by omega];exact IntWalk.i64_in _ (by omega))
 have e3:=binSub (k:= .i64) (show (IntKind.i64).wrap (((N+1:Nat):Int)-1)=(N:Int) by rw [show (((N+1:Nat):Int)-1)=(N:Int) by omega];exact IntWalk.i64_in _ (by omega))
 have e4:=binEq (k:= .i64) (decide_eq_false (show ¬(p.length:Int)=0 by omega))
 have e5:=binEq (k:= .i64) (decide_eq_false (show ¬(q.length:Int)=0 by omega))
 have e6:=binGt (k:= .i64) (decide_eq_false (show ¬(N:Int)>40 by omega))
 refine ctr_body Tryz.func45 rfl rfl rfl rfl rfl rfl ?_
 intro W0 base D μ0 hA hD
 repeat (first | refine aw_seq ?_ | refine aw_block ?_ | refine aw_condT rfl ?_ | refine aw_condF rfl ?_ | refine aw_pa ?_ | refine aw_da ?_ | refine aw_skip ?_ | refine aw_exit ?_)
 refine aw_freeze 26 hD (ss:= [(6,errV (N:Nat)),(7,.one (rats J A)),(8,.one (.ptr 8 0)),(9,.one (.gl 126 (n+1) 3)),(10,.one (.ptr 10 0))]) (bs:= [(8,nmC ((m+1)*j+2) S),(10,nmC ((n+1)*k+2) T),(126,blkL (nmD J) B)]) ?_ ?_
 ·rw [←hAl]
  refine fk_mk ?_ ?_ rfl
  ·repeat (first | exact nil_all | (refine List.forall_mem_cons.2 ⟨?_,?_⟩;focus (first | exact fz_blk inferInstance | refine FzA.ent ?_;first | exact Ent.of_eq rfl | (refine Ent.one' rfl ?_;(first | exact EntC.ratsLe (by omega) | exact EntC.ratsNil | exact EntC.glNil | (refine EntC.int ?_;omega) | (refine EntC.glLen ?_;first | omega | simp) | exact EntC.of_eq rfl | (refine EntC.q rfl ?_;omega) | exact Z0 _ | exact Z2 _ | exact EntC.z0 (k:=0) | exact EntC.z1 (k:=0) | exact EntC.z2 (k:=0) | exact EntC.z0 | exact EntC.z1 | exact EntC.z2)) | (refine Ent.agg' rfl ?_;(repeat (first | exact EntL.nil' rfl | (refine EntL.cons' rfl ?_ ?_;focus (first | exact EntC.ratsLe (by omega) | exact EntC.ratsNil | exact EntC.glNil | (refine EntC.int ?_;omega) | (refine EntC.glLen ?_;first | omega | simp) | exact EntC.of_eq rfl | (refine EntC.q rfl ?_;omega) | exact Z0 _ | exact Z2 _ | exact EntC.z0 (k:=0) | exact EntC.z1 (k:=0) | exact EntC.z2 (k:=0) | exact EntC.z0 | exact EntC.z1 | exact EntC.z2))));done))))
  ·repeat (first | exact nil_all | (refine List.forall_mem_cons.2 ⟨?_,?_⟩;focus (first | exact blk_keep inferInstance | (refine blk_ok rfl ?_ rfl;focus ((repeat (first | exact EntL.nil' rfl | (refine EntL.cons' rfl ?_ ?_;focus (first | exact EntC.ratsLe (by omega) | exact EntC.ratsNil | exact EntC.glNil | (refine EntC.int ?_;omega) | (refine EntC.glLen ?_;first | omega | simp) | exact EntC.of_eq rfl | (refine EntC.q rfl ?_;omega) | exact Z0 _ | exact Z2 _ | exact EntC.z0 (k:=0) | exact EntC.z1 (k:=0) | exact EntC.z2 (k:=0) | exact EntC.z0 | exact EntC.z1 | exact EntC.z2))));done)))))
 refine aw_freeze 126 hD (ss:= [(6,errV (N:Nat)),(7,.one (rats J A)),(8,.one (.ptr 8 0)),(9,.one (rats J B)),(10,.one (.ptr 10 0))]) (bs:= [(8,nmC ((m+1)*j+2) S),(10,nmC ((n+1)*k+2) T)]) ?_ ?_
 ·rw [←hBl]
  refine fk_mk ?_ ?_ rfl
  ·repeat (first | exact nil_all | (refine List.forall_mem_cons.2 ⟨?_,?_⟩;focus (first | exact fz_blk inferInstance | refine FzA.ent ?_;first | exact Ent.of_eq rfl | (refine Ent.one' rfl ?_;(first | exact EntC.ratsLe (by omega) | exact EntC.ratsNil | exact EntC.glNil | (refine EntC.int ?_;omega) | (refine EntC.glLen ?_;first | omega | simp) | exact EntC.of_eq rfl | (refine EntC.q rfl ?_;omega) | exact Z0 _ | exact Z2 _ | exact EntC.z0 (k:=0) | exact EntC.z1 (k:=0) | exact EntC.z2 (k:=0) | exact EntC.z0 | exact EntC.z1 | exact EntC.z2)) | (refine Ent.agg' rfl ?_;(repeat (first | exact EntL.nil' rfl | (refine EntL.cons' rfl ?_ ?_;focus (first | exact EntC.ratsLe (by omega) | exact EntC.ratsNil | exact EntC.glNil | (refine EntC.int ?_;omega) | (refine EntC.glLen ?_;first | omega | simp) | exact EntC.of_eq rfl | (refine EntC.q rfl ?_;omega) | exact Z0 _ | exact Z2 _ | exact EntC.z0 (k:=0) | exact EntC.z1 (k:=0) | exact EntC.z2 (k:=0) | exact EntC.z0 | exact EntC.z1 | exact EntC.z2))));done))))
  ·repeat (first | exact nil_all | (refine List.forall_mem_cons.2 ⟨?_,?_⟩;focus (first | exact blk_keep inferInstance | (refine blk_ok rfl ?_ rfl;focus ((repeat (first | exact EntL.nil' rfl | (refine EntL.cons' rfl ?_ ?_;focus (first | exact EntC.ratsLe (by omega) | exact EntC.ratsNil | exact EntC.glNil | (refine EntC.int ?_;omega) | (refine EntC.glLen ?_;first | omega | simp) | exact EntC.of_eq rfl | (refine EntC.q rfl ?_;omega) | exact Z0 _ | exact Z2 _ | exact EntC.z0 (k:=0) | exact EntC.z1 (k:=0) | exact EntC.z2 (k:=0) | exact EntC.z0 | exact EntC.z1 | exact EntC.z2))));done)))))
 have e7:=binAdd (k:= .i64) (show (IntKind.i64).wrap ((N:Int)+1)=((N+1:Nat):Int) from IntWalk.i64_in _ (by omega))
 repeat (first | refine aw_seq ?_ | refine aw_block ?_ | refine aw_condT rfl ?_ | refine aw_condF rfl ?_ | refine aw_pa ?_ | refine aw_da ?_ | refine aw_skip ?_ | refine aw_exit ?_)
 refine aw_loop (fun c σ=> ∃(i:Nat) (cur:List Rat),c=m+1-i∧i≤m+1∧cur=tab (N+1) (convR a b n i)∧Wk ⟨W0,base,D,89,[],μ0⟩ σ [(6,errV (N:Nat)),(7,.one (rats J A)),(8,.one (.ptr 8 0)),(9,.one (rats J B)),(10,.one (.ptr 10 0)),(11,.one (.ptr 11 0)),(49,errV (A.length:Nat)),(50,errV (i:Nat))] [(8,nmC ((m+1)*j+2) S),(10,nmC ((n+1)*k+2) T),(11,[.gl 47 (N+1) 3]),(47,blkL (nmD J) cur)]) (n:=m+1) ⟨0,List.replicate (N+1) 0,by omega,by omega,tab_rep,?_⟩ ?_
 ·exact wk_a
 intro c σ hI
 obtain ⟨i,cur,hc,hi0,hcur,hw⟩:=hI
 refine aw_wk hw ?_
 clear hw
 by_cases hi:i<m+1
 ·have bi:=binLt (k:= .i64) (decide_eq_true (show (i:Int)<(A.length:Int) by omega))
  have hin:=binAdd (k:= .i64) (show (IntKind.i64).wrap ((i:Int)+1)=((i+1:Nat):Int) from IntWalk.i64_in _ (by omega))
  rw [←convI_start (n:=n)] at hcur
  repeat (first | refine aw_seq ?_ | refine aw_block ?_ | refine aw_condT rfl ?_ | refine aw_condF rfl ?_ | refine aw_pa ?_ | refine aw_da ?_ | refine aw_skip ?_ | refine aw_exit ?_)
  refine aw_loop (fun c σ=> ∃(jj:Nat) (cur:List Rat),c=n+1-jj∧jj≤n+1∧cur=tab (N+1) (convI a b n i jj)∧Wk ⟨W0,base,D,89,[],μ0⟩ σ [(6,errV (N:Nat)),(7,.one (rats J A)),(8,.one (.ptr 8 0)),(9,.one (rats J B)),(10,.one (.ptr 10 0)),(11,.one (.ptr 11 0)),(12,errV (i:Nat)),(49,errV (A.length:Nat)),(50,errV (i:Nat)),(54,errV (B.length:Nat)),(55,errV (jj:Nat))] [(8,nmC ((m+1)*j+2) S),(10,nmC ((n+1)*k+2) T),(11,[.gl 47 (N+1) 3]),(47,blkL (nmD J) cur)]) (n:=n+1) ⟨0,cur,by omega,by omega,hcur,?_⟩ ?_
  ·exact wk_a
  clear hcur cur
  intro c2 σ hI
  obtain ⟨jj,cur,hc2,hj0,hcur,hw⟩:=hI
  refine aw_wk hw ?_
  clear hw
  have hcl:cur.length=N+1:=by rw [hcur];simp
  by_cases hjj:jj<n+1
  ·have bj:=binLt (k:= .i64) (decide_eq_true (show (jj:Int)<(B.length:Int) by omega))
   have hjn:=binAdd (k:= .i64) (show (IntKind.i64).wrap ((jj:Int)+1)=((jj+1:Nat):Int) from IntWalk.i64_in _ (by omega))
   have hij:=binAdd (k:= .i64) (show (IntKind.i64).wrap ((i:Int)+(jj:Int))=((i+jj:Nat):Int) from IntWalk.i64_in _ (by omega))
   have hx:cur[((i+jj:Nat):Int).toNat]?=some (convI a b n i jj (i+jj)):=by rw [hcur];exact tab_at (by omega)
   have hya:A[((i:Nat):Int).toNat]?=some (a i):=by rw [hA1];exact tab_at hi
   have hyb:B[((jj:Nat):Int).toNat]?=some (b jj):=by rw [hB1];exact tab_at hjj
   have lt1:(0:Int)≤((i+jj:Nat):Int)∧((i+jj:Nat):Int)<((N+1:Nat):Int):=by omega
   have st1:((i+jj:Nat):Int).toNat*3+3≤(blkL (nmD J) cur).length:=by rw [blkL_len (n:=3) inferInstance,hcl,Int.toNat_natCast];omega
   have ld1:=rdL_row (f:=nmD J) (n:=3) inferInstance hx
   have M4:=c_mul (j:=J) (k:=J) (x:=a i) (y:=b jj) (by omega) (by omega)
   have A4:=c_add (j:=J) (k:=J+J+2) (x:=convI a b n i jj (i+jj)) (y:=a i*b jj) (by omega) (by omega)
   have ht:=convI_set (a:=a) (b:=b) (n:=n) (i:=i) (j:=jj) (N:=N+1) (by omega) rfl
   rw [←hcur] at ht
   have hz:RSz J (convI a b n i jj (i+jj)+a i*b jj):=by
    have e:convI a b n i jj (i+jj)+a i*b jj=convI a b n i (jj+1) (i+jj):=by
     rw [convI_at]
     unfold convI
     rw [if_pos ⟨by omega,by omega⟩,show i+jj-i=jj by omega]
    rw [e];exact hcz i (jj+1) (i+jj) (by omega) (by omega)
   generalize convI a b n i jj (i+jj)=x at*
   generalize a i=y at*
   generalize b jj=z at*
   repeat (first | refine aw_seq ?_ | refine aw_block ?_ | refine aw_condT rfl ?_ | refine aw_condF rfl ?_ | refine aw_pa ?_ | refine aw_da ?_ | refine aw_skip ?_ | refine aw_exit ?_)
   refine ⟨c2-1,by omega,jj+1,cur.set (i+jj) (x+y*z),by omega,by omega,ht,?_⟩
   exact wk_a
  ·have bj:=binLt (k:= .i64) (decide_eq_false (show ¬(jj:Int)<(B.length:Int) by omega))
   obtain rfl:jj=n+1:=by omega
   rw [convI_end] at hcur
   repeat (first | refine aw_seq ?_ | refine aw_block ?_ | refine aw_condT rfl ?_ | refine aw_condF rfl ?_ | refine aw_pa ?_ | refine aw_da ?_ | refine aw_skip ?_ | refine aw_exit ?_)
   refine ⟨c-1,by omega,i+1,cur,by omega,by omega,hcur,?_⟩
   exact wk_a
 ·have bi:=binLt (k:= .i64) (decide_eq_false (show ¬(i:Int)<(A.length:Int) by omega))
  obtain rfl:i=m+1:=by omega
  have he:cur=C:=hcur.trans hC1.symm
  have hCl:C.length=N+1:=by rw [hC1];simp
  subst he
  clear hcur hC1
  repeat (first | refine aw_seq ?_ | refine aw_block ?_ | refine aw_condT rfl ?_ | refine aw_condF rfl ?_ | refine aw_pa ?_ | refine aw_da ?_ | refine aw_skip ?_ | refine aw_exit ?_)
  refine aw_freeze 47 hD (ss:= [(6,errV (N:Nat)),(11,.one (.ptr 11 0)),(14,.one (.ptr 14 0)),(15,.one (.ptr 15 0))]) (bs:= [(11,[rats J cur]),(14,nmC ((m+1)*j+2+((n+1)*k+2)+2) (S*T)),(15,[rats 2 G])]) ?_ ?_
  ·refine fk_mk2 ?_ ?_ rfl
   ·repeat (first | exact nil_all | (refine List.forall_mem_cons.2 ⟨?_,?_⟩;focus (first | exact fz_blk inferInstance | refine FzA.ent ?_;first | exact Ent.of_eq rfl | (refine Ent.one' rfl ?_;(first | exact EntC.ratsLe (by omega) | exact EntC.ratsNil | exact EntC.glNil | (refine EntC.int ?_;omega) | (refine EntC.glLen ?_;first | omega | simp) | exact EntC.of_eq rfl | (refine EntC.q rfl ?_;omega) | exact Z0 _ | exact Z2 _ | exact EntC.z0 (k:=0) | exact EntC.z1 (k:=0) | exact EntC.z2 (k:=0) | exact EntC.z0 | exact EntC.z1 | exact EntC.z2)) | (refine Ent.agg' rfl ?_;(repeat (first | exact EntL.nil' rfl | (refine EntL.cons' rfl ?_ ?_;focus (first | exact EntC.ratsLe (by omega) | exact EntC.ratsNil | exact EntC.glNil | (refine EntC.int ?_;omega) | (refine EntC.glLen ?_;first | omega | simp) | exact EntC.of_eq rfl | (refine EntC.q rfl ?_;omega) | exact Z0 _ | exact Z2 _ | exact EntC.z0 (k:=0) | exact EntC.z1 (k:=0) | exact EntC.z2 (k:=0) | exact EntC.z0 | exact EntC.z1 | exact EntC.z2))));done))))
   ·repeat (first | exact nil_all | (refine List.forall_mem_cons.2 ⟨?_,?_⟩;focus (first | exact BlkFz.gl inferInstance | (refine BlkFz.of ?_;first | exact blk_keep inferInstance | (refine blk_ok rfl ?_ rfl;focus ((repeat (first | exact EntL.nil' rfl | (refine EntL.cons' rfl ?_ ?_;focus (first | exact EntC.ratsLe (by omega) | exact EntC.ratsNil | exact EntC.glNil | (refine EntC.int ?_;omega) | (refine EntC.glLen ?_;first | omega | simp) | exact EntC.of_eq rfl | (refine EntC.q rfl ?_;omega) | exact Z0 _ | exact Z2 _ | exact EntC.z0 (k:=0) | exact EntC.z1 (k:=0) | exact EntC.z2 (k:=0) | exact EntC.z0 | exact EntC.z1 | exact EntC.z2))));done))))))
  repeat (first | refine aw_seq ?_ | refine aw_block ?_ | refine aw_condT rfl ?_ | refine aw_condF rfl ?_ | refine aw_pa ?_ | refine aw_da ?_ | refine aw_skip ?_ | refine aw_exit ?_)
  refine aw_ret (And.intro (Or.inr rfl) ?_)
  exact f_two
end Go.Proofs.YtnkobfcnflphkaaGreatDoor
