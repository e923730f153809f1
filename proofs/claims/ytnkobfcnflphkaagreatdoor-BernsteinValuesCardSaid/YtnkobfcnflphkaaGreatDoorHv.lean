/-
  Several texts in one: Zj, Zk.
-/
import Derived.Test.YtnkobfcnflphkaaGreatDoorHw
namespace Go.Proofs.YtnkobfcnflphkaaGreatDoor
open Go.RowKit
set_option linter.unusedVariables false
set_option linter.unusedSimpArgs false
set_option maxRecDepth 20000
set_option maxHeartbeats 4000000
theorem s_eval {j jt n J:Nat} {l:List Rat} {t:Rat} (hl:l.length=n+1) (hn:n≤40) (hj:j≤10000) (hjt:jt≤10000) (hr: ∀r∈l,RSz j r) (ht:RSz jt t) (hJ:J=2000000):
  Ctr Tryz.prog Amb 47 [.one (rats j l),nm jt t] (nm (J+J+2) (lowR t (cf l) n)):=by
 have hNA:(n+1)*j≤41*10000:=Nat.mul_le_mul (by omega) hj
 have hNB:n*(jt+1+1)≤40*10002:=Nat.mul_le_mul hn (by omega)
 have hNC:n*(jt+1)≤40*10002:=Nat.mul_le_mul hn (by omega)
 obtain ⟨M,hM0,_,hMS,hMsz,hint⟩:=whS_spec l 1 2 (by decide) (length_toL_le _ _ (by decide)) hr
 have P1:=s_permittedB (j:=j) (l:=l) (by omega) (by omega)
 have W1:=s_wholeT (J:=J) hl (by omega) (by omega) hr (by omega)
 have R1:=s_ratio (j:=jt) (t:=t) (by omega)
 obtain ⟨S,hS⟩: ∃S,S=whS oneR l:=⟨_,rfl⟩
 rw [←hS] at W1
 have hSM:S=((M:Int):Rat):=hS.trans hMS
 have hS0:S≠0:=by rw [hSM];exact natQ_ne hM0
 clear hMS hS
 rw [hl] at hMsz
 have hE:Sz (jt+1) t.den:=ht.2.mono (by omega)
 have hz0:denQ t≠0:=by have:=denQ_pos t;intro h;rw [h] at this;exact absurd this (by decide)
 obtain ⟨hu,hd⟩:=ratio_int ht
 have hcs:=scheme_sz (a:=2+(n+1)*j) (jt:=jt+1) (n:=n) hl hr hMsz hSM hint hu hd
 have hgs:=geo_sz (n:=n) hMsz hE
 rw [←hSM] at hgs
 have V1:=s_scheme (ju:=2*jt+4) (jd:=3*jt+9) (n:=n) (J:=J) (u:=t*denQ t) (d:=denQ t-t*denQ t) (f:=fun i=>S*l.getD i 0) (by omega) (by omega) (by omega) (by omega) (fun k i h=>(hcs k i h).mono (by omega))
 have G1:=s_geometric (ja:=(n+1)*j+2) (jq:=jt+2) (n:=n) (J:=J) (a:=S) (q:=denQ t) (by omega) (by omega) (by omega) (by omega) (fun i hi=>(hgs i hi).mono (by omega))
 have O1:=s_over (j:=J) (k:=J) (x:=casR (t*denQ t) (denQ t-t*denQ t) (fun i=>S*l.getD i 0) n 0) (y:=geoR S (denQ t) n) (by omega) (by omega) (geo_ne hS0 hz0 n)
 have he:casR (t*denQ t) (denQ t-t*denQ t) (fun i=>S*l.getD i 0) n 0/geoR S (denQ t) n=lowR t (cf l) n:=cas_low (f:=cf l) (i:=n) hS0 hz0 rfl rfl
 rw [he] at O1
 have hdn:=binSub (k:= .i64) (show (IntKind.i64).wrap ((l.length:Int)-1)=(n:Int) by rw [show ((l.length:Int)-1)=(n:Int) by omega];exact IntWalk.i64_in _ (by omega))
 clear hcs hgs hint hMsz hSM hM0 hE hu hd hr he
 obtain ⟨F,hF⟩: ∃F,F=tab (n+1) fun i=>S*l.getD i 0:=⟨_,rfl⟩
 obtain ⟨R,hR⟩: ∃R,R=tab (n+1) fun q=>casR (t*denQ t) (denQ t-t*denQ t) (fun i=>S*l.getD i 0) (n-q) q:=⟨_,rfl⟩
 obtain ⟨G,hG⟩: ∃G,G=tab (n+1) (geoR S (denQ t)):=⟨_,rfl⟩
 have hFl:F.length=n+1:=by rw [hF];simp
 have hRl:R.length=n+1:=by rw [hR];simp
 unfold ratT at V1 G1
 rw [←hF] at W1 V1
 rw [←hR] at V1
 rw [←hG] at G1
 have hx:R[((0:Nat):Int).toNat]?=some (casR (t*denQ t) (denQ t-t*denQ t) (fun i=>S*l.getD i 0) n 0):=by
  rw [hR];exact tab_at (g:=fun q=>casR (t*denQ t) (denQ t-t*denQ t) (fun i=>S*l.getD i 0) (n-q) q) (by omega)
 have hy:G[((n:Nat):Int).toNat]?=some (geoR S (denQ t) n):=by rw [hG];exact tab_at (by omega)
 clear hR hF hG
 have lt0:(0:Int)≤((0:Nat):Int)∧((0:Nat):Int)<((n+1:Nat):Int):=by omega
 have st0:((0:Nat):Int).toNat*3+3≤(blkL (nmD J) R).length:=by rw [blkL_len (n:=3) inferInstance,Int.toNat_natCast];omega
 have ld0:=rdL_row (f:=nmD J) (n:=3) inferInstance hx
 have hbl:0<(blkL (nmD J) F).length:=blkL_ne (n:=3) inferInstance (by decide) (by omega)
 have hbr:(blkL (nmD J) F).length=(blkL (nmD J) R).length:=by rw [blkL_len (n:=3) inferInstance,blkL_len (n:=3) inferInstance,hFl,hRl]
 refine ctr_body Tryz.func47 rfl rfl rfl rfl rfl rfl ?_
 intro W0 base D μ0 hA hD
 repeat (first | refine aw_seq ?_ | refine aw_block ?_ | refine aw_condT rfl ?_ | refine aw_condF rfl ?_ | refine aw_pa ?_ | refine aw_da ?_ | refine aw_skip ?_ | refine aw_exit ?_)
 refine aw_wk (ss:= [(4,.one (.ptr 4 0)),(5,.one (.gl 26 (n+1) 3)),(6,.one (.ptr 6 0)),(9,.one (.ptr 9 0)),(10,errV (n:Nat))]) (bs:= [(4,nmC 2 0),(6,nmC ((n+1)*j+2) S),(9,nmC (jt+2) (denQ t)),(26,blkL (nmD J) R)]) ?_ ?_
 ·refine wk_mk ?_ ?_ rfl
  ·repeat (first | exact nil_all | (refine List.forall_mem_cons.2 ⟨?_,?_⟩;focus (first | exact Ent.of_eq rfl | (refine Ent.one' rfl ?_;(first | exact EntC.ratsLe (by omega) | exact EntC.ratsNil | exact EntC.glNil | (refine EntC.int ?_;omega) | (refine EntC.glLen ?_;first | omega | simp) | exact EntC.of_eq rfl | (refine EntC.q rfl ?_;omega) | exact Z0 _ | exact Z2 _ | exact EntC.z0 (k:=0) | exact EntC.z1 (k:=0) | exact EntC.z2 (k:=0) | exact EntC.z0 | exact EntC.z1 | exact EntC.z2)) | (refine Ent.agg' rfl ?_;(repeat (first | exact EntL.nil' rfl | (refine EntL.cons' rfl ?_ ?_;focus (first | exact EntC.ratsLe (by omega) | exact EntC.ratsNil | exact EntC.glNil | (refine EntC.int ?_;omega) | (refine EntC.glLen ?_;first | omega | simp) | exact EntC.of_eq rfl | (refine EntC.q rfl ?_;omega) | exact Z0 _ | exact Z2 _ | exact EntC.z0 (k:=0) | exact EntC.z1 (k:=0) | exact EntC.z2 (k:=0) | exact EntC.z0 | exact EntC.z1 | exact EntC.z2))));done))))
  ·repeat (first | exact nil_all | (refine List.forall_mem_cons.2 ⟨?_,?_⟩;focus (first | exact blk_keep inferInstance | (exact blk_row (z:=(blkL (nmD J) F).length) inferInstance RowE.whole (by rw [hbr];exact blkL_len inferInstance _)) | (refine blk_ok rfl ?_ rfl;focus ((repeat (first | exact EntL.nil' rfl | (refine EntL.cons' rfl ?_ ?_;focus (first | exact EntC.ratsLe (by omega) | exact EntC.ratsNil | exact EntC.glNil | (refine EntC.int ?_;omega) | (refine EntC.glLen ?_;first | omega | simp) | exact EntC.of_eq rfl | (refine EntC.q rfl ?_;omega) | exact Z0 _ | exact Z2 _ | exact EntC.z0 (k:=0) | exact EntC.z1 (k:=0) | exact EntC.z2 (k:=0) | exact EntC.z0 | exact EntC.z1 | exact EntC.z2))));done)))))
 repeat (first | refine aw_seq ?_ | refine aw_block ?_ | refine aw_condT rfl ?_ | refine aw_condF rfl ?_ | refine aw_pa ?_ | refine aw_da ?_ | refine aw_skip ?_ | refine aw_exit ?_)
 refine aw_ret (And.intro (Or.inr rfl) ?_)
 exact f_one
theorem list_ib {j n:Nat} {l:List Rat} (hl:l.length=n+1) (hr: ∀r∈l,RSz j r): ∃M B:Nat,0<M∧Sz (2+(n+1)*j) M∧Sz (2+(n+1)*j+j) B∧ ∀i,i≤n→IB M B (cf l i):=by
 obtain ⟨M,hM0,_,hMS,hMsz,hint⟩:=whS_spec l 1 2 (by decide) (length_toL_le _ _ (by decide)) hr
 rw [hl] at hMsz
 refine ⟨M,4294967296^(2+(n+1)*j+j)-1,hM0,hMsz,length_toL_le _ _ (by have:=Nat.pow_pos (n:=2+(n+1)*j+j) (show 0<4294967296 by decide);omega),fun i hi=>?_⟩
 have hlt:i<l.length:=by omega
 have hm:cf l i∈l:=by
  unfold cf
  rw [List.getD_eq_getElem?_getD,List.getElem?_eq_getElem hlt]
  exact List.getElem_mem hlt
 obtain ⟨z,h1,h2⟩:=IZ.scaled hMsz (hr _ hm) (hint _ hm)
 refine ⟨z,by rw [←h1,Rat.mul_comm],?_⟩
 have h3:=toL_lt z.natAbs
 have h4:(4294967296:Nat)^(toL z.natAbs).length≤4294967296^(2+(n+1)*j+j):=Nat.pow_le_pow_right (by decide) h2
 omega
def polA (l:List Int):Nat→List Rat×Nat→List Rat×Nat
 | 0,s=>s
 | m+1,s=>polA l m (s.1++ [(numb l s.2).1],(numb l s.2).2)
def polS (l:List Int) (deg n:Nat):List Rat×Nat:=polA l ((nxt l n (deg+1:Nat)).1.toNat+1) ([],(nxt l n (deg+1:Nat)).2)
theorem polA_bd {l:List Int} : ∀ {m:Nat} {s:List Rat×Nat},s.2≤l.length→(polA l m s).2≤l.length
 | 0,_,h=>h
 | m+1,s,h=>polA_bd (m:=m) (numb_bd l s.2 h)
theorem polA_len {l:List Int} : ∀ {m:Nat} {s:List Rat×Nat},(polA l m s).1.length=s.1.length+m
 | 0,_=>rfl
 | m+1,s=>by
   show (polA l m _).1.length=_
   rw [polA_len (m:=m),List.length_append];simp;omega
theorem polS_bd (l:List Int) (deg n:Nat) (h:n≤l.length):(polS l deg n).2≤l.length:=polA_bd ((nxt_bd l n (m:=((deg+1:Nat):Int)) (by omega)).2.2 h)
theorem polS_len (l:List Int) (deg n:Nat):1≤(polS l deg n).1.length∧(polS l deg n).1.length≤deg+1:=by
 obtain ⟨a1,a2,_⟩:=nxt_bd l n (m:=((deg+1:Nat):Int)) (by omega)
 unfold polS
 rw [polA_len]
 generalize (nxt l n ((deg+1:Nat):Int)).1=c at*
 simp only [List.length_nil]
 omega
theorem numb_rsz (l:List Int) (n:Nat):RSz 2 (numb l n).1:=by
 obtain ⟨a1,a2,_⟩:=nxt_bd l n (m:=13) (by decide)
 obtain ⟨c1,c2,_⟩:=nxt_bd l (nxt l (nxt l n 13).2 4).2 (m:=4) (by decide)
 unfold numb
 simp only
 split
 ·have hn:RSz 1 (((nxt l n 13).1-6:Int):Rat):=⟨by
   rw [Rat.num_intCast];exact length_toL_le _ _ (by omega),by rw [Rat.den_intCast];exact length_toL_le _ _ (by decide)⟩
  have hd:RSz 1 ((1+(nxt l (nxt l (nxt l n 13).2 4).2 4).1:Int):Rat):=⟨by
   rw [Rat.num_intCast];exact length_toL_le _ _ (by omega),by rw [Rat.den_intCast];exact length_toL_le _ _ (by decide)⟩
  refine rsz_div hn hd ?_
  intro h0
  have h1:((1+(nxt l (nxt l (nxt l n 13).2 4).2 4).1:Int):Rat)=((0:Int):Rat):=h0
  have:=Rat.intCast_inj.1 h1
  omega
 ·exact rsz_cast _ (by omega) (by omega)
theorem polA_rsz {l:List Int} : ∀ {m:Nat} {s:List Rat×Nat},(∀r∈s.1,RSz 2 r)→ ∀r∈(polA l m s).1,RSz 2 r
 | 0,_,h=>h
 | m+1,s,h=>polA_rsz (m:=m) fun r hr=>by
   rcases List.mem_append.1 hr with h1 | h1
   ·exact h r h1
   ·rw [List.mem_singleton.1 h1];exact numb_rsz l s.2
theorem polS_rsz (l:List Int) (deg n:Nat): ∀r∈(polS l deg n).1,RSz 2 r:=polA_rsz fun r hr=>by cases hr
theorem d_poly0 {l:List Int} {n deg:Nat} (hb: ∀x∈l,-9223372036854775808≤x∧x<9223372036854775808) (hl:l.length≤1000000) (hn:n≤l.length) (hd:deg≤1000):
  CtrM Tryz.prog Amb 23 [.one (.ptr 901 0),errV (deg:Nat)] [(901,diceC l n,diceC l (polS l deg n).2)] (.one (rats 2 (polS l deg n).1)):=by
 obtain ⟨a1,a2,a3⟩:=nxt_bd l n (m:=((deg+1:Nat):Int)) (by omega)
 have g1:=a3 hn
 clear a3
 have N1:=d_next (k:=901) (n:=n) (m:=((deg+1:Nat):Int)) hb hl hn (by omega) (by omega)
 have hs:=binAdd (k:= .i64) (show (IntKind.i64).wrap ((deg:Int)+1)=((deg+1:Nat):Int) from IntWalk.i64_in _ (by omega))
 obtain ⟨S,hS⟩: ∃S,S=polS l deg n:=⟨_,rfl⟩
 rw [←hS]
 unfold polS at hS
 obtain ⟨c,hc⟩: ∃c:Nat,c=(nxt l n ((deg+1:Nat):Int)).1.toNat:=⟨_,rfl⟩
 have hci:(nxt l n ((deg+1:Nat):Int)).1=(c:Int):=by omega
 have hcb:c≤deg:=by omega
 rw [←hc] at hS
 rw [hci] at N1
 generalize (nxt l n ((deg+1:Nat):Int)).2=n1 at*
 apply ctr_body Tryz.func23 rfl rfl rfl rfl rfl
 case hin=>simp [inA,inC]
 intro W0 base D μ0 hA hD
 repeat (first | refine aw_seq ?_ | refine aw_block ?_ | refine aw_condT rfl ?_ | refine aw_condF rfl ?_ | refine aw_pa ?_ | refine aw_da ?_ | refine aw_skip ?_ | refine aw_exit ?_)
 refine aw_loop (fun m σ=> ∃(r:Nat) (done:List Rat) (ps:Nat),m=r∧r+done.length=c+1∧polA l r (done,ps)=S∧ps≤l.length∧Wk ⟨W0,base,D,21,[901],μ0⟩ σ [(0,.one (.ptr 901 0)),(5,.one (.gl 900 done.length 3)),(6,.one (.v (.int .i64 ((r:Int)-1))))] [(900,blkL (nmD 2) done),(901,diceC l ps)]) (n:=c+1) ⟨c+1,[],n1,rfl,rfl,hS.symm,g1,?_⟩ ?_
 ·exact wk_a
 clear N1 hS hc hs a1 a2 hci
 intro m σ hI
 obtain ⟨r,done,ps,hm,hrq,hS,hps,hw⟩:=hI
 refine aw_wk hw ?_
 clear hw
 cases r with
 | succ r=>
   rw [show (((r+1:Nat):Int)-1)=(r:Int) by omega]
   have bi:=binGe (k:= .i64) (decide_eq_true (show (r:Int)≥0 by omega))
   have hin:=binSub (k:= .i64) (show (IntKind.i64).wrap ((r:Int)-1)=(r:Int)-1 from IntWalk.i64_in _ (by omega))
   have hstep:polA l r (done++ [(numb l ps).1],(numb l ps).2)=S:=hS
   have X1:=d_number (k:=901) (n:=ps) hb hl hps
   have hp2:=numb_bd l ps hps
   generalize (numb l ps).1=x at*
   generalize (numb l ps).2=ps' at*
   repeat (first | refine aw_seq ?_ | refine aw_block ?_ | refine aw_condT rfl ?_ | refine aw_condF rfl ?_ | refine aw_pa ?_ | refine aw_da ?_ | refine aw_skip ?_ | refine aw_exit ?_)
   try refine aw_seq ?_
   refine aw_plainT 4 (by simp only [List.take_succ_cons,List.take_zero,List.drop_succ_cons,List.drop_zero];exact ⟨rfl,rfl⟩) (by kernel_rfl) ?_
   repeat (first
    | refine v_move (hl:=?_)
    | refine v_assign (hl:=?_)
    | refine v_bin (hl:=?_)
    | refine v_max (hl:=?_)
    | refine v_min (hl:=?_)
    | refine v_len (hl:=?_)
    | refine v_buildL (hl:=?_)
    | refine v_callM hA (hc:=X1) (hl:=?_))
   apply RunK.nil
   refine v_app (k:=900) (ss:= [(0,.one (.ptr 901 0)),(6,errV (r:Int))]) (bs:= [(901,diceC l ps')]) (ns:=(nmC 2 x)) hD ?_ ?_ ?_
   ·exact ⟨by omega,by omega⟩
   ·exact wk_a
   repeat (refine tl_run rfl ?_;(first | refine v_assign (hl:=?_) | refine v_move (hl:=?_) | refine v_store (hl:=?_));apply RunK.nil)
   refine tl_nil ?_
   repeat (first | refine aw_seq ?_ | refine aw_block ?_ | refine aw_condT rfl ?_ | refine aw_condF rfl ?_ | refine aw_pa ?_ | refine aw_da ?_ | refine aw_skip ?_ | refine aw_exit ?_)
   refine ⟨r,by omega,r,done++ [x],ps',rfl,by simp;omega,hstep,hp2,?_⟩
   exact wk_a
 | zero=>
   have bi:=binGe (k:= .i64) (decide_eq_false (show ¬((((0:Nat):Int)-1))≥0 by omega))
   obtain rfl:S=(done,ps):=hS.symm
   repeat (first | refine aw_seq ?_ | refine aw_block ?_ | refine aw_condT rfl ?_ | refine aw_condF rfl ?_ | refine aw_pa ?_ | refine aw_da ?_ | refine aw_skip ?_ | refine aw_exit ?_)
   refine aw_freeze 900 hD (ss:= [(4,.one (rats 2 done))]) (bs:= [(901,diceC l ps)]) ?_ ?_
   ·refine fk_mk ?_ ?_ rfl
    ·repeat (first | exact nil_all | (refine List.forall_mem_cons.2 ⟨?_,?_⟩;focus (first | exact fz_blk inferInstance | refine FzA.ent ?_;first | exact Ent.of_eq rfl | (refine Ent.one' rfl ?_;(first | exact EntC.ratsLe (by omega) | exact EntC.ratsNil | exact EntC.glNil | (refine EntC.int ?_;omega) | (refine EntC.glLen ?_;first | omega | simp) | exact EntC.of_eq rfl | (refine EntC.q rfl ?_;omega) | exact Z0 _ | exact Z2 _ | exact EntC.z0 (k:=0) | exact EntC.z1 (k:=0) | exact EntC.z2 (k:=0) | exact EntC.z0 | exact EntC.z1 | exact EntC.z2)) | (refine Ent.agg' rfl ?_;(repeat (first | exact EntL.nil' rfl | (refine EntL.cons' rfl ?_ ?_;focus (first | exact EntC.ratsLe (by omega) | exact EntC.ratsNil | exact EntC.glNil | (refine EntC.int ?_;omega) | (refine EntC.glLen ?_;first | omega | simp) | exact EntC.of_eq rfl | (refine EntC.q rfl ?_;omega) | exact Z0 _ | exact Z2 _ | exact EntC.z0 (k:=0) | exact EntC.z1 (k:=0) | exact EntC.z2 (k:=0) | exact EntC.z0 | exact EntC.z1 | exact EntC.z2))));done))))
    ·repeat (first | exact nil_all | (refine List.forall_mem_cons.2 ⟨?_,?_⟩;focus (first | exact blk_keep inferInstance | (refine blk_ok rfl ?_ rfl;focus ((repeat (first | exact EntL.nil' rfl | (refine EntL.cons' rfl ?_ ?_;focus (first | exact EntC.ratsLe (by omega) | exact EntC.ratsNil | exact EntC.glNil | (refine EntC.int ?_;omega) | (refine EntC.glLen ?_;first | omega | simp) | exact EntC.of_eq rfl | (refine EntC.q rfl ?_;omega) | exact Z0 _ | exact Z2 _ | exact EntC.z0 (k:=0) | exact EntC.z1 (k:=0) | exact EntC.z2 (k:=0) | exact EntC.z0 | exact EntC.z1 | exact EntC.z2))));done)))))
   refine aw_ret (And.intro (Or.inr rfl) ?_)
   exact f_oneM
theorem d_poly {l:List Int} {n deg k:Nat} (hb: ∀x∈l,-9223372036854775808≤x∧x<9223372036854775808) (hl:l.length≤1000000) (hn:n≤l.length) (hd:deg≤1000):
  CtrM Tryz.prog Amb 23 [.one (.ptr k 0),errV (deg:Nat)] [(k,diceC l n,diceC l (polS l deg n).2)] (.one (rats 2 (polS l deg n).1)):=
 (d_poly0 hb hl hn hd).at1 k rfl rfl
end Go.Proofs.YtnkobfcnflphkaaGreatDoor
namespace Go.Proofs.YtnkobfcnflphkaaGreatDoor
open Go.RowKit
set_option linter.unusedVariables false
set_option linter.unusedSimpArgs false
set_option maxRecDepth 20000
set_option maxHeartbeats 4000000
def idxF (p:Rat→Bool):Nat→List Rat→Int
 | _,[]=> -1
 | i,x::l=>if p x then (i:Int) else idxF p (i+1) l
theorem idxF_any (p:Rat→Bool): ∀(l:List Rat) (i:Nat),decide (idxF p i l≥0)=l.any p
 | [],_=>rfl
 | x::l,i=>by
   show decide ((if p x then (i:Int) else idxF p (i+1) l)≥0)=(p x || l.any p)
   cases hp:p x with
   | true=>rw [if_pos rfl];simp
   | false=>rw [if_neg (by simp),idxF_any p l (i+1)];rfl
theorem s_indexF {g:FuncId} [hG:Fun Tryz.prog g] {j:Nat} {l:List Rat} {p:Rat→Bool} (hl:l.length≤1000000) (H: ∀x∈l,Ctr Tryz.prog Amb g [nm j x] (.one (.v (.bool (p x))))):
  Ctr Tryz.prog Amb 151 [.one (rats j l),.one (.fn g [])] (.one (.v (.int .i64 (idxF p 0 l)))):=by
 obtain ⟨R,hR⟩: ∃R,R=idxF p 0 l:=⟨_,rfl⟩
 rw [←hR]
 refine ctr_body Tryz.func151 rfl rfl rfl rfl rfl rfl ?_
 intro W0 base D μ0 hA hD
 repeat (first | refine aw_seq ?_ | refine aw_block ?_ | refine aw_condT rfl ?_ | refine aw_condF rfl ?_ | refine aw_pa ?_ | refine aw_da ?_ | refine aw_skip ?_ | refine aw_exit ?_)
 refine aw_loop (fun m σ=> ∃(i:Nat),m=l.length-i∧i≤l.length∧idxF p i (l.drop i)=R∧Wk ⟨W0,base,D,19,[],μ0⟩ σ [(0,.one (rats j l)),(1,.one (.fn g [])),(7,errV (l.length:Nat)),(8,errV (i:Nat))] []) (n:=l.length) ⟨0,by omega,by omega,hR.symm,?_⟩ ?_
 ·exact wk_a
 intro m σ hI
 obtain ⟨i,hm,hi0,hS,hw⟩:=hI
 refine aw_wk hw ?_
 clear hw
 by_cases hi:i<l.length
 ·obtain ⟨x,hx,hx'⟩:=get_at hi
  have bi:=binLt (k:= .i64) (decide_eq_true (show (i:Int)<(l.length:Int) by omega))
  have hin:=binAdd (k:= .i64) (show (IntKind.i64).wrap ((i:Int)+1)=((i+1:Nat):Int) from IntWalk.i64_in _ (by omega))
  have H1:=H x (List.mem_of_getElem? hx')
  rw [drop_at hx'] at hS
  replace hS:(if p x then (i:Int) else idxF p (i+1) (l.drop (i+1)))=R:=hS
  cases hp:p x with
  | true=>
    rw [hp,if_pos rfl] at hS
    rw [hp] at H1
    repeat (first | refine aw_seq ?_ | refine aw_block ?_ | refine aw_condT rfl ?_ | refine aw_condF rfl ?_ | refine aw_pa ?_ | refine aw_da ?_ | refine aw_skip ?_ | refine aw_exit ?_)
    rw [←hS]
    refine aw_ret (And.intro (Or.inr rfl) ?_)
    exact f_one
  | false=>
    rw [hp,if_neg (by simp)] at hS
    rw [hp] at H1
    repeat (first | refine aw_seq ?_ | refine aw_block ?_ | refine aw_condT rfl ?_ | refine aw_condF rfl ?_ | refine aw_pa ?_ | refine aw_da ?_ | refine aw_skip ?_ | refine aw_exit ?_)
    refine ⟨m-1,by omega,i+1,by omega,by omega,hS,?_⟩
    exact wk_a
 ·have bi:=binLt (k:= .i64) (decide_eq_false (show ¬(i:Int)<(l.length:Int) by omega))
  rw [List.drop_eq_nil_of_le (by omega)] at hS
  replace hS:(-1:Int)=R:=hS
  subst hS
  repeat (first | refine aw_seq ?_ | refine aw_block ?_ | refine aw_condT rfl ?_ | refine aw_condF rfl ?_ | refine aw_pa ?_ | refine aw_da ?_ | refine aw_skip ?_ | refine aw_exit ?_)
  refine aw_ret (And.intro (Or.inr rfl) ?_)
  exact f_one
theorem s_containsF {g:FuncId} [hG:Fun Tryz.prog g] {j:Nat} {l:List Rat} {p:Rat→Bool} (hl:l.length≤1000000) (H: ∀x∈l,Ctr Tryz.prog Amb g [nm j x] (.one (.v (.bool (p x))))):
  Ctr Tryz.prog Amb 113 [.one (rats j l),.one (.fn g [])] (.one (.v (.bool (l.any p)))):=by
 have I1:=s_indexF (j:=j) hl H
 have bg:=binGe (k:= .i64) (idxF_any p l 0)
 refine ctr_body Tryz.func113 rfl rfl rfl rfl rfl rfl ?_
 intro W0 base D μ0 hA hD
 repeat (first | refine aw_seq ?_ | refine aw_block ?_ | refine aw_condT rfl ?_ | refine aw_condF rfl ?_ | refine aw_pa ?_ | refine aw_da ?_ | refine aw_skip ?_ | refine aw_exit ?_)
 refine aw_ret (And.intro (Or.inr rfl) ?_)
 exact f_one
theorem s_valid1 {j:Nat} {x:Rat} (hj:j≤16):Ctr Tryz.prog Amb 116 [nm j x] (.one (.v (.bool false))):=by
 have V1:=c_valid (j:=j) (x:=x) hj
 refine ctr_body Tryz.func116 rfl rfl rfl rfl rfl rfl ?_
 intro W0 base D μ0 hA hD
 repeat (first | refine aw_seq ?_ | refine aw_block ?_ | refine aw_condT rfl ?_ | refine aw_condF rfl ?_ | refine aw_pa ?_ | refine aw_da ?_ | refine aw_skip ?_ | refine aw_exit ?_)
 refine aw_ret (And.intro (Or.inr rfl) ?_)
 exact f_one
theorem s_validB {j:Nat} {l:List Rat} (h1:0<l.length) (h2:l.length≤41) (hj:j≤16):Ctr Tryz.prog Amb 44 [.one (rats j l)] (.one (.v (.bool true))):=by
 have P1:=s_permittedB (j:=j) h1 h2
 have C1:=s_containsF (g:=116) (j:=j) (l:=l) (p:=fun _=>false) (by omega) (fun x _=>s_valid1 hj)
 have e:l.any (fun _=>false)=false:=by simp
 rw [e] at C1
 refine ctr_body Tryz.func44 rfl rfl rfl rfl rfl rfl ?_
 intro W0 base D μ0 hA hD
 repeat (first | refine aw_seq ?_ | refine aw_block ?_ | refine aw_condT rfl ?_ | refine aw_condF rfl ?_ | refine aw_pa ?_ | refine aw_da ?_ | refine aw_skip ?_ | refine aw_exit ?_)
 refine aw_ret (And.intro (Or.inr rfl) ?_)
 exact f_one
section
variable {P:Program} {X:Ctx} {ops l:List Oper} {σ:St} {K:List Eff→St→Prop} {dst:Option Tmp} {ty:TypeId} {pos:String} {af:Array Edge} {gd:Option (Nat×Bool)}
theorem pure_eqSB {s:Nat→AV} {t u:TypeId} {x y:Operand} {a b:ByteArray} (hx:evC s x= .one (.v (.string a))) (hy:evC s y= .one (.v (.string b))) (hab:a=b):Pure P ⟨dst,.binOp .eql t x y u,ty,pos,af,gd⟩ s (.one (.v (.bool true))):=fun W0 μ sz w ρ hρ=>by
 have h:=hρ x (by simp [Op.operands])
 rw [hx] at h
 replace h:ρ x= .string a:=h
 have h':=hρ y (by simp [Op.operands])
 rw [hy] at h'
 replace h':ρ y= .string b:=h'
 refine ⟨.bool true,?_,rfl⟩
 have h4:(binOp .eql t (.string a) (.string b)).run P w= .ok (.bool true) w:=by
  show (Op.stringOp .eql a b).run P w=_
  rw [hab]
  show Result.ok (Value.bool (b.toList==b.toList)) w=_
  rw [beq_self_eq_true]
 have h5:(eqGuard .eql t x y (.string a) (.string b)).run P w= .ok () w:=rfl
 show (do let v←(do eqGuard .eql t x y (ρ x) (ρ y);binOp .eql t (ρ x) (ρ y):Sem Value);pure (Next.value v):Sem Next).run P w=_
 rw [h,h',Sem.run_bind,Sem.run_bind,h5,Result.andThen_ok,h4]
 rfl
theorem u_eqSB {t u:TypeId} {x y:Operand} {a b:ByteArray} (hg:gOk ops σ.s gd) (hd:dB X.n dst=true) (hx:evC σ.s x= .one (.v (.string a))) (hy:evC σ.s y= .one (.v (.string b))) (hc:a=b) (hl:RunK P X ops l (σ.app dst ⟨.one (.v (.bool true)),[],[],[]⟩) (fun es σ'=>K (⟨.one (.v (.bool true)),[],[],[]⟩::es) σ')):
  RunK P X ops (⟨dst,.binOp .eql t x y u,ty,pos,af,gd⟩::l) σ K:=u_pure (o:=⟨dst,.binOp .eql t x y u,ty,pos,af,gd⟩) hg hd (pure_eqSB hx hy hc) hl
theorem v_eqSB {t u:TypeId} {x y:Operand} {a b:ByteArray} (hg:gOk ops σ.s gd:=by first | exact trivial | exact rfl) (hd:dB X.n dst=true:=by exact rfl) (hx:evC σ.s x= .one (.v (.string a)):=by exact rfl) (hy:evC σ.s y= .one (.v (.string b)):=by exact rfl) (hc:a=b:=by exact rfl) (hl:RunK P X ops l (σ.app dst ⟨.one (.v (.bool true)),[],[],[]⟩) (fun es σ'=>K (⟨.one (.v (.bool true)),[],[],[]⟩::es) σ')):
  RunK P X ops (⟨dst,.binOp .eql t x y u,ty,pos,af,gd⟩::l) σ K:=u_eqSB hg hd hx hy hc hl
end
theorem r_textB {j:Nat} {x:Rat} {s:ByteArray} (hj:j≤100000) (h:(textR x).toArray=s.data):Ctr Tryz.prog Amb 95 [nm j x] (.one (.v (.string s))):=by
 have:=r_text (x:=x) hj
 rw [h] at this
 exact this
theorem Ctr.nmTo {P:Program} {A:World→Prop} {f:FuncId} {args:List AV} {j k:Nat} {x y:Rat} (h:Ctr P A f args (nm j x)) (hs:RSz k y) (e:x=y):Ctr P A f args (nm k y):=by
 subst e
 exact CtrM.weak h (Ents.of_eq rfl) (Ent.agg (.cons (.qs hs) (.cons (.qs hs) (.cons (.qs hs) .nil))))
theorem rsz_ofB {k:Nat} {x:Rat} (h:(decide (x.num.natAbs<4294967296)&&decide (x.den<4294967296))=true) (hk:1≤k):RSz k x:=by
 rw [Bool.and_eq_true,decide_eq_true_eq,decide_eq_true_eq] at h
 exact ⟨Nat.le_trans (length_toL_le x.num.natAbs 1 (by omega)) hk,Nat.le_trans (length_toL_le x.den 1 (by omega)) hk⟩
abbrev exL:List Rat:= [0,0,oneR]
theorem ex_rsz: ∀r∈exL,RSz 2 r:=fun r hr=>by
 have h0:RSz 2 0:=rsz_ofB (by decide+kernel) (by decide)
 rcases List.mem_cons.1 hr with rfl | hr
 ·exact h0
 rcases List.mem_cons.1 hr with rfl | hr
 ·exact h0
 rw [List.mem_singleton.1 hr]
 exact rsz_ofB (by decide+kernel) (by decide)
abbrev halfR:Rat:=((1:Int):Rat)/((2:Int):Rat)
theorem awake5:Ctr Tryz.prog Amb 22 [] (.one (.v (.bool true))):=by
 have hh:RSz 2 halfR:=rsz_ofB (by decide+kernel) (by decide)
 have I1:=r_int (n:=1) rfl
 have F1:=r_frac (n:=1) (d:=2) rfl
 have S1:=s_split (j:=2) (jt:=2) (n:=2) (J:=26) (l:=exL) (t:=halfR) rfl (by decide) (by decide) (by decide) ex_rsz hh rfl
 have E1:=(s_eval (j:=2) (jt:=2) (n:=2) (l:=exL) (t:=halfR) rfl (by decide) (by decide) (by decide) ex_rsz hh rfl).nmTo (k:=2) (y:=1/4) (rsz_ofB (by decide+kernel) (by decide)) (by decide+kernel)
 have V1:=s_validB (j:=2) (l:=exL) (by decide) (by decide) (by decide)
 have T1:=r_textB (j:=2) (x:=1/4) (s:= { data:= #[49,47,52] }) (by decide) (by decide+kernel)
 have T2:=r_textB (j:=26+26+2) (x:=1/4) (s:= { data:= #[49,47,52] }) (by decide) (by decide+kernel)
 have T3:=r_textB (j:=26+26+2) (x:=1/2) (s:= { data:= #[49,47,50] }) (by decide) (by decide+kernel)
 obtain ⟨L,hL⟩: ∃L,L=tab (2+1) (lowR halfR (cf exL)):=⟨_,rfl⟩
 obtain ⟨U,hU⟩: ∃U,U=tab (2+1) (uppR halfR (cf exL) 2):=⟨_,rfl⟩
 unfold ratT at S1
 rw [←hL,←hU] at S1
 have hx:L[(2:Int).toNat]?=some (1/4):=by rw [hL];decide+kernel
 have hy:U[(1:Int).toNat]?=some (1/2):=by rw [hU];decide+kernel
 have hl1:((L.length:Nat):Int)=3:=by rw [hL];rfl
 have hl2:((U.length:Nat):Int)=3:=by rw [hU];rfl
 have b1:=binEq (k:= .i64) (decide_eq_true hl1)
 have b2:=binEq (k:= .i64) (decide_eq_true hl2)
 clear hL hU
 refine ctr_body Tryz.func22 rfl rfl rfl rfl rfl rfl ?_
 intro W0 base D μ0 hA hD
 repeat (first | refine aw_seq ?_ | refine aw_block ?_ | refine aw_condT rfl ?_ | refine aw_condF rfl ?_ | refine aw_pa ?_ | refine aw_da ?_ | refine aw_skip ?_ | refine aw_exit ?_)
 refine aw_wk (ss:= [(1,.one (.gl 7 3 3))]) (bs:= [(7,blkL (nmD 2) exL)]) ?_ ?_
 ·exact wk_a
 refine aw_freeze 7 hD (ss:= [(1,.one (rats 2 exL))]) (bs:= []) ?_ ?_
 ·exact fk_mk (List.forall_mem_cons.2 ⟨fz_blk (f:=nmD 2) (l:=exL) inferInstance,nil_all⟩) nil_all rfl
 repeat (first
  | refine aw_seq ?_ | refine aw_block ?_ | refine aw_condT rfl ?_ | refine aw_condF rfl ?_
  | ((first | refine aw_plainK (by kernel_rfl) ?_ | refine aw_drawK (by kernel_rfl) (by kernel_rfl) (by kernel_rfl) ?_)
     repeat (first
      | refine v_skip (hl:=?_)
      | refine v_move (hl:=?_)
      | refine v_assign (hl:=?_)
      | refine v_load (hl:=?_)
      | refine v_buildS (hl:=?_)
      | refine v_buildA (hl:=?_)
      | refine v_extract (hl:=?_)
      | refine v_bin (hl:=?_)
      | refine v_indexAddr (hl:=?_)
      | refine v_pickT (hl:=?_)
      | refine v_pickF (hl:=?_)
      | refine v_eqBool (hl:=?_)
      | refine v_max (hl:=?_)
      | refine v_min (hl:=?_)
      | refine v_len (hl:=?_)
      | refine v_lenS (hl:=?_)
      | refine v_loadF (hl:=?_)
      | refine v_buildL (hl:=?_)
      | refine v_callE hA (hc:=F1) (hl:=?_)
      | refine v_callE hA (hc:=S1) (hl:=?_)
      | refine v_callE hA (hc:=E1) (hl:=?_)
      | refine v_callE hA (hc:=V1) (hl:=?_)
      | refine v_callE hA (hc:=T1) (hl:=?_)
      | refine v_callE hA (hc:=T2) (hl:=?_)
      | refine v_callE hA (hc:=T3) (hl:=?_)
      | refine v_idx (i:=2) hx (by omega) (hl:=?_)
      | refine v_idx (i:=1) hy (by omega) (hl:=?_)
      | refine v_eqSB (hl:=?_))
     apply RunK.nil;try refine And.intro (by kernel_rfl) ?_)
  | refine aw_skip ?_ | refine aw_exit ?_)
 refine aw_ret (And.intro (Or.inr rfl) ?_)
 exact f_one
end Go.Proofs.YtnkobfcnflphkaaGreatDoor
