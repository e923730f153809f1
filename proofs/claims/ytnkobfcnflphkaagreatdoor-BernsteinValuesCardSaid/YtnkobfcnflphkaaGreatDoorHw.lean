/-
  Several texts in one: Zg, Zh, Zi.
-/
import Derived.Test.YtnkobfcnflphkaaGreatDoorHx
import Derived.Test.YtnkobfcnflphkaaGreatDoorHz
import Derived.Test.YtnkobfcnflphkaaGreatDoorGs
import Derived.Test.YtnkobfcnflphkaaGreatDoorHn
namespace Go.Proofs.YtnkobfcnflphkaaGreatDoor
open Go.RowKit
set_option linter.unusedVariables false
set_option linter.unusedSimpArgs false
set_option maxRecDepth 20000
set_option maxHeartbeats 4000000
theorem geo_nat {M E:Nat} : ∀i:Nat,geoR ((M:Int):Rat) ((E:Int):Rat) i=(((M*E^i:Nat):Int):Rat)
 | 0=>by rw [geoR_zero,Nat.pow_zero,Nat.mul_one]
 | i+1=>by
   rw [geoR_succ,geo_nat i,Nat.pow_succ,←Nat.mul_assoc,Int.natCast_mul (M*E^i),Rat.intCast_mul]
theorem geo_sz {M E a b n:Nat} (hM:Sz a M) (hE:Sz b E): ∀i,i≤n→RSz (a+n*b+1) (geoR ((M:Int):Rat) ((E:Int):Rat) i):=fun i hi=>by
 rw [geo_nat]
 refine (rsz_nat (hM.mul (hE.pow i)) (by omega)).mono ?_
 have:=Nat.mul_le_mul_right b hi
 omega
theorem geo_ne {a q:Rat} (ha:a≠0) (hq:q≠0) (i:Nat):geoR a q i≠0:=rat_mul_ne ha (rat_pow_ne hq i)
theorem ratio_int {jt:Nat} {t:Rat} (h:RSz jt t):(∃z:Int,t*denQ t=(z:Rat)∧Sz (jt+1) z.natAbs)∧ ∃z:Int,denQ t-t*denQ t=(z:Rat)∧Sz (jt+1) z.natAbs:=by
 have e:t*denQ t=(t.num:Rat):=rat_den t
 refine ⟨⟨t.num,e,h.1.mono (by omega)⟩,t.den-t.num,?_,?_⟩
 ·rw [e,Rat.intCast_sub];rfl
 ·have h1:((t.den:Int)-t.num).natAbs≤t.den+t.num.natAbs:=by omega
  exact (h.2.plus h.1).le h1
theorem s_split {j jt n J:Nat} {l:List Rat} {t:Rat} (hl:l.length=n+1) (hn:n≤40) (hj:j≤10000) (hjt:jt≤10000) (hr: ∀r∈l,RSz j r) (ht:RSz jt t) (hJ:J=(n+1)*j+j+n*(jt+2)+10):
  Ctr Tryz.prog Amb 54 [.one (rats j l),nm jt t] (.tup [.one (ratT (J+J+2) (n+1) (lowR t (cf l))),.one (ratT (J+J+2) (n+1) (uppR t (cf l) n))]):=by
 have hA:(n+1)*j≤41*10000:=Nat.mul_le_mul (by omega) hj
 have hB:n*(jt+2)≤40*10002:=Nat.mul_le_mul hn (by omega)
 obtain ⟨M,hM0,_,hMS,hMsz,hint⟩:=whS_spec l 1 2 (by decide) (length_toL_le _ _ (by decide)) hr
 have P1:=s_permittedB (j:=j) (l:=l) (by omega) (by omega)
 have W1:=s_wholeT (J:=J) hl (by omega) (by omega) hr (by omega)
 have R1:=s_ratio (j:=jt) (t:=t) (by omega)
 obtain ⟨S,hS⟩: ∃S,S=whS oneR l:=⟨_,rfl⟩
 rw [←hS] at W1
 have hSM:S=((M:Int):Rat):=hS.trans hMS
 have hS0:S≠0:=by rw [hSM];exact natQ_ne hM0
 clear hMS hS
 rw [hl] at hMsz
 have hE:Sz (jt+1) t.den:=ht.2.mono (by omega)
 have hz0:denQ t≠0:=by have:=denQ_pos t;intro h;rw [h] at this;exact absurd this (by decide)
 obtain ⟨hu,hd⟩:=ratio_int ht
 have hcs:=scheme_sz (a:=2+(n+1)*j) (jt:=jt+1) (n:=n) hl hr hMsz hSM hint hu hd
 have hgs:=geo_sz (n:=n) hMsz hE
 rw [←hSM] at hgs
 replace hgs: ∀i,i≤n→RSz J (geoR S (denQ t) i):=fun i hi=>(hgs i hi).mono (by
  have:n*(jt+1)≤n*(jt+2):=Nat.mul_le_mul_left _ (by omega)
  omega)
 replace hcs: ∀k i,k+i≤n→RSz J (casR (t*denQ t) (denQ t-t*denQ t) (fun i=>S*l.getD i 0) k i):=fun k i h=>(hcs k i h).mono (by
  have:n*(jt+1+1)=n*(jt+2):=rfl
  omega)
 clear hint hMsz hSM hM0 hE hu hd hr
 have V1:=s_scheme (ju:=2*jt+4) (jd:=3*jt+9) (n:=n) (J:=J) (u:=t*denQ t) (d:=denQ t-t*denQ t) (f:=fun i=>S*l.getD i 0) (by omega) (by omega) (by omega) (by omega) hcs
 have G1:=s_geometric (ja:=(n+1)*j+2) (jq:=jt+2) (n:=n) (J:=J) (a:=S) (q:=denQ t) (by omega) (by omega) (by omega) (by omega) hgs
 have B1:=b11 (g:=134) (n:=n) (J:=J+J+2) (h:=lowR t (cf l)) (c0:=ratT J (n+1) fun k=>casR (t*denQ t) (denQ t-t*denQ t) (fun i=>S*l.getD i 0) k 0) (c1:=ratT J (n+1) (geoR S (denQ t))) rfl rfl rfl rfl (k1:=12) (k2:=13) (by omega) (fun i hi=>by
  rw [←cas_low (f:=cf l) (i:=i) hS0 hz0 rfl rfl]
  exact s_split1 (tab_at (g:=fun k=>casR (t*denQ t) (denQ t-t*denQ t) (fun i=>S*l.getD i 0) k 0) (by omega)) (tab_at (by omega)) (by omega) (by omega) (geo_ne hS0 hz0 i)) (by decide)
 have B2:=b111 (g:=135) (n:=n) (J:=J+J+2) (h:=uppR t (cf l) n) (c0:=ratT J (n+1) fun q=>casR (t*denQ t) (denQ t-t*denQ t) (fun i=>S*l.getD i 0) (n-q) q) (c1:=ratT J (n+1) (geoR S (denQ t))) (c2:= .v (.int .i64 (n:Nat))) rfl rfl rfl rfl rfl rfl (k1:=7) (k2:=13) (k3:=6) (by omega) (fun i hi=>by
  rw [←cas_upp (f:=cf l) (n:=n) (i:=i) hS0 hz0 rfl rfl]
  exact s_split2 (by omega) hi (tab_at (g:=fun q=>casR (t*denQ t) (denQ t-t*denQ t) (fun i=>S*l.getD i 0) (n-q) q) (by omega)) (tab_at (g:=geoR S (denQ t)) (by omega)) (by omega) (by omega) (geo_ne hS0 hz0 _)) (by decide)
 have hdn:=binSub (k:= .i64) (show (IntKind.i64).wrap ((l.length:Int)-1)=(n:Int) by rw [show ((l.length:Int)-1)=(n:Int) by omega];exact IntWalk.i64_in _ (by omega))
 clear hcs hgs
 obtain ⟨F,hF⟩: ∃F,F=tab (n+1) fun i=>S*l.getD i 0:=⟨_,rfl⟩
 obtain ⟨R,hR⟩: ∃R,R=tab (n+1) fun q=>casR (t*denQ t) (denQ t-t*denQ t) (fun i=>S*l.getD i 0) (n-q) q:=⟨_,rfl⟩
 obtain ⟨L,hL⟩: ∃L,L=tab (n+1) fun k=>casR (t*denQ t) (denQ t-t*denQ t) (fun i=>S*l.getD i 0) k 0:=⟨_,rfl⟩
 obtain ⟨G,hG⟩: ∃G,G=tab (n+1) (geoR S (denQ t)):=⟨_,rfl⟩
 have hFl:F.length=n+1:=by rw [hF];simp
 have hRl:R.length=n+1:=by rw [hR];simp
 unfold ratT at V1 G1 B1 B2
 rw [←hF] at W1 V1
 rw [←hR] at V1 B2
 rw [←hL] at V1 B1
 rw [←hG] at G1 B1 B2
 clear hF hR hL hG
 have hbl:0<(blkL (nmD J) F).length:=blkL_ne (n:=3) inferInstance (by decide) (by omega)
 have hbr:(blkL (nmD J) F).length=(blkL (nmD J) R).length:=by rw [blkL_len (n:=3) inferInstance,blkL_len (n:=3) inferInstance,hFl,hRl]
 refine ctr_body Tryz.func54 rfl rfl rfl rfl rfl rfl ?_
 intro W0 base D μ0 hA hD
 repeat (first | refine aw_seq ?_ | refine aw_block ?_ | refine aw_condT rfl ?_ | refine aw_condF rfl ?_ | refine aw_pa ?_ | refine aw_da ?_ | refine aw_skip ?_ | refine aw_exit ?_)
 refine aw_freeze 26 hD (ss:= [(6,.one (.ptr 6 0)),(7,.one (.ptr 7 0)),(12,.one (.ptr 12 0)),(13,.one (.ptr 13 0))]) (bs:= [(6,[.v (.int .i64 (n:Nat))]),(7,[rats J R]),(12,[rats J L]),(13,[rats J G])]) ?_ ?_
 ·refine fk_mk2 ?_ ?_ rfl
  ·repeat (first | exact nil_all | (refine List.forall_mem_cons.2 ⟨FzA.ent (Ent.of_eq rfl),?_⟩))
  ·refine List.forall_mem_cons.2 ⟨?_,?_⟩
   ·exact BlkFz.of (blk_ok rfl (EntL.of_eq rfl) rfl)
   refine List.forall_mem_cons.2 ⟨?_,?_⟩
   ·exact BlkFz.gl (f:=nmD J) (l:=R) inferInstance (hz:=hbr)
   refine List.forall_mem_cons.2 ⟨?_,?_⟩
   ·exact BlkFz.of (blk_ok rfl (EntL.of_eq rfl) rfl)
   refine List.forall_mem_cons.2 ⟨?_,?_⟩
   ·exact BlkFz.of (blk_ok rfl (EntL.of_eq rfl) rfl)
   exact nil_all
 repeat (first | refine aw_seq ?_ | refine aw_block ?_ | refine aw_condT rfl ?_ | refine aw_condF rfl ?_ | refine aw_pa ?_ | refine aw_da ?_ | refine aw_skip ?_ | refine aw_exit ?_)
 refine aw_ret (And.intro (Or.inr rfl) ?_)
 exact f_two
end Go.Proofs.YtnkobfcnflphkaaGreatDoor
namespace Go.Proofs.YtnkobfcnflphkaaGreatDoor
open Go.RowKit
set_option linter.unusedVariables false
set_option linter.unusedSimpArgs false
set_option maxRecDepth 20000
set_option maxHeartbeats 4000000
theorem s_cloneP {j:Nat} {l:List Rat} (hl:l.length≤1000000) (hne:0<l.length):
  CtrG Tryz.prog Amb 163 [.one (rats j l)] [] [(5,blkL (nmD j) l)] (.one (.gl 5 l.length 3)):=by
 have hne':(!(blkL (nmD j) l).isEmpty)=true:=by
  have:=blkL_ne (f:=nmD j) inferInstance (by decide) hne
  cases hb:blkL (nmD j) l with
  | nil=>rw [hb] at this;cases this
  | cons a b=>rfl
 have hfn:=flat_ne (j:=j) hne
 refine ctrG_body Tryz.func163 rfl rfl rfl rfl (by
  simp only [List.all_cons,List.all_nil,Bool.and_true,Bool.and_eq_true]
  exact ⟨by simp [inA,inC],blkL_in _ _,hne'⟩) (by simp [inA,inC]) (by simp) (by simp) ?_
 intro W0 base D μ0 hA hD
 repeat (first | refine aw_seq ?_ | refine aw_block ?_ | refine aw_condT rfl ?_ | refine aw_condF rfl ?_ | refine aw_pa ?_ | refine aw_da ?_ | refine aw_skip ?_ | refine aw_exit ?_)
 refine aw_plainT 2 (by simp only [List.take_succ_cons,List.take_zero,List.drop_succ_cons,List.drop_zero];exact ⟨rfl,rfl⟩) (by kernel_rfl) ?_
 refine v_build0 (hl:=?_)
 refine v_move (hl:=?_)
 apply RunK.nil
 refine v_app (la:=([]:List Rat)) (f:=nmD j) (k:=5) (ss:= []) (bs:= []) (ns:=blkL (nmD j) l) (hns:=blkL_ns inferInstance _ l) hD ?_ ?_ ?_
 ·exact ⟨by simp;omega,by simp;omega⟩
 ·exact wk_a
 repeat (refine tl_run rfl ?_;refine v_assign (hl:=?_);apply RunK.nil)
 refine tl_nil ?_
 refine aw_wk (ss:= [(2,.one (.gl 5 l.length 3))]) (bs:= [(5,blkL (nmD j) l)]) ?_ ?_
 ·refine wk_mk ?_ ?_ rfl
  ·repeat (first | exact nil_all | (refine List.forall_mem_cons.2 ⟨?_,?_⟩;focus (first | exact Ent.of_eq rfl | (refine Ent.one' rfl ?_;(first | exact EntC.ratsLe (by omega) | exact EntC.ratsNil | exact EntC.glNil | (refine EntC.int ?_;omega) | (refine EntC.glLen ?_;first | omega | simp) | (refine EntC.glLen ?_;simp) | exact EntC.of_eq rfl | (refine EntC.q rfl ?_;omega) | exact Z0 _ | exact Z2 _ | exact EntC.z0 (k:=0) | exact EntC.z1 (k:=0) | exact EntC.z2 (k:=0) | exact EntC.z0 | exact EntC.z1 | exact EntC.z2)) | (refine Ent.agg' rfl ?_;(repeat (first | exact EntL.nil' rfl | (refine EntL.cons' rfl ?_ ?_;focus (first | exact EntC.ratsLe (by omega) | exact EntC.ratsNil | exact EntC.glNil | (refine EntC.int ?_;omega) | (refine EntC.glLen ?_;first | omega | simp) | (refine EntC.glLen ?_;simp) | exact EntC.of_eq rfl | (refine EntC.q rfl ?_;omega) | exact Z0 _ | exact Z2 _ | exact EntC.z0 (k:=0) | exact EntC.z1 (k:=0) | exact EntC.z2 (k:=0) | exact EntC.z0 | exact EntC.z1 | exact EntC.z2))));done))))
  ·repeat (first | exact nil_all | (refine List.forall_mem_cons.2 ⟨?_,?_⟩;focus (first | exact blk_keep inferInstance | (exact blk_apps (la:= []) inferInstance) | (refine blk_ok rfl ?_ rfl;focus ((repeat (first | exact EntL.nil' rfl | (refine EntL.cons' rfl ?_ ?_;focus (first | exact EntC.ratsLe (by omega) | exact EntC.ratsNil | exact EntC.glNil | (refine EntC.int ?_;omega) | (refine EntC.glLen ?_;first | omega | simp) | (refine EntC.glLen ?_;simp) | exact EntC.of_eq rfl | (refine EntC.q rfl ?_;omega) | exact Z0 _ | exact Z2 _ | exact EntC.z0 (k:=0) | exact EntC.z1 (k:=0) | exact EntC.z2 (k:=0) | exact EntC.z0 | exact EntC.z1 | exact EntC.z2))));done)))))
 refine aw_ret (And.intro (Or.inr rfl) (fin_g (bs:= []) (ResIs.tmp rfl) (Ent.one' rfl (EntC.glLen rfl)) nil_all ?_))
 exact List.forall_mem_cons.2 ⟨.inl (blk_keep inferInstance),nil_all⟩
theorem s_reverseP {j:Nat} {l:List Rat} (hl:l.length≤1000000) (hne:0<l.length):
  CtrM Tryz.prog Amb 164 [.one (.gl 5 l.length 3)] [(5,blkL (nmD j) l,blkL (nmD j) l.reverse)] (.tup []):=by
 have hdn:=binSub (k:= .i64) (show (IntKind.i64).wrap ((l.length:Int)-1)=((l.length-1:Nat):Int) by rw [show ((l.length:Int)-1)=((l.length-1:Nat):Int) by omega];exact IntWalk.i64_in _ (by omega))
 apply ctr_body Tryz.func164 rfl rfl rfl rfl
 case hpf=>
  simp only [List.all_cons,List.all_nil,Bool.and_true,Bool.and_eq_true]
  exact ⟨rfl,blkL_pf _,blkL_pf _⟩
 case hin=>simp [inA,inC]
 intro W0 base D μ0 hA hD
 repeat (first | refine aw_seq ?_ | refine aw_block ?_ | refine aw_condT rfl ?_ | refine aw_condF rfl ?_ | refine aw_pa ?_ | refine aw_da ?_ | refine aw_skip ?_ | refine aw_exit ?_)
 refine aw_loop (fun n σ=> ∃(i:Nat) (cur:List Rat),n=l.length-i∧2*i≤l.length∧RevI l cur i∧Wk ⟨W0,base,D,28,[5],μ0⟩ σ [(0,.one (.gl 5 l.length 3)),(2,errV (i:Nat)),(3,errV ((l.length:Int)-1-i))] [(5,blkL (nmD j) cur)]) (n:=l.length) ⟨0,l,by omega,by omega,.start l,?_⟩ ?_
 ·exact wk_a
 intro n σ hI
 obtain ⟨i,cur,hn,hi0,hcur,hw⟩:=hI
 refine aw_wk hw ?_
 clear hw
 by_cases hi:(i:Int)<(l.length:Int)-1-i
 ·obtain ⟨q,hq,hqe⟩: ∃q:Nat,(l.length:Int)-1-i=(q:Int)∧q+i+1=l.length:=⟨l.length-1-i,by omega,by omega⟩
  rw [hq] at hi⊢
  have hcl:=hcur.1
  obtain ⟨x,hx,hx'⟩:=get_at (l:=cur) (i:=i) (by omega)
  obtain ⟨y,hy,hy'⟩:=get_at (l:=cur) (i:=q) (by omega)
  have bi:=binLt (k:= .i64) (decide_eq_true (show (i:Int)<(q:Int) from hi))
  have b1:=binAdd (k:= .i64) (show (IntKind.i64).wrap ((i:Int)+1)=((i+1:Nat):Int) from IntWalk.i64_in _ (by omega))
  have b2:=binSub (k:= .i64) (show (IntKind.i64).wrap ((q:Int)-1)=(q:Int)-1 from IntWalk.i64_in _ (by omega))
  have hlen:(blkL (nmD j) cur).length=l.length*3:=by rw [blkL_len (n:=3) inferInstance,hcl]
  have lt1:(0:Int)≤((i:Nat):Int)∧((i:Nat):Int)<(l.length:Nat):=by omega
  have lt2:(0:Int)≤((q:Nat):Int)∧((q:Nat):Int)<(l.length:Nat):=by omega
  have st1:((i:Nat):Int).toNat*3+3≤(blkL (nmD j) cur).length:=by rw [hlen,Int.toNat_natCast];omega
  have st2:((q:Nat):Int).toNat*3+3≤(blkL (nmD j) cur).length:=by rw [hlen,Int.toNat_natCast];omega
  have ld1:=rdL_row (f:=nmD j) (n:=3) inferInstance hx
  have ld2:=rdL_row (f:=nmD j) (n:=3) inferInstance hy
  repeat (first | refine aw_seq ?_ | refine aw_block ?_ | refine aw_condT rfl ?_ | refine aw_condF rfl ?_ | refine aw_pa ?_ | refine aw_da ?_ | refine aw_skip ?_ | refine aw_exit ?_)
  refine ⟨n-1,by omega,i+1,(cur.set i y).set q x,by omega,by omega,hcur.step hqe (by omega) hx' hy',?_⟩
  refine wk_mk ?_ ?_ rfl
  ·repeat (first | exact nil_all | (refine List.forall_mem_cons.2 ⟨?_,?_⟩;focus (first | exact Ent.of_eq rfl | (refine Ent.one' rfl ?_;(first | exact EntC.ratsLe (by omega) | exact EntC.ratsNil | exact EntC.glNil | (refine EntC.int ?_;omega) | (refine EntC.glLen ?_;first | omega | simp) | exact EntC.of_eq rfl | (refine EntC.q rfl ?_;omega) | exact Z0 _ | exact Z2 _ | exact EntC.z0 (k:=0) | exact EntC.z1 (k:=0) | exact EntC.z2 (k:=0) | exact EntC.z0 | exact EntC.z1 | exact EntC.z2)) | (refine Ent.agg' rfl ?_;(repeat (first | exact EntL.nil' rfl | (refine EntL.cons' rfl ?_ ?_;focus (first | exact EntC.ratsLe (by omega) | exact EntC.ratsNil | exact EntC.glNil | (refine EntC.int ?_;omega) | (refine EntC.glLen ?_;first | omega | simp) | exact EntC.of_eq rfl | (refine EntC.q rfl ?_;omega) | exact Z0 _ | exact Z2 _ | exact EntC.z0 (k:=0) | exact EntC.z1 (k:=0) | exact EntC.z2 (k:=0) | exact EntC.z0 | exact EntC.z1 | exact EntC.z2))));done))))
  ·repeat (first | exact nil_all | (refine List.forall_mem_cons.2 ⟨?_,?_⟩;focus (first | exact blk_keep inferInstance | (exact blk_row (z:=(blkL (nmD j) cur).length) inferInstance (RowE.set inferInstance (i:=q) (RowE.set inferInstance (i:=i) RowE.base (show i<cur.length by omega) (EntL.of_eq rfl)) (show q<(cur.set i y).length by rw [List.length_set];omega) (EntL.of_eq rfl)) (by rw [List.length_set,List.length_set];exact blkL_len inferInstance cur)) | (refine blk_ok rfl ?_ rfl;focus ((repeat (first | exact EntL.nil' rfl | (refine EntL.cons' rfl ?_ ?_;focus (first | exact EntC.ratsLe (by omega) | exact EntC.ratsNil | exact EntC.glNil | (refine EntC.int ?_;omega) | (refine EntC.glLen ?_;first | omega | simp) | exact EntC.of_eq rfl | (refine EntC.q rfl ?_;omega) | exact Z0 _ | exact Z2 _ | exact EntC.z0 (k:=0) | exact EntC.z1 (k:=0) | exact EntC.z2 (k:=0) | exact EntC.z0 | exact EntC.z1 | exact EntC.z2))));done)))))
 ·have bi:=binLt (k:= .i64) (decide_eq_false hi)
  have he:=hcur.done (by omega)
  subst he
  repeat (first | refine aw_seq ?_ | refine aw_block ?_ | refine aw_condT rfl ?_ | refine aw_condF rfl ?_ | refine aw_pa ?_ | refine aw_da ?_ | refine aw_skip ?_ | refine aw_exit ?_)
  refine And.intro (Or.inl rfl) ?_
  refine ⟨⟨[],.nil,.inr rfl,Ent.of_eq rfl⟩,?_⟩
  exact List.forall_mem_cons.2 ⟨(blk_keep (ks:= []) inferInstance).1,nil_all⟩
theorem s_mirrored {j:Nat} {l:List Rat} (hl:l.length≤1000000) (hne:0<l.length):
  Ctr Tryz.prog Amb 131 [.one (rats j l)] (.one (rats j l.reverse)):=by
 have C1:=s_cloneP (j:=j) hl hne
 have V1:=s_reverseP (j:=j) hl hne
 have hbl:0<(blkL (nmD j) l).length:=blkL_ne (n:=3) inferInstance (by decide) hne
 have hbr:(blkL (nmD j) l).length=(blkL (nmD j) l.reverse).length:=by rw [blkL_len (n:=3) inferInstance,blkL_len (n:=3) inferInstance,List.length_reverse]
 refine ctr_body Tryz.func131 rfl rfl rfl rfl rfl rfl ?_
 intro W0 base D μ0 hA hD
 repeat (first | refine aw_seq ?_ | refine aw_block ?_ | refine aw_condT rfl ?_ | refine aw_condF rfl ?_ | refine aw_pa ?_ | refine aw_da ?_ | refine aw_skip ?_ | refine aw_exit ?_)
 refine aw_wk (ss:= [(2,.one (.gl 5 l.reverse.length 3))]) (bs:= [(5,blkL (nmD j) l.reverse)]) ?_ ?_
 ·refine wk_mk ?_ ?_ rfl
  ·repeat (first | exact nil_all | (refine List.forall_mem_cons.2 ⟨?_,?_⟩;focus (first | exact Ent.of_eq rfl | (refine Ent.one' rfl ?_;(first | exact EntC.ratsLe (by omega) | exact EntC.ratsNil | exact EntC.glNil | (refine EntC.int ?_;omega) | (refine EntC.glLen ?_;first | omega | simp) | exact EntC.of_eq rfl | (refine EntC.q rfl ?_;omega) | exact Z0 _ | exact Z2 _ | exact EntC.z0 (k:=0) | exact EntC.z1 (k:=0) | exact EntC.z2 (k:=0) | exact EntC.z0 | exact EntC.z1 | exact EntC.z2)) | (refine Ent.agg' rfl ?_;(repeat (first | exact EntL.nil' rfl | (refine EntL.cons' rfl ?_ ?_;focus (first | exact EntC.ratsLe (by omega) | exact EntC.ratsNil | exact EntC.glNil | (refine EntC.int ?_;omega) | (refine EntC.glLen ?_;first | omega | simp) | exact EntC.of_eq rfl | (refine EntC.q rfl ?_;omega) | exact Z0 _ | exact Z2 _ | exact EntC.z0 (k:=0) | exact EntC.z1 (k:=0) | exact EntC.z2 (k:=0) | exact EntC.z0 | exact EntC.z1 | exact EntC.z2))));done))))
  ·repeat (first | exact nil_all | (refine List.forall_mem_cons.2 ⟨?_,?_⟩;focus (first | exact blk_keep inferInstance | (exact blk_row (z:=(blkL (nmD j) l).length) inferInstance RowE.whole (by rw [hbr];exact blkL_len inferInstance _)) | (refine blk_ok rfl ?_ rfl;focus ((repeat (first | exact EntL.nil' rfl | (refine EntL.cons' rfl ?_ ?_;focus (first | exact EntC.ratsLe (by omega) | exact EntC.ratsNil | exact EntC.glNil | (refine EntC.int ?_;omega) | (refine EntC.glLen ?_;first | omega | simp) | exact EntC.of_eq rfl | (refine EntC.q rfl ?_;omega) | exact Z0 _ | exact Z2 _ | exact EntC.z0 (k:=0) | exact EntC.z1 (k:=0) | exact EntC.z2 (k:=0) | exact EntC.z0 | exact EntC.z1 | exact EntC.z2))));done)))))
 refine aw_freeze 5 hD (ss:= [(2,.one (rats j l.reverse))]) (bs:= []) ?_ ?_
 ·refine fk_mk ?_ ?_ rfl
  ·repeat (first | exact nil_all | (refine List.forall_mem_cons.2 ⟨?_,?_⟩;focus (first | exact fz_blk inferInstance | refine FzA.ent ?_;first | exact Ent.of_eq rfl | (refine Ent.one' rfl ?_;(first | exact EntC.ratsLe (by omega) | exact EntC.ratsNil | exact EntC.glNil | (refine EntC.int ?_;omega) | (refine EntC.glLen ?_;first | omega | simp) | exact EntC.of_eq rfl | (refine EntC.q rfl ?_;omega) | exact Z0 _ | exact Z2 _ | exact EntC.z0 (k:=0) | exact EntC.z1 (k:=0) | exact EntC.z2 (k:=0) | exact EntC.z0 | exact EntC.z1 | exact EntC.z2)) | (refine Ent.agg' rfl ?_;(repeat (first | exact EntL.nil' rfl | (refine EntL.cons' rfl ?_ ?_;focus (first | exact EntC.ratsLe (by omega) | exact EntC.ratsNil | exact EntC.glNil | (refine EntC.int ?_;omega) | (refine EntC.glLen ?_;first | omega | simp) | exact EntC.of_eq rfl | (refine EntC.q rfl ?_;omega) | exact Z0 _ | exact Z2 _ | exact EntC.z0 (k:=0) | exact EntC.z1 (k:=0) | exact EntC.z2 (k:=0) | exact EntC.z0 | exact EntC.z1 | exact EntC.z2))));done))))
  ·repeat (first | exact nil_all | (refine List.forall_mem_cons.2 ⟨?_,?_⟩;focus (first | exact blk_keep inferInstance | (refine blk_ok rfl ?_ rfl;focus ((repeat (first | exact EntL.nil' rfl | (refine EntL.cons' rfl ?_ ?_;focus (first | exact EntC.ratsLe (by omega) | exact EntC.ratsNil | exact EntC.glNil | (refine EntC.int ?_;omega) | (refine EntC.glLen ?_;first | omega | simp) | exact EntC.of_eq rfl | (refine EntC.q rfl ?_;omega) | exact Z0 _ | exact Z2 _ | exact EntC.z0 (k:=0) | exact EntC.z1 (k:=0) | exact EntC.z2 (k:=0) | exact EntC.z0 | exact EntC.z1 | exact EntC.z2))));done)))))
 refine aw_ret (And.intro (Or.inr rfl) ?_)
 exact f_one
end Go.Proofs.YtnkobfcnflphkaaGreatDoor
namespace Go.Proofs.YtnkobfcnflphkaaGreatDoor
open Go.RowKit
set_option linter.unusedVariables false
set_option linter.unusedSimpArgs false
set_option maxRecDepth 20000
set_option maxHeartbeats 4000000
def IZ (b:Nat) (x:Rat):Prop:= ∃z:Int,x=(z:Rat)∧Sz b z.natAbs
theorem IZ.mono {b c:Nat} {x:Rat} (h:IZ b x) (hb:b≤c):IZ c x:=by
 obtain ⟨z,h1,h2⟩:=h
 exact ⟨z,h1,h2.mono hb⟩
theorem IZ.rsz {b:Nat} {x:Rat} (h:IZ b x) (h1:1≤b):RSz b x:=by
 obtain ⟨z,rfl,hz⟩:=h
 have e:((z:Int):Rat)=mkRat z 1:=by rw [Rat.mkRat_one]
 rw [e]
 exact RSz.of_mkRat hz (length_toL_le _ _ (by
  have:(4294967296:Nat)^b≥4294967296^1:=Nat.pow_le_pow_right (by decide) h1
  omega)) (by decide)
theorem IZ.nat {b m:Nat} (h:Sz b m):IZ b ((m:Int):Rat):=⟨m,rfl,by simpa using h⟩
theorem IZ.mul {b c:Nat} {x y:Rat} (h:IZ b x) (k:IZ c y):IZ (b+c) (x*y):=by
 obtain ⟨z,rfl,hz⟩:=h
 obtain ⟨w,rfl,hw⟩:=k
 exact ⟨z*w,(Rat.intCast_mul _ _).symm,by rw [Int.natAbs_mul];exact hz.mul hw⟩
theorem IZ.sub {b:Nat} {x y:Rat} (h:IZ b x) (k:IZ b y):IZ (b+1) (x-y):=by
 obtain ⟨z,rfl,hz⟩:=h
 obtain ⟨w,rfl,hw⟩:=k
 exact ⟨z-w,(Rat.intCast_sub _ _).symm,(hz.plus hw).le (by omega)⟩
theorem IZ.pow {b:Nat} {x:Rat} (h:IZ b x) (k:Nat):IZ (k*b+1) (x^k):=by
 obtain ⟨z,rfl,hz⟩:=h
 refine ⟨z^k,?_,?_⟩
 ·induction k with
  | zero=>rfl
  | succ k ih=>rw [Rat.pow_succ,ih,Int.pow_succ,Rat.intCast_mul]
 ·rw [Int.natAbs_pow];exact hz.pow k
theorem IZ.scaled {a j:Nat} {M:Nat} {r:Rat} (hM:Sz a M) (hr:RSz j r) (h: ∃z:Int,((M:Int):Rat)*r=(z:Rat)):IZ (a+j) (((M:Int):Rat)*r):=by
 obtain ⟨z,hz⟩:=h
 refine ⟨z,hz,?_⟩
 have h1:(z:Rat)*((r.den:Int):Rat)=((M*r.num:Int):Rat):=by
  rw [←hz,Rat.intCast_mul,Rat.mul_assoc,rat_den]
 have h2:z*r.den=M*r.num:=by rw [←Rat.intCast_mul] at h1;exact Rat.intCast_inj.1 h1
 have h3:z.natAbs*r.den=M*r.num.natAbs:=by
  have:=congrArg Int.natAbs h2
  rw [Int.natAbs_mul,Int.natAbs_mul] at this
  simpa using this
 refine (hM.mul hr.1).le ?_
 rw [←h3]
 exact Nat.le_mul_of_pos_right _ r.den_pos
theorem IZ.cas {b c n:Nat} {u d:Rat} {f:Nat→Rat} (hf: ∀i,i≤n→IZ b (f i)) (hu:IZ c u) (hd:IZ c d): ∀k i,k+i≤n→IZ (b+n*(c+1)+2) (casR u d f k i):=by
 have key: ∀k i,k+i≤n→IZ (b+k*(c+1)) (casR u d f k i):=by
  intro k
  induction k with
  | zero=>intro i hi;exact (hf i (by omega)).mono (by omega)
  | succ k ih=>
    intro i hi
    obtain ⟨z,h1,h2⟩:=hd.mul (ih i (by omega))
    obtain ⟨w,h3,h4⟩:=hu.mul (ih (i+1) (by omega))
    refine ⟨z+w,?_,?_⟩
    ·show d*casR u d f k i+u*casR u d f k (i+1)=_
     rw [h1,h3,Rat.intCast_add]
    ·refine ((h2.plus h4).le (Int.natAbs_add_le _ _)).mono ?_
     rw [Nat.succ_mul];omega
 intro k i hi
 refine (key k i hi).mono ?_
 have:=Nat.mul_le_mul_right (c+1) (show k≤n by omega)
 omega
theorem IZ.geo {b c n:Nat} {a q:Rat} (ha:IZ b a) (hq:IZ c q): ∀i,i≤n→IZ (b+n*c+1) (geoR a q i):=fun i hi=>(ha.mul (hq.pow i)).mono (by
 have:=Nat.mul_le_mul_right c hi
 omega)
theorem fac_set {m i:Nat} {c g:Nat→Rat} (hi:i<m):(tab m fun q=>if q<i then c q*g q else c q).set i (c i*g i)=tab m fun q=>if q<i+1 then c q*g q else c q:=
 tab_set hi (if_pos (by omega)) fun q hq hqi=>by
  by_cases h:q<i
  ·rw [if_pos h,if_pos (by omega)]
  ·rw [if_neg h,if_neg (by omega)]
def bpR (l:List Rat) (n:Nat) (a b:Rat):Nat→Rat:=if a=oneR then prtR 0 (oneR-b) (cf l.reverse) n else prtR a b (cf l) n
set_option maxHeartbeats 16000000 in
theorem s_part {j jt n J:Nat} {l:List Rat} {a b:Rat} (hl:l.length=n+1) (hn:n≤40) (hj:j≤10000) (hjt:jt≤10000) (hr: ∀r∈l,RSz j r) (ha:RSz jt a) (hb:RSz jt b) (hJ:J=9000000):
  Ctr Tryz.prog Amb 51 [.one (rats j l),nm jt a,nm jt b] (.one (ratT (J+J+2) (n+1) (bpR l n a b))):=by
 have P1:=s_permittedB (j:=j) (l:=l) (by omega) (by omega)
 have I1:=c_int (n:=1) rfl
 obtain ⟨jq,hjq⟩: ∃jq,jq=jt+5:=⟨_,rfl⟩
 have S1:=c_same (j:=jt) (k:=2) (x:=a) (y:=oneR)
 have Mi:=s_mirrored (j:=j) (l:=l) (by omega) (by omega)
 have S2:=c_sub (j:=2) (k:=jt) (x:=oneR) (y:=b) (by omega) (by omega)
 have hone:RSz jq oneR:=(rsz_cast 1 (by decide) (by decide)).mono (by omega)
 obtain ⟨R0,hR0⟩: ∃R0,R0=tab (n+1) (bpR l n a b):=⟨_,rfl⟩
 unfold ratT
 rw [←hR0]
 by_cases h1:a=oneR
 case' pos=>
  rw [decide_eq_true h1] at S1
  have hdn:=binSub (k:= .i64) (show (IntKind.i64).wrap ((l.reverse.length:Int)-1)=(n:Int) by rw [List.length_reverse,show ((l.length:Int)-1)=(n:Int) by omega];exact IntWalk.i64_in _ (by omega))
  refine ctr_body Tryz.func51 rfl rfl rfl rfl rfl rfl ?_
  intro W0 base D μ0 hA hD
  repeat (first | refine aw_seq ?_ | refine aw_block ?_ | refine aw_condT rfl ?_ | refine aw_condF rfl ?_ | refine aw_pa ?_ | refine aw_da ?_ | refine aw_skip ?_ | refine aw_exit ?_)
  refine aw_wk (ss:= [(0,.one (rats j l.reverse)),(4,.one (.ptr 4 0)),(5,.one (.ptr 5 0)),(8,errV (n:Nat))]) (bs:= [(4,nmC jq 0),(5,nmC jq (oneR-b))]) ?_ ?_
  ·exact wk_a
  obtain ⟨l',a',b',e1,e2,e3,hR',hl',hr',ha',hb',hne'⟩: ∃l' a' b',l'=l.reverse∧a'=(0:Rat)∧b'=oneR-b∧R0=tab (n+1) (prtR a' b' (cf l') n)∧l'.length=n+1∧(∀r∈l',RSz j r)∧RSz jq a'∧RSz jq b'∧a'≠1:=⟨_,_,_,rfl,rfl,rfl,by rw [hR0];unfold bpR;rw [if_pos h1],by rw [List.length_reverse];exact hl,fun r hr'=>hr r (List.mem_reverse.1 hr'),⟨length_toL_le _ _ (Nat.pow_pos (by decide)),length_toL_le _ _ (by rw [hjq];exact Nat.one_lt_pow (by omega) (by decide))⟩,((rsz_cast 1 (by decide) (by decide)).sub hb).mono (by omega),by decide⟩
  rw [←e1,←e2,←e3]
  clear e1 e2 e3
 case' neg=>
  rw [decide_eq_false h1] at S1
  have hdn:=binSub (k:= .i64) (show (IntKind.i64).wrap ((l.length:Int)-1)=(n:Int) by rw [show ((l.length:Int)-1)=(n:Int) by omega];exact IntWalk.i64_in _ (by omega))
  refine ctr_body Tryz.func51 rfl rfl rfl rfl rfl rfl ?_
  intro W0 base D μ0 hA hD
  repeat (first | refine aw_seq ?_ | refine aw_block ?_ | refine aw_condT rfl ?_ | refine aw_condF rfl ?_ | refine aw_pa ?_ | refine aw_da ?_ | refine aw_skip ?_ | refine aw_exit ?_)
  refine aw_wk (ss:= [(0,.one (rats j l)),(4,.one (.ptr 4 0)),(5,.one (.ptr 5 0)),(8,errV (n:Nat))]) (bs:= [(4,nmC jq a),(5,nmC jq b)]) ?_ ?_
  ·exact wk_a
  obtain ⟨l',a',b',e1,e2,e3,hR',hl',hr',ha',hb',hne'⟩: ∃l' a' b',l'=l∧a'=a∧b'=b∧R0=tab (n+1) (prtR a' b' (cf l') n)∧l'.length=n+1∧(∀r∈l',RSz j r)∧RSz jq a'∧RSz jq b'∧a'≠1:=⟨_,_,_,rfl,rfl,rfl,by rw [hR0];unfold bpR;rw [if_neg h1],hl,hr,ha.mono (by omega),hb.mono (by omega),h1⟩
  rw [←e1,←e2,←e3]
  clear e1 e2 e3
 all_goals
  clear hdn S1 S2 Mi P1 hR0 h1 hr ha hb hl hone
  have hNA:(n+1)*j≤41*10000:=Nat.mul_le_mul (by omega) hj
  have hNB:n*(3*jq+3+1)≤40*30019:=Nat.mul_le_mul hn (by omega)
  have hNC:n*(2+2*jq)≤40*20012:=Nat.mul_le_mul hn (by omega)
  have hB':n*(3*jq+3)≤40*30019:=Nat.mul_le_mul hn (by omega)
  obtain ⟨M,hM0,_,hMS,hMsz,hint⟩:=whS_spec l' 1 2 (by decide) (length_toL_le _ _ (by decide)) hr'
  obtain ⟨Q,hQ0,_,hQS,hQsz,hqnt⟩:=whS_spec (j:=jq) [a',b'] 1 2 (by decide) (length_toL_le _ _ (by decide)) (fun r hr=>by
   rcases List.mem_cons.1 hr with rfl | hr
   ·exact ha'
   ·rw [List.mem_singleton.1 hr];exact hb')
  have W1:=s_wholeT (J:=J) hl' (by omega) (by omega) hr' (by omega)
  have W2:=s_wholeT (j:=jq) (J:=3*jq+4) (n:=1) (l:= [a',b']) rfl (by omega) (by omega) (fun r hr=>by
   rcases List.mem_cons.1 hr with rfl | hr
   ·exact ha'
   ·rw [List.mem_singleton.1 hr];exact hb') (by omega)
  obtain ⟨S,hS⟩: ∃S,S=whS oneR l':=⟨_,rfl⟩
  obtain ⟨E,hE⟩: ∃E,E=whS oneR [a',b']:=⟨_,rfl⟩
  rw [←hS] at W1
  rw [←hE] at W2
  have hSM:S=((M:Int):Rat):=hS.trans hMS
  have hEQ:E=((Q:Int):Rat):=hE.trans hQS
  have hS0:S≠0:=by rw [hSM];exact natQ_ne hM0
  have hE0:E≠0:=by rw [hEQ];exact natQ_ne hQ0
  have hM0':S≠0:=hS0
  rw [hl'] at hMsz
  replace hQsz:Sz (2+2*jq) Q:=hQsz
  have iS:IZ (2+(n+1)*j) S:=by rw [hSM];exact IZ.nat hMsz
  have iE:IZ (2+2*jq) E:=by rw [hEQ];exact IZ.nat hQsz
  have i0:IZ (2+2*jq+jq) (E*a'):=by rw [hEQ];exact IZ.scaled hQsz ha' (hqnt a' List.mem_cons_self)
  have i1:IZ (2+2*jq+jq) (E*b'):=by rw [hEQ];exact IZ.scaled hQsz hb' (hqnt b' (List.mem_cons_of_mem _ List.mem_cons_self))
  have if1: ∀i,i≤n→IZ (2+(n+1)*j+j) (S*l'.getD i 0):=fun i hi=>by
   have hlt:i<l'.length:=by omega
   have hm:l'.getD i 0∈l':=by
    rw [List.getD_eq_getElem?_getD,List.getElem?_eq_getElem hlt]
    exact List.getElem_mem hlt
   rw [hSM];exact IZ.scaled hMsz (hr' _ hm) (hint _ hm)
  have iR:IZ (3*jq+3) (E-E*a'):=((iE.mono (by omega)).sub (i0.mono (show 2+2*jq+jq≤3*jq+2 by omega))).mono (by omega)
  have iU:IZ (3*jq+3) (E*b'-E*a'):=(i1.sub i0).mono (by omega)
  have iD:IZ (3*jq+3) (E-E*b'):=((iE.mono (by omega)).sub (i1.mono (show 2+2*jq+jq≤3*jq+2 by omega))).mono (by omega)
  have hne2:E-E*a'≠0:=by
   intro h0
   have:E*(1-a')=0:=by grind
   rcases Rat.mul_eq_zero.1 this with h | h
   ·exact hE0 h
   ·exact hne' (by grind)
  have c1:=IZ.cas (n:=n) if1 (i0.mono (by omega)) iR
  have ip: ∀i,i≤n→IZ (n*(2+2*jq)+1) (E^i):=fun i hi=>(iE.pow i).mono (by
   have:=Nat.mul_le_mul_right (2+2*jq) hi
   omega)
  obtain ⟨f2,hf2⟩: ∃f2:Nat→Rat,f2=fun i=>casR (E*a') (E-E*a') (fun i=>S*l'.getD i 0) (n-i) i*E^i:=⟨_,rfl⟩
  have if2: ∀i,i≤n→IZ (2+(n+1)*j+j+n*(3*jq+3+1)+2+(n*(2+2*jq)+1)) (f2 i):=fun i hi=>by rw [hf2];exact (c1 (n-i) i (by omega)).mul (ip i hi)
  have c2:=IZ.cas (n:=n) if2 iU iD
  have hp1: ∀i,i≤n→casR (E*b'-E*a') (E-E*b') f2 i 0/(S*E^n*(E-E*a')^i)=prtR a' b' (cf l') n i:=fun i hi=>by
   rw [hf2];exact part_eq hS0 hE0 hne' rfl rfl hi
  have gE:geoR oneR E=fun i=>E^i:=funext fun i=>by
   unfold geoR
   have:oneR=1:=rfl
   rw [this,Rat.one_mul]
  have V1:=s_scheme (ju:=3*jq+4) (jd:=2*jq+2+(3*jq+4)+3) (n:=n) (J:=J) (u:=E*a') (d:=E-E*a') (f:=fun i=>S*l'.getD i 0) (by omega) (by omega) (by omega) (by omega) (fun k i h=>((c1 k i h).rsz (by omega)).mono (by omega))
  have G1:=s_geometric (ja:=2) (jq:=2*jq+2) (n:=n) (J:=J) (a:=oneR) (q:=E) (by omega) (by omega) (by omega) (by omega) (fun i hi=>by rw [gE];exact ((ip i hi).rsz (by omega)).mono (by omega))
  rw [gE] at G1
  have V2:=s_scheme (ju:=3*jq+4+(3*jq+4)+3) (jd:=2*jq+2+(3*jq+4)+3) (n:=n) (J:=J) (u:=E*b'-E*a') (d:=E-E*b') (f:=f2) (by omega) (by omega) (by omega) (by omega) (fun k i h=>((c2 k i h).rsz (by omega)).mono (by omega))
  have M3:=c_mul (j:=(n+1)*j+2) (k:=J) (x:=S) (y:=E^n) (by omega) (by omega)
  have G2:=s_geometric (ja:=(n+1)*j+2+J+2) (jq:=2*jq+2+(3*jq+4)+3) (n:=n) (J:=J) (a:=S*E^n) (q:=E-E*a') (by omega) (by omega) (by omega) (by omega) (fun i hi=>(((iS.mul (ip n (Nat.le_refl _))).geo iR i hi).rsz (by omega)).mono (by omega))
  have hSE:S*E^n≠0:=rat_mul_ne hS0 (rat_pow_ne hE0 n)
  have B1:=b11 (g:=132) (n:=n) (J:=J+J+2) (h:=prtR a' b' (cf l') n) (c0:=ratT J (n+1) fun k=>casR (E*b'-E*a') (E-E*b') f2 k 0) (c1:=ratT J (n+1) (geoR (S*E^n) (E-E*a'))) rfl rfl rfl rfl (k1:=16) (k2:=17) (by omega) (fun i hi=>by
   rw [←hp1 i hi]
   exact s_part1 (tab_at (g:=fun k=>casR (E*b'-E*a') (E-E*b') f2 k 0) (by omega)) (tab_at (g:=geoR (S*E^n) (E-E*a')) (by omega)) (by omega) (by omega) (geo_ne hSE hne2 i)) (by decide)
  have hz2: ∀i,i≤n→RSz J (f2 i):=fun i hi=>((if2 i hi).rsz (by omega)).mono (by omega)
  have hfa: ∀i,f2 i=casR (E*a') (E-E*a') (fun i=>S*l'.getD i 0) (n-i) i*E^i:=fun i=>by rw [hf2]
  clear hf2 hp1 c1 c2 if1 if2 ip iU iD iR i0 i1 iE iS hint hqnt hMS hQS hS hE hSM hEQ hQsz hMsz hM0' hne2 hSE
  unfold ratT at V1 G1 V2 G2 B1
  rw [←hR'] at B1
  have W3:CtrG Tryz.prog Amb 100 [.one (rats jq [a',b'])] [] [(126,blkL (nmD (3*jq+4)) [E*a',E*b'])] (.tup [.one (.gl 126 2 3),nm (2*jq+2) E]):=by
   have h:=W2.at1 rfl (blkL_pf _) 126
   exact h
  clear W2
  generalize E*a'=e0 at*
  generalize E*b'=e1 at*
  obtain ⟨F,hF⟩: ∃F,F=tab (n+1) fun i=>S*l'.getD i 0:=⟨_,rfl⟩
  obtain ⟨R1,hR1⟩: ∃R1,R1=tab (n+1) fun q=>casR e0 (E-e0) (fun i=>S*l'.getD i 0) (n-q) q:=⟨_,rfl⟩
  obtain ⟨F2,hF2⟩: ∃F2,F2=tab (n+1) f2:=⟨_,rfl⟩
  obtain ⟨R2,hR2⟩: ∃R2,R2=tab (n+1) fun q=>casR (e1-e0) (E-e1) f2 (n-q) q:=⟨_,rfl⟩
  obtain ⟨L2,hL2⟩: ∃L2,L2=tab (n+1) fun k=>casR (e1-e0) (E-e1) f2 k 0:=⟨_,rfl⟩
  obtain ⟨G,hG⟩: ∃G,G=tab (n+1) fun i=>E^i:=⟨_,rfl⟩
  obtain ⟨T,hT⟩: ∃T,T=tab (n+1) (geoR (S*E^n) (E-e0)):=⟨_,rfl⟩
  have hFl:F.length=n+1:=by rw [hF];simp
  have hRl:R1.length=n+1:=by rw [hR1];simp
  have hFl2:F2.length=n+1:=by rw [hF2];simp
  have hRl2:R2.length=n+1:=by rw [hR2];simp
  rw [←hF] at W1 V1
  rw [←hR1] at V1
  rw [←hF2,←hR2,←hL2] at V2
  rw [←hG] at G1
  rw [←hT] at G2 B1
  rw [←hL2] at B1
  clear hR2 hL2 hT hF
  have hbl1:0<(blkL (nmD J) F).length:=blkL_ne (n:=3) inferInstance (by decide) (by omega)
  have hbl2:0<(blkL (nmD (3*jq+4)) [e0,e1]).length:=blkL_ne (n:=3) inferInstance (by decide) (show 0<2 by omega)
  have hbl3:0<(blkL (nmD J) F2).length:=blkL_ne (n:=3) inferInstance (by decide) (by omega)
  have hbr1:(blkL (nmD J) F).length=(blkL (nmD J) R1).length:=by rw [blkL_len (n:=3) inferInstance,blkL_len (n:=3) inferInstance,hFl,hRl]
  have hbr2:(blkL (nmD J) F2).length=(blkL (nmD J) R2).length:=by rw [blkL_len (n:=3) inferInstance,blkL_len (n:=3) inferInstance,hFl2,hRl2]
  have hx0: [e0,e1][(0:Int).toNat]?=some e0:=rfl
  have hx1: [e0,e1][(1:Int).toNat]?=some e1:=rfl
  have D1:=c_sub (j:=2*jq+2) (k:=3*jq+4) (x:=E) (y:=e0) (by omega) (by omega)
  have D2:=c_sub (j:=3*jq+4) (k:=3*jq+4) (x:=e1) (y:=e0) (by omega) (by omega)
  have D3:=c_sub (j:=2*jq+2) (k:=3*jq+4) (x:=E) (y:=e1) (by omega) (by omega)
  repeat (first | refine aw_seq ?_ | refine aw_block ?_ | refine aw_condT rfl ?_ | refine aw_condF rfl ?_ | refine aw_pa ?_ | refine aw_da ?_ | refine aw_skip ?_ | refine aw_exit ?_)
  refine aw_plainT 2 (by simp only [List.take_succ_cons,List.take_zero,List.drop_succ_cons,List.drop_zero];exact ⟨rfl,rfl⟩) (by kernel_rfl) ?_
  refine v_load (hl:=?_)
  refine v_load (hl:=?_)
  apply RunK.nil
  refine tl_fz 42 (ss:= [(8,errV (n:Nat)),(9,.one (.gl 26 (n+1) 3)),(10,.one (.ptr 10 0)),(42,.one (rats jq [a',b']))]) (bs:= [(10,nmC ((n+1)*j+2) S),(26,blkL (nmD J) F)]) hD rfl ?_
  refine v_buildL (hl:=?_)
  apply RunK.nil
  refine ⟨?_,?_⟩
  ·refine fk_mk ?_ ?_ rfl
   ·refine List.forall_mem_cons.2 ⟨FzA.ent (Ent.of_eq rfl),List.forall_mem_cons.2 ⟨FzA.ent (Ent.of_eq rfl),List.forall_mem_cons.2 ⟨FzA.ent (Ent.of_eq rfl),List.forall_mem_cons.2 ⟨?_,nil_all⟩⟩⟩⟩
    exact fz_blk (f:=nmD jq) (l:= [a',b']) inferInstance
   ·refine List.forall_mem_cons.2 ⟨blk_ok rfl (EntL.of_eq rfl) rfl,List.forall_mem_cons.2 ⟨blk_keep inferInstance,nil_all⟩⟩
  refine tl_run rfl ?_
  refine v_callRN hA [] W3 hbl2 (hl:=?_)
  apply RunK.nil
  repeat (refine tl_run rfl ?_;(first | refine v_move (hl:=?_) | refine v_extract (hl:=?_) | refine v_alloc (hl:=?_) | refine v_assign (hl:=?_) | refine v_store (hl:=?_));apply RunK.nil)
  refine tl_nil ?_
  refine aw_freeze 126 hD (ss:= [(8,errV (n:Nat)),(9,.one (.gl 26 (n+1) 3)),(10,.one (.ptr 10 0)),(11,.one (rats (3*jq+4) [e0,e1])),(12,.one (.ptr 12 0))]) (bs:= [(10,nmC ((n+1)*j+2) S),(12,nmC (2*jq+2) E),(26,blkL (nmD J) F)]) ?_ ?_
  ·refine fk_mk ?_ ?_ rfl
   ·refine List.forall_mem_cons.2 ⟨FzA.ent (Ent.of_eq rfl),List.forall_mem_cons.2 ⟨FzA.ent (Ent.of_eq rfl),List.forall_mem_cons.2 ⟨FzA.ent (Ent.of_eq rfl),List.forall_mem_cons.2 ⟨?_,List.forall_mem_cons.2 ⟨FzA.ent (Ent.of_eq rfl),nil_all⟩⟩⟩⟩⟩
    exact fz_blk (f:=nmD (3*jq+4)) (l:= [e0,e1]) inferInstance
   ·refine List.forall_mem_cons.2 ⟨blk_ok rfl (EntL.of_eq rfl) rfl,List.forall_mem_cons.2 ⟨blk_ok rfl (EntL.of_eq rfl) rfl,List.forall_mem_cons.2 ⟨blk_keep inferInstance,nil_all⟩⟩⟩
  repeat (first | refine aw_seq ?_ | refine aw_block ?_ | refine aw_condT rfl ?_ | refine aw_condF rfl ?_ | refine aw_pa ?_ | refine aw_da ?_ | refine aw_skip ?_ | refine aw_exit ?_)
  refine aw_loop (fun m σ=> ∃(i:Nat) (cur:List Rat),m=n+1-i∧i≤n+1∧cur=tab (n+1) (fun q=>if q<i then casR e0 (E-e0) (fun i=>S*l'.getD i 0) (n-q) q*E^q else casR e0 (E-e0) (fun i=>S*l'.getD i 0) (n-q) q)∧Wk ⟨W0,base,D,105,[],μ0⟩ σ [(8,errV (n:Nat)),(9,.one (.gl 26 (n+1) 3)),(10,.one (.ptr 10 0)),(11,.one (rats (3*jq+4) [e0,e1])),(12,.one (.ptr 12 0)),(13,.one (.ptr 13 0)),(14,.one (rats J G)),(62,errV ((n+1:Nat):Int)),(63,errV (i:Nat))] [(26,blkL (nmD J) cur),(10,nmC ((n+1)*j+2) S),(12,nmC (2*jq+2) E),(13,nmC (2*jq+2+(3*jq+4)+3) (E-e0))]) (n:=n+1) ⟨0,R1,by omega,by omega,hR1.trans (tab_congr fun q _=>(if_neg (Nat.not_lt_zero q)).symm),?_⟩ ?_
  ·refine wk_mk ?_ ?_ rfl
   ·repeat (first | exact nil_all | (refine List.forall_mem_cons.2 ⟨?_,?_⟩;focus (first | exact Ent.of_eq rfl | (refine Ent.one' rfl ?_;(first | exact EntC.ratsLe (by omega) | exact EntC.ratsNil | exact EntC.glNil | (refine EntC.int ?_;omega) | (refine EntC.glLen ?_;first | omega | simp) | exact EntC.of_eq rfl | (refine EntC.q rfl ?_;omega) | exact Z0 _ | exact Z2 _ | exact EntC.z0 (k:=0) | exact EntC.z1 (k:=0) | exact EntC.z2 (k:=0) | exact EntC.z0 | exact EntC.z1 | exact EntC.z2)) | (refine Ent.agg' rfl ?_;(repeat (first | exact EntL.nil' rfl | (refine EntL.cons' rfl ?_ ?_;focus (first | exact EntC.ratsLe (by omega) | exact EntC.ratsNil | exact EntC.glNil | (refine EntC.int ?_;omega) | (refine EntC.glLen ?_;first | omega | simp) | exact EntC.of_eq rfl | (refine EntC.q rfl ?_;omega) | exact Z0 _ | exact Z2 _ | exact EntC.z0 (k:=0) | exact EntC.z1 (k:=0) | exact EntC.z2 (k:=0) | exact EntC.z0 | exact EntC.z1 | exact EntC.z2))));done))))
   ·repeat (first | exact nil_all | (refine List.forall_mem_cons.2 ⟨?_,?_⟩;focus (first | exact blk_keep inferInstance | (exact blk_row (z:=(blkL (nmD J) F).length) inferInstance RowE.whole (by rw [hbr1];exact blkL_len inferInstance _)) | (refine blk_ok rfl ?_ rfl;focus ((repeat (first | exact EntL.nil' rfl | (refine EntL.cons' rfl ?_ ?_;focus (first | exact EntC.ratsLe (by omega) | exact EntC.ratsNil | exact EntC.glNil | (refine EntC.int ?_;omega) | (refine EntC.glLen ?_;first | omega | simp) | exact EntC.of_eq rfl | (refine EntC.q rfl ?_;omega) | exact Z0 _ | exact Z2 _ | exact EntC.z0 (k:=0) | exact EntC.z1 (k:=0) | exact EntC.z2 (k:=0) | exact EntC.z0 | exact EntC.z1 | exact EntC.z2))));done)))))
  intro m σ hI
  obtain ⟨i,cur,hm,hi0,hcur,hw⟩:=hI
  refine aw_wk hw ?_
  clear hw
  have hcl:cur.length=n+1:=by rw [hcur];simp
  by_cases hi:i<n+1
  ·have bi:=binLt (k:= .i64) (decide_eq_true (show (i:Int)<((n+1:Nat):Int) by omega))
   have hin:=binAdd (k:= .i64) (show (IntKind.i64).wrap ((i:Int)+1)=((i+1:Nat):Int) from IntWalk.i64_in _ (by omega))
   have hx:cur[((i:Nat):Int).toNat]?=some (casR e0 (E-e0) (fun i=>S*l'.getD i 0) (n-i) i):=by
    rw [hcur,tab_at hi,if_neg (Nat.lt_irrefl i)]
   have hy:G[((i:Nat):Int).toNat]?=some (E^i):=by rw [hG];exact tab_at (g:=fun i=>E^i) hi
   have hlt:(0:Int)≤((i:Nat):Int)∧((i:Nat):Int)<((n+1:Nat):Int):=by omega
   have hst:((i:Nat):Int).toNat*3+3≤(blkL (nmD J) cur).length:=by rw [blkL_len (n:=3) inferInstance,hcl,Int.toNat_natCast];omega
   have ld:=rdL_row (f:=nmD J) (n:=3) inferInstance hx
   have hz:=hz2 i (by omega)
   rw [hfa] at hz
   have ht:=fac_set (c:=fun q=>casR e0 (E-e0) (fun i=>S*l'.getD i 0) (n-q) q) (g:=fun q=>E^q) hi
   replace ht:cur.set i (casR e0 (E-e0) (fun i=>S*l'.getD i 0) (n-i) i*E^i)=tab (n+1) (fun q=>if q<i+1 then casR e0 (E-e0) (fun i=>S*l'.getD i 0) (n-q) q*E^q else casR e0 (E-e0) (fun i=>S*l'.getD i 0) (n-q) q):=by rw [hcur];exact ht
   have M4:=c_mul (j:=J) (k:=J) (x:=casR e0 (E-e0) (fun i=>S*l'.getD i 0) (n-i) i) (y:=E^i) (by omega) (by omega)
   generalize casR e0 (E-e0) (fun i=>S*l'.getD i 0) (n-i) i=x at*
   generalize E^i=y at*
   repeat (first | refine aw_seq ?_ | refine aw_block ?_ | refine aw_condT rfl ?_ | refine aw_condF rfl ?_ | refine aw_pa ?_ | refine aw_da ?_ | refine aw_skip ?_ | refine aw_exit ?_)
   refine ⟨m-1,by omega,i+1,cur.set i (x*y),by omega,by omega,ht,?_⟩
   exact wk_a
  ·have bi:=binLt (k:= .i64) (decide_eq_false (show ¬(i:Int)<((n+1:Nat):Int) by omega))
   have he:cur=F2:=by
    rw [hcur,hF2]
    exact tab_congr fun q hq=>by rw [if_pos (by omega),hfa]
   subst he
   have hgn:G[((n:Nat):Int).toNat]?=some (E^n):=by rw [hG];exact tab_at (g:=fun i=>E^i) (by omega)
   clear hF2 hcur hG
   repeat (first
    | refine aw_seq ?_ | refine aw_block ?_ | refine aw_condT rfl ?_ | refine aw_condF rfl ?_
    | ((first | refine aw_plainK (by kernel_rfl) ?_ | refine aw_drawK (by kernel_rfl) (by kernel_rfl) (by kernel_rfl) ?_)
       repeat (first
        | refine v_move (hl:=?_)
        | refine v_assign (hl:=?_)
        | refine v_load (hl:=?_)
        | refine v_store (hl:=?_)
        | refine v_box (hl:=?_)
        | refine v_alloc (hl:=?_)
        | refine v_buildS (hl:=?_)
        | refine v_buildA (hl:=?_)
        | refine v_extract (hl:=?_)
        | refine v_bin (hl:=?_)
        | refine v_indexAddr (hl:=?_)
        | refine v_not (hl:=?_)
        | refine v_makeFunc' (hl:=?_)
        | refine v_max (hl:=?_)
        | refine v_min (hl:=?_)
        | refine v_len (hl:=?_)
        | refine v_lenS (hl:=?_)
        | refine v_loadF (hl:=?_)
        | refine v_buildL (hl:=?_)
        | refine v_idx (i:=0) hx0 (by omega) (hl:=?_)
        | refine v_idx (i:=1) hx1 (by omega) (hl:=?_)
        | refine v_callE hA (hc:=D2) (hl:=?_)
        | refine v_callE hA (hc:=D3) (hl:=?_)
        | refine v_callS hA (len:=n+1) (n:=3) V2 ⟨by omega,hbr2,hbl3⟩ (hl:=?_)
        | refine v_idx hgn (by omega) (hl:=?_)
        | refine v_callE hA (hc:=M3) (hl:=?_)
        | refine v_callE hA (hc:=G2) (hl:=?_)
        | refine v_callR hA [(16,[rats J L2]),(17,[rats J T])] B1 (hl:=?_))
       apply RunK.nil;try refine And.intro (by kernel_rfl) ?_)
    | refine aw_skip ?_ | refine aw_exit ?_)
   refine aw_ret (And.intro (Or.inr rfl) ?_)
   exact f_one
end Go.Proofs.YtnkobfcnflphkaaGreatDoor
