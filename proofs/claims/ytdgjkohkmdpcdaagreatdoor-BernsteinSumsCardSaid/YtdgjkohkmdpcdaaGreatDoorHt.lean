/-
  Several texts in one: Zr, Zs.
-/
import Derived.Test.YtdgjkohkmdpcdaaGreatDoorHu
namespace Go.Proofs.YtdgjkohkmdpcdaaGreatDoor
open Go.RowKit
set_option linter.unusedVariables false
set_option linter.unusedSimpArgs false
set_option maxRecDepth 20000
set_option maxHeartbeats 4000000
theorem s_elev1 {i:Nat} :Ctr Tryz.prog Amb 98 [errV (i:Nat)] (nm 2 oneR):=by
 have I1:=c_int (n:=1) rfl
 refine ctr_body Tryz.func98 rfl rfl rfl rfl rfl rfl ?_
 intro W0 base D μ0 hA hD
 repeat (first | refine aw_seq ?_ | refine aw_block ?_ | refine aw_condT rfl ?_ | refine aw_condF rfl ?_ | refine aw_pa ?_ | refine aw_da ?_ | refine aw_skip ?_ | refine aw_exit ?_)
 refine aw_ret (And.intro (Or.inr rfl) ?_)
 exact f_one
theorem mul_ones {f g:Nat→Rat} {d e k:Nat} (hg: ∀i,i≤e→g i=oneR) (hk:k≤d+e):mulQ f g d e k=liftN f d e k:=by
 unfold mulQ
 have h1:convR (wgt d f) (wgt e g) e (d+1) k=binQ (d+e) k*liftN f d e k:=by
  rw [lift_ones f d e k hk,←ones_conv]
  exact convR_congr (fun q _=>rfl) (fun q hq=>by
   unfold wgt
   rw [hg q hq]
   have:oneR=1:=rfl
   rw [this,Rat.mul_one])
 rw [h1]
 exact mul_div_self (binQ_ne hk)
theorem s_elevate {j d n:Nat} {p:List Rat} (hp:p.length=d+1) (hd:d≤n) (hn:n≤40) (hj:j≤10000) (hr: ∀r∈p,RSz j r):
  Ctr Tryz.prog Amb 25 [.one (rats j p),errV (n:Nat)] (.tup [.one (rats 5000000 (tab (n+1) (liftN (cf p) d (n-d)))),errV 0]):=by
 have B0:=b0 (g:=98) (n:=n-d) (J:=2) (h:=fun _=>oneR) (by omega) (fun i _=>s_elev1)
 have h1:RSz 2 oneR:=rsz_cast 1 (by decide) (by decide)
 have M1:=s_mulB (j:=j) (k:=2) (m:=d) (n:=n-d) (p:=p) (q:=tab (n-d+1) fun _=>oneR) hp tab_len (by omega) hj (by decide) hr (fun r hr=>by
  obtain ⟨i,_,rfl⟩:=List.mem_map.1 hr
  exact h1)
 have e:tab (d+(n-d)+1) (mulQ (cf p) (cf (tab (n-d+1) fun _=>oneR)) d (n-d))=tab (n+1) (liftN (cf p) d (n-d)):=by
  rw [show d+(n-d)+1=n+1 by omega]
  exact tab_congr fun k hk=>mul_ones (fun i hi=>tab_getD 0 (by omega)) (by omega)
 rw [e] at M1
 have e1:=binSub (k:= .i64) (show (IntKind.i64).wrap ((p.length:Int)-1)=(d:Int) by rw [show ((p.length:Int)-1)=(d:Int) by omega];exact IntWalk.i64_in _ (by omega))
 have e2:=binLt (k:= .i64) (decide_eq_false (show ¬(n:Int)<(d:Int) by omega))
 have e3:=binGt (k:= .i64) (decide_eq_false (show ¬(n:Int)>40 by omega))
 have e4:=binSub (k:= .i64) (show (IntKind.i64).wrap ((n:Int)-(d:Int))=((n-d:Nat):Int) by rw [show ((n:Int)-(d:Int))=((n-d:Nat):Int) by omega];exact IntWalk.i64_in _ (by omega))
 unfold ratT at B0
 generalize (tab (n-d+1) fun _=>oneR)=q at*
 generalize tab (n+1) (liftN (cf p) d (n-d))=R at*
 refine ctr_body Tryz.func25 rfl rfl rfl rfl rfl rfl ?_
 intro W0 base D μ0 hA hD
 repeat (first | refine aw_seq ?_ | refine aw_block ?_ | refine aw_condT rfl ?_ | refine aw_condF rfl ?_ | refine aw_pa ?_ | refine aw_da ?_ | refine aw_skip ?_ | refine aw_exit ?_)
 refine aw_ret (And.intro (Or.inr rfl) ?_)
 exact f_two
theorem s_elevateF {j:Nat} {p:List Rat} {n:Int} (hp:0<p.length) (hp2:p.length≤1000) (h:n<(p.length:Int)-1∨n>40) (K:Nat):
  Ctr Tryz.prog Amb 25 [.one (rats j p),.one (.v (.int .i64 n))] (.tup [.one (rats K []),errV 7]):=by
 have e1:=binSub (k:= .i64) (show (IntKind.i64).wrap ((p.length:Int)-1)=(p.length:Int)-1 from IntWalk.i64_in _ (by omega))
 by_cases h1:n<(p.length:Int)-1
 ·have e2:=binLt (k:= .i64) (decide_eq_true h1)
  refine ctr_body Tryz.func25 rfl rfl rfl rfl rfl rfl ?_
  intro W0 base D μ0 hA hD
  repeat (first | refine aw_seq ?_ | refine aw_block ?_ | refine aw_condT rfl ?_ | refine aw_condF rfl ?_ | refine aw_pa ?_ | refine aw_da ?_ | refine aw_skip ?_ | refine aw_exit ?_)
  refine aw_ret (And.intro (Or.inr rfl) ?_)
  exact f_two (hE:=(Ent.tup rfl (EntT.cons (Ent.one' rfl EntC.ratsNil) rfl rfl (EntT.cons (Ent.of_eq rfl) rfl rfl EntT.nil))))
 ·have e2:=binLt (k:= .i64) (decide_eq_false h1)
  have e3:=binGt (k:= .i64) (decide_eq_true (show n>40 by omega))
  refine ctr_body Tryz.func25 rfl rfl rfl rfl rfl rfl ?_
  intro W0 base D μ0 hA hD
  repeat (first | refine aw_seq ?_ | refine aw_block ?_ | refine aw_condT rfl ?_ | refine aw_condF rfl ?_ | refine aw_pa ?_ | refine aw_da ?_ | refine aw_skip ?_ | refine aw_exit ?_)
  refine aw_ret (And.intro (Or.inr rfl) ?_)
  exact f_two (hE:=(Ent.tup rfl (EntT.cons (Ent.one' rfl EntC.ratsNil) rfl rfl (EntT.cons (Ent.of_eq rfl) rfl rfl EntT.nil))))
theorem IB.add {D B C:Nat} {x y:Rat} (h:IB D B x) (k:IB D C y):IB D (B+C) (x+y):=by
 obtain ⟨z,h1,h2⟩:=h
 obtain ⟨w,k1,k2⟩:=k
 refine ⟨z+w,by rw [Rat.intCast_add,←h1,←k1];grind,Nat.le_trans (Int.natAbs_add_le _ _) (by omega)⟩
theorem IB.mul {D E B C:Nat} {x y:Rat} (h:IB D B x) (k:IB E C y):IB (D*E) (B*C) (x*y):=by
 obtain ⟨z,h1,h2⟩:=h
 obtain ⟨w,k1,k2⟩:=k
 refine ⟨z*w,by rw [Int.natCast_mul,Rat.intCast_mul,Rat.intCast_mul,←h1,←k1];grind,by rw [Int.natAbs_mul];exact Nat.mul_le_mul h2 k2⟩
theorem IB.zero {D B:Nat} :IB D B 0:=⟨0,by rw [Rat.zero_mul];rfl,Nat.zero_le _⟩
theorem conv_ib {a b:Nat→Rat} {D B m n:Nat} (ha: ∀i j,i≤m→j≤n→IB D B (a i*b j)): ∀i k,i≤m+1→IB D (i*B) (convR a b n i k)
 | 0,_,_=>IB.zero
 | i+1,k,h=>by
   rw [Nat.succ_mul]
   refine IB.add (conv_ib ha i k (by omega)) ?_
   split
   ·rename_i hh;exact ha i (k-i) (by omega) (by omega)
   ·exact IB.zero
theorem convI_ib {a b:Nat→Rat} {D B m n:Nat} (ha: ∀i j,i≤m→j≤n→IB D B (a i*b j)) {i j k:Nat} (hi:i≤m) (hj:j≤n+1):IB D ((m+1)*B) (convI a b n i j k):=by
 have h:IB D (i*B+B) (convI a b n i j k):=by
  refine IB.add (conv_ib ha i k (by omega)) ?_
  split
  ·rename_i hh;exact ha i (k-i) hi (by omega)
  ·exact IB.zero
 refine h.mono ?_
 rw [←Nat.succ_mul]
 exact Nat.mul_le_mul_right _ (by omega)
theorem wgt_ib {j n:Nat} {l:List Rat} (hl:l.length=n+1) (hn:n≤40) (hr: ∀r∈l,RSz j r): ∃M B:Nat,0<M∧Sz (2+(n+1)*j) M∧Sz (4+(n+1)*j+j) B∧ ∀i,i≤n→IB M B (wgt n (cf l) i):=by
 obtain ⟨M,B,h1,h2,h3,h4⟩:=list_ib hl hr
 refine ⟨M,2199023255552*B,h1,h2,(Sz.mul (j:=2) (m:=2199023255552) (length_toL_le _ _ (by decide)) h3).mono (by omega),fun i hi=>?_⟩
 have h5:IB 1 2199023255552 (binQ n i):=⟨bin n i,by
  have:(((1:Nat):Int):Rat)=1:=rfl
  rw [this,Rat.mul_one],by have:=bin_small (n:=n) (k:=i) (by omega);simpa using this⟩
 have h6:=h5.mul (h4 i hi)
 rw [Nat.one_mul] at h6
 exact h6
theorem lift_rsz {j d e:Nat} {l:List Rat} (hl:l.length=d+1) (hn:d+e≤40) (hr: ∀r∈l,RSz j r): ∀k,k≤d+e→RSz (10+(d+1)*j+j) (liftN (cf l) d e k):=by
 obtain ⟨M,B,h1,h2,h3,h4⟩:=wgt_ib hl (by omega) hr
 intro k hk
 have hb: ∀i q,i≤d→q≤e→IB M (B*2199023255552) (wgt d (cf l) i*binQ e q):=fun i q hi hq=>by
  have h5:IB 1 2199023255552 (binQ e q):=⟨bin e q,by
   have:(((1:Nat):Int):Rat)=1:=rfl
   rw [this,Rat.mul_one],by have:=bin_small (n:=e) (k:=q) (by omega);simpa using this⟩
  have h6:=(h4 i hi).mul h5
  rw [Nat.mul_one] at h6
  exact h6
 have hc:=conv_ib hb (d+1) k (Nat.le_refl _)
 rw [ones_conv] at hc
 have he:=lift_ones (cf l) d e k hk
 have e2:liftN (cf l) d e k=onesR (wgt d (cf l)) e (d+1) k/binQ (d+e) k:=by
  show _=onesR (fun i=>binQ d i*cf l i) e (d+1) k/binQ (d+e) k
  rw [←he];exact (mul_div_self (binQ_ne hk)).symm
 rw [e2]
 have s1:Sz (8+(d+1)*j+j) ((d+1)*(B*2199023255552)):=(Sz.mul (j:=1) (m:=d+1) (length_toL_le _ _ (by omega)) (Sz.mul (k:=2) (n:=2199023255552) h3 (length_toL_le _ _ (by decide)))).mono (by omega)
 exact (rsz_div (hc.rsz h1 (h2.mono (by omega)) s1) (binQ_rsz (by omega)) (binQ_ne hk)).mono (by omega)
theorem liftR_congr {f g:Nat→Rat} {n i:Nat} (hn:0<n) (hi:i≤n) (h: ∀q,q<n→f q=g q):liftR f n i=liftR g n i:=by
 unfold liftR
 by_cases h0:i=0
 ·rw [if_pos h0,if_pos h0,h 0 hn]
 ·rw [if_neg h0,if_neg h0]
  by_cases h1:i=n
  ·rw [if_pos h1,if_pos h1,h (n-1) (by omega)]
  ·rw [if_neg h1,if_neg h1,h i (by omega),h (i-1) (by omega)]
def lifI (f:Nat→Rat) (n i q:Nat):Rat:=if q=0 then f 0 else if q=n then f (n-1) else if q<i then liftR f n q else 0
theorem lifI_start {f:Nat→Rat} {n:Nat} (hn:0<n):((List.replicate (n+1) (0:Rat)).set 0 (f 0)).set n (f (n-1))=tab (n+1) (lifI f n 1):=by
 refine tab_eq (by simp) fun q hq=>?_
 unfold lifI
 by_cases h1:q=n
 ·subst h1
  rw [List.getElem?_set_self (by simp),if_neg (by omega),if_pos rfl]
 ·rw [List.getElem?_set_ne (Ne.symm h1)]
  by_cases h0:q=0
  ·subst h0
   rw [List.getElem?_set_self (by simp),if_pos rfl]
  ·rw [List.getElem?_set_ne (Ne.symm h0),List.getElem?_replicate,if_pos hq,if_neg h0,if_neg h1,if_neg (by omega)]
theorem lifI_set {f:Nat→Rat} {n i:Nat} (h1:1≤i) (hi:i<n) {x:Rat} (hx:x=liftR f n i):(tab (n+1) (lifI f n i)).set i x=tab (n+1) (lifI f n (i+1)):=
 tab_set (by omega) (by unfold lifI;rw [if_neg (by omega),if_neg (by omega),if_pos (by omega),hx]) fun q hq hqi=>by
  unfold lifI
  by_cases h0:q=0
  ·rw [if_pos h0,if_pos h0]
  ·rw [if_neg h0,if_neg h0]
   by_cases h2:q=n
   ·rw [if_pos h2,if_pos h2]
   ·rw [if_neg h2,if_neg h2]
    by_cases h3:q<i
    ·rw [if_pos h3,if_pos (by omega)]
    ·rw [if_neg h3,if_neg (by omega)]
theorem lifI_end {f:Nat→Rat} {n:Nat} :tab (n+1) (lifI f n n)=tab (n+1) (liftR f n):=tab_congr fun q hq=>by
 unfold lifI
 by_cases h0:q=0
 ·rw [if_pos h0];unfold liftR;rw [if_pos h0]
 ·rw [if_neg h0]
  by_cases h2:q=n
  ·rw [if_pos h2];unfold liftR;rw [if_neg h0,if_pos h2]
  ·rw [if_neg h2,if_pos (by omega)]
theorem t_lift {j n J:Nat} {l:List Rat} (hl:l.length=n) (hn:1≤n∧n≤100) (hj:j≤J) (hJ:J≤1000000) (hz: ∀i,i≤n→RSz J (liftR (cf l) n i)):
  Ctr Tryz.prog Amb 99 [.one (rats j l)] (.one (ratT J (n+1) (liftR (cf l) n))):=by
 have h1:=binAdd (k:= .i64) (show (IntKind.i64).wrap ((n:Int)+1)=((n+1:Nat):Int) from IntWalk.i64_in _ (by omega))
 have h2:=binSub (k:= .i64) (show (IntKind.i64).wrap ((n:Int)-1)=((n-1:Nat):Int) by rw [show ((n:Int)-1)=((n-1:Nat):Int) by omega];exact IntWalk.i64_in _ (by omega))
 have hx:l[((0:Nat):Int).toNat]?=some (cf l 0):=getD_at (by omega)
 have hy:l[((n-1:Nat):Int).toNat]?=some (cf l (n-1)):=getD_at (by omega)
 have lt0:(0:Int)≤((0:Nat):Int)∧((0:Nat):Int)<((n+1:Nat):Int):=by omega
 have ltn:(0:Int)≤((n:Nat):Int)∧((n:Nat):Int)<((n+1:Nat):Int):=by omega
 have st0:((0:Nat):Int).toNat*3+3≤(blkL (nmD J) (List.replicate (n+1) (0:Rat))).length:=by rw [blkL_len (n:=3) inferInstance,Int.toNat_natCast];simp;omega
 have stn:((n:Nat):Int).toNat*3+3≤(blkL (nmD J) (List.replicate (n+1) (0:Rat))).length:=by rw [blkL_len (n:=3) inferInstance,Int.toNat_natCast];simp;omega
 have hst:=lifI_start (f:=cf l) (n:=n) (by omega)
 have hz0:RSz J (cf l 0):=by have:=hz 0 (by omega);unfold liftR at this;rwa [if_pos rfl] at this
 have hzn:RSz J (cf l (n-1)):=by have:=hz n (by omega);unfold liftR at this;rwa [if_neg (by omega),if_pos rfl] at this
 subst hl
 refine ctr_body Tryz.func99 rfl rfl rfl rfl rfl rfl ?_
 intro W0 base D μ0 hA hD
 repeat (first
  | refine aw_seq ?_ | refine aw_block ?_ | refine aw_condT rfl ?_ | refine aw_condF rfl ?_
  | ((first | refine aw_plainK (by kernel_rfl) ?_ | refine aw_drawK (by kernel_rfl) (by kernel_rfl) (by kernel_rfl) ?_)
     repeat (first
      | refine v_move (hl:=?_)
      | refine v_assign (hl:=?_)
      | refine v_load (hl:=?_)
      | refine v_store (hl:=?_)
      | refine v_bin (hl:=?_)
      | refine v_indexAddr (hl:=?_)
      | refine v_max (hl:=?_)
      | refine v_min (hl:=?_)
      | refine v_len (hl:=?_)
      | refine v_lenS (hl:=?_)
      | refine v_loadF (hl:=?_)
      | refine v_make (cap:=l.length+1) (by omega) (by omega) (by omega) (hl:=?_))
     apply RunK.nil;try refine And.intro (by kernel_rfl) ?_)
  | refine aw_skip ?_ | refine aw_exit ?_)
 refine aw_wk (ss:= [(0,.one (rats j l)),(3,errV (l.length:Nat)),(4,.one (.gl 10 (l.length+1) 3))]) (bs:= [(10,blkL (nmD J) (List.replicate (l.length+1) 0))]) ?_ ?_
 ·exact wk_a
 repeat (first | refine aw_seq ?_ | refine aw_block ?_ | refine aw_condT rfl ?_ | refine aw_condF rfl ?_ | refine aw_pa ?_ | refine aw_da ?_ | refine aw_skip ?_ | refine aw_exit ?_)
 refine aw_loop (fun m σ=> ∃(i:Nat) (cur:List Rat),m=l.length-i∧1≤i∧i≤l.length∧cur=tab (l.length+1) (lifI (cf l) l.length i)∧Wk ⟨W0,base,D,46,[],μ0⟩ σ [(0,.one (rats j l)),(3,errV (l.length:Nat)),(4,.one (.gl 10 (l.length+1) 3)),(5,errV (i:Nat))] [(10,blkL (nmD J) cur)]) (n:=l.length-1) ⟨1,_,rfl,Nat.le_refl _,hn.1,hst,?_⟩ ?_
 ·refine wk_mk ?_ ?_ rfl
  ·repeat (first | exact nil_all | (refine List.forall_mem_cons.2 ⟨?_,?_⟩;focus (first | exact Ent.of_eq rfl | (refine Ent.one' rfl ?_;(first | exact EntC.ratsLe (by omega) | exact EntC.ratsNil | exact EntC.glNil | (refine EntC.int ?_;omega) | (refine EntC.glLen ?_;first | omega | simp) | exact EntC.of_eq rfl | (refine EntC.q rfl ?_;omega) | exact Z0 _ | exact Z2 _ | exact EntC.z0 (k:=0) | exact EntC.z1 (k:=0) | exact EntC.z2 (k:=0) | exact EntC.z0 | exact EntC.z1 | exact EntC.z2)) | (refine Ent.agg' rfl ?_;(repeat (first | exact EntL.nil' rfl | (refine EntL.cons' rfl ?_ ?_;focus (first | exact EntC.ratsLe (by omega) | exact EntC.ratsNil | exact EntC.glNil | (refine EntC.int ?_;omega) | (refine EntC.glLen ?_;first | omega | simp) | exact EntC.of_eq rfl | (refine EntC.q rfl ?_;omega) | exact Z0 _ | exact Z2 _ | exact EntC.z0 (k:=0) | exact EntC.z1 (k:=0) | exact EntC.z2 (k:=0) | exact EntC.z0 | exact EntC.z1 | exact EntC.z2))));done))))
  ·repeat (first | exact nil_all | (refine List.forall_mem_cons.2 ⟨?_,?_⟩;focus (first | exact blk_keep inferInstance | (exact blk_row (z:=(blkL (nmD J) (List.replicate (l.length+1) (0:Rat))).length) inferInstance (RowE.set inferInstance (i:=l.length) (RowE.set inferInstance (i:=0) RowE.base (by simp) (entL_nm rfl hz0)) (by simp) (entL_nm rfl hzn)) (by rw [List.length_set,List.length_set];exact blkL_len inferInstance _)) | (refine blk_ok rfl ?_ rfl;focus ((repeat (first | exact EntL.nil' rfl | (refine EntL.cons' rfl ?_ ?_;focus (first | exact EntC.ratsLe (by omega) | exact EntC.ratsNil | exact EntC.glNil | (refine EntC.int ?_;omega) | (refine EntC.glLen ?_;first | omega | simp) | exact EntC.of_eq rfl | (refine EntC.q rfl ?_;omega) | exact Z0 _ | exact Z2 _ | exact EntC.z0 (k:=0) | exact EntC.z1 (k:=0) | exact EntC.z2 (k:=0) | exact EntC.z0 | exact EntC.z1 | exact EntC.z2))));done)))))
 clear hst hx hy hz0 hzn st0 stn lt0 ltn h1
 intro m σ hI
 obtain ⟨i,cur,hm,hi1,hi0,hcur,hw⟩:=hI
 refine aw_wk hw ?_
 clear hw
 have hcl:cur.length=l.length+1:=by rw [hcur];simp
 by_cases hi:i<l.length
 ·have bi:=binLt (k:= .i64) (decide_eq_true (show (i:Int)<(l.length:Int) by omega))
  have hin:=binAdd (k:= .i64) (show (IntKind.i64).wrap ((i:Int)+1)=((i+1:Nat):Int) from IntWalk.i64_in _ (by omega))
  have hdn:=binSub (k:= .i64) (show (IntKind.i64).wrap ((i:Int)-1)=((i-1:Nat):Int) by rw [show ((i:Int)-1)=((i-1:Nat):Int) by omega];exact IntWalk.i64_in _ (by omega))
  have hx:l[((i:Nat):Int).toNat]?=some (cf l i):=getD_at hi
  have hy:l[((i-1:Nat):Int).toNat]?=some (cf l (i-1)):=getD_at (by omega)
  have F1:=r_frac (n:=(i:Int)) (d:=(l.length:Int)) (by
   rw [decide_eq_true (show-9223372036854775808≤(i:Int) by omega),decide_eq_true (show (i:Int)<9223372036854775808 by omega),decide_eq_true (show 1≤(l.length:Int) by omega),decide_eq_true (show (l.length:Int)<9223372036854775808 by omega)];rfl)
  have B1:=r_between (j:=j) (k:=j) (m:=2) (x:=cf l i) (y:=cf l (i-1)) (t:=((i:Int):Rat)/((l.length:Int):Rat)) (by omega) (by omega) (by omega)
  have he:cf l i+(cf l (i-1)-cf l i)*(((i:Int):Rat)/((l.length:Int):Rat))=liftR (cf l) l.length i:=by unfold liftR;rw [if_neg (by omega),if_neg (by omega)]
  have hz1:=hz i (by omega)
  have ht:=lifI_set (f:=cf l) hi1 hi rfl
  rw [←hcur,←he] at ht
  rw [←he] at hz1
  have lt1:(0:Int)≤((i:Nat):Int)∧((i:Nat):Int)<((l.length+1:Nat):Int):=by omega
  have st1:((i:Nat):Int).toNat*3+3≤(blkL (nmD J) cur).length:=by rw [blkL_len (n:=3) inferInstance,hcl,Int.toNat_natCast];omega
  clear he
  generalize ((i:Int):Rat)/((l.length:Int):Rat)=t at*
  generalize cf l i=x at*
  generalize cf l (i-1)=y at*
  repeat (first | refine aw_seq ?_ | refine aw_block ?_ | refine aw_condT rfl ?_ | refine aw_condF rfl ?_ | refine aw_pa ?_ | refine aw_da ?_ | refine aw_skip ?_ | refine aw_exit ?_)
  refine ⟨m-1,by omega,i+1,cur.set i (x+(y-x)*t),by omega,by omega,by omega,ht,?_⟩
  exact wk_a
 ·have bi:=binLt (k:= .i64) (decide_eq_false (show ¬(i:Int)<(l.length:Int) by omega))
  obtain rfl:i=l.length:=by omega
  rw [lifI_end] at hcur
  repeat (first | refine aw_seq ?_ | refine aw_block ?_ | refine aw_condT rfl ?_ | refine aw_condF rfl ?_ | refine aw_pa ?_ | refine aw_da ?_ | refine aw_skip ?_ | refine aw_exit ?_)
  refine aw_freeze 10 hD (ss:= [(2,.one (rats J cur))]) (bs:= []) ?_ ?_
  ·rw [←hcl]
   refine fk_mk ?_ ?_ rfl
   ·repeat (first | exact nil_all | (refine List.forall_mem_cons.2 ⟨?_,?_⟩;focus (first | exact fz_blk inferInstance | refine FzA.ent ?_;first | exact Ent.of_eq rfl | (refine Ent.one' rfl ?_;(first | exact EntC.ratsLe (by omega) | exact EntC.ratsNil | exact EntC.glNil | (refine EntC.int ?_;omega) | (refine EntC.glLen ?_;first | omega | simp) | exact EntC.of_eq rfl | (refine EntC.q rfl ?_;omega) | exact Z0 _ | exact Z2 _ | exact EntC.z0 (k:=0) | exact EntC.z1 (k:=0) | exact EntC.z2 (k:=0) | exact EntC.z0 | exact EntC.z1 | exact EntC.z2)) | (refine Ent.agg' rfl ?_;(repeat (first | exact EntL.nil' rfl | (refine EntL.cons' rfl ?_ ?_;focus (first | exact EntC.ratsLe (by omega) | exact EntC.ratsNil | exact EntC.glNil | (refine EntC.int ?_;omega) | (refine EntC.glLen ?_;first | omega | simp) | exact EntC.of_eq rfl | (refine EntC.q rfl ?_;omega) | exact Z0 _ | exact Z2 _ | exact EntC.z0 (k:=0) | exact EntC.z1 (k:=0) | exact EntC.z2 (k:=0) | exact EntC.z0 | exact EntC.z1 | exact EntC.z2))));done))))
   ·repeat (first | exact nil_all | (refine List.forall_mem_cons.2 ⟨?_,?_⟩;focus (first | exact blk_keep inferInstance | (refine blk_ok rfl ?_ rfl;focus ((repeat (first | exact EntL.nil' rfl | (refine EntL.cons' rfl ?_ ?_;focus (first | exact EntC.ratsLe (by omega) | exact EntC.ratsNil | exact EntC.glNil | (refine EntC.int ?_;omega) | (refine EntC.glLen ?_;first | omega | simp) | exact EntC.of_eq rfl | (refine EntC.q rfl ?_;omega) | exact Z0 _ | exact Z2 _ | exact EntC.z0 (k:=0) | exact EntC.z1 (k:=0) | exact EntC.z2 (k:=0) | exact EntC.z0 | exact EntC.z1 | exact EntC.z2))));done)))))
  subst hcur
  refine aw_ret (And.intro (Or.inr rfl) ?_)
  exact f_one
theorem t_elevate {j d n J:Nat} {l:List Rat} (hl:l.length=d+1) (hd:d≤n) (hn:n≤40) (hj:j≤J) (hJ:J≤1000000) (hz: ∀e,d+e≤40→ ∀k,k≤d+e→RSz J (liftN (cf l) d e k)):
  CtrG Tryz.prog Amb 26 [.one (rats j l),errV (n:Nat)] [] [(21,blkL (nmD J) (tab (n+1) (liftN (cf l) d (n-d))))] (.tup [.one (.gl 21 (n+1) 3),errV 0]):=by
 have e1:=binSub (k:= .i64) (show (IntKind.i64).wrap ((l.length:Int)-1)=(d:Int) by rw [show ((l.length:Int)-1)=(d:Int) by omega];exact IntWalk.i64_in _ (by omega))
 have e2:=binLt (k:= .i64) (decide_eq_false (show ¬(n:Int)<(d:Int) by omega))
 have e3:=binGt (k:= .i64) (decide_eq_false (show ¬(n:Int)>40 by omega))
 obtain ⟨R,hR⟩: ∃R,R=tab (n+1) (liftN (cf l) d (n-d)):=⟨_,rfl⟩
 rw [←hR]
 have h0:l=tab (d+0+1) (liftN (cf l) d 0):=by
  have:=tab_of (0:Rat) l
  rw [hl] at this
  exact this.symm
 have hRl:R.length=n+1:=by rw [hR];simp
 have hne':(!(blkL (nmD J) R).isEmpty)=true:=by
  have:=blkL_ne (f:=nmD J) inferInstance (by decide) (show 0<R.length by omega)
  cases hb:blkL (nmD J) R with
  | nil=>rw [hb] at this;cases this
  | cons a b=>rfl
 refine ctrG_body Tryz.func26 rfl rfl rfl rfl (by
  simp only [List.all_cons,List.all_nil,Bool.and_true,Bool.and_eq_true]
  exact ⟨by simp [inA,inC],blkL_in _ _,hne'⟩) (by simp [inA,inC]) (by simp) (by simp) ?_
 intro W0 base D μ0 hA hD
 repeat (first | refine aw_seq ?_ | refine aw_block ?_ | refine aw_condT rfl ?_ | refine aw_condF rfl ?_ | refine aw_pa ?_ | refine aw_da ?_ | refine aw_skip ?_ | refine aw_exit ?_)
 refine aw_loop (fun m σ=> ∃(e:Nat) (cur:List Rat),m=n-(d+e)∧d+e≤n∧cur=tab (d+e+1) (liftN (cf l) d e)∧Wk ⟨W0,base,D,24,[],μ0⟩ σ [(0,.one (rats J cur)),(1,errV (n:Nat))] []) (n:=n-d) ⟨0,l,by omega,by omega,h0,?_⟩ ?_
 ·exact wk_a
 clear h0 e1 e2
 intro m σ hI
 obtain ⟨e,cur,hm,he0,hcur,hw⟩:=hI
 refine aw_wk hw ?_
 clear hw
 have hcl:cur.length=d+e+1:=by rw [hcur];simp
 by_cases hi:d+e<n
 ·have bi:=binLe (k:= .i64) (decide_eq_true (show (cur.length:Int)≤(n:Int) by omega))
  have hcf: ∀q,q<d+e+1→cf cur q=liftN (cf l) d e q:=fun q hq=>by rw [hcur];exact tab_getD 0 hq
  have L1:=t_lift (j:=J) (n:=d+e+1) (J:=J) (l:=cur) hcl (by omega) (Nat.le_refl _) hJ (fun i hi'=>by
   rw [liftR_congr (by omega) hi' hcf]
   exact hz (e+1) (by omega) i (by omega))
  have e5:tab (d+e+1+1) (liftR (cf cur) (d+e+1))=tab (d+(e+1)+1) (liftN (cf l) d (e+1)):=by
   rw [show d+(e+1)+1=d+e+1+1 by omega]
   exact tab_congr fun i hi'=>liftR_congr (by omega) (by omega) hcf
  unfold ratT at L1
  rw [e5] at L1
  repeat (first | refine aw_seq ?_ | refine aw_block ?_ | refine aw_condT rfl ?_ | refine aw_condF rfl ?_ | refine aw_pa ?_ | refine aw_da ?_ | refine aw_skip ?_ | refine aw_exit ?_)
  refine ⟨m-1,by omega,e+1,_,by omega,by omega,rfl,?_⟩
  exact wk_a
 ·have bi:=binLe (k:= .i64) (decide_eq_false (show ¬(cur.length:Int)≤(n:Int) by omega))
  have he:cur=R:=by rw [hcur,hR,show d+e+1=n+1 by omega,show n-d=e by omega]
  subst he
  repeat (first | refine aw_seq ?_ | refine aw_block ?_ | refine aw_condT rfl ?_ | refine aw_condF rfl ?_ | refine aw_pa ?_ | refine aw_da ?_ | refine aw_skip ?_ | refine aw_exit ?_)
  refine aw_plainT 2 (by simp only [List.take_succ_cons,List.take_zero,List.drop_succ_cons,List.drop_zero];exact ⟨rfl,rfl⟩) (by kernel_rfl) ?_
  refine v_build0 (hl:=?_)
  refine v_move (hl:=?_)
  apply RunK.nil
  refine v_app (la:=([]:List Rat)) (f:=nmD J) (k:=21) (ss:= []) (bs:= []) (ns:=blkL (nmD J) cur) (hns:=blkL_ns inferInstance _ cur) hD ?_ ?_ ?_
  ·exact ⟨by simp;omega,by simp;omega⟩
  ·exact wk_a
  repeat (refine tl_run rfl ?_;refine v_assign (hl:=?_);apply RunK.nil)
  refine tl_nil ?_
  refine aw_wk (ss:= [(4,.one (.gl 21 cur.length 3)),(5,errV 0)]) (bs:= [(21,blkL (nmD J) cur)]) ?_ ?_
  ·refine wk_mk ?_ ?_ rfl
   ·repeat (first | exact nil_all | (refine List.forall_mem_cons.2 ⟨?_,?_⟩;focus (first | exact Ent.of_eq rfl | (refine Ent.one' rfl ?_;(first | exact EntC.ratsLe (by omega) | exact EntC.ratsNil | exact EntC.glNil | (refine EntC.int ?_;omega) | (refine EntC.glLen ?_;first | omega | simp) | (refine EntC.glLen ?_;simp) | exact EntC.of_eq rfl | (refine EntC.q rfl ?_;omega) | exact Z0 _ | exact Z2 _ | exact EntC.z0 (k:=0) | exact EntC.z1 (k:=0) | exact EntC.z2 (k:=0) | exact EntC.z0 | exact EntC.z1 | exact EntC.z2)) | (refine Ent.agg' rfl ?_;(repeat (first | exact EntL.nil' rfl | (refine EntL.cons' rfl ?_ ?_;focus (first | exact EntC.ratsLe (by omega) | exact EntC.ratsNil | exact EntC.glNil | (refine EntC.int ?_;omega) | (refine EntC.glLen ?_;first | omega | simp) | (refine EntC.glLen ?_;simp) | exact EntC.of_eq rfl | (refine EntC.q rfl ?_;omega) | exact Z0 _ | exact Z2 _ | exact EntC.z0 (k:=0) | exact EntC.z1 (k:=0) | exact EntC.z2 (k:=0) | exact EntC.z0 | exact EntC.z1 | exact EntC.z2))));done))))
   ·repeat (first | exact nil_all | (refine List.forall_mem_cons.2 ⟨?_,?_⟩;focus (first | exact blk_keep inferInstance | (exact blk_apps (la:= []) inferInstance) | (refine blk_ok rfl ?_ rfl;focus ((repeat (first | exact EntL.nil' rfl | (refine EntL.cons' rfl ?_ ?_;focus (first | exact EntC.ratsLe (by omega) | exact EntC.ratsNil | exact EntC.glNil | (refine EntC.int ?_;omega) | (refine EntC.glLen ?_;first | omega | simp) | (refine EntC.glLen ?_;simp) | exact EntC.of_eq rfl | (refine EntC.q rfl ?_;omega) | exact Z0 _ | exact Z2 _ | exact EntC.z0 (k:=0) | exact EntC.z1 (k:=0) | exact EntC.z2 (k:=0) | exact EntC.z0 | exact EntC.z1 | exact EntC.z2))));done)))))
  refine aw_ret (And.intro (Or.inr rfl) (f_twoN ?_ (hE:=by exact Ent.tup rfl (EntT.cons (Ent.one' rfl (EntC.glLen (by omega))) rfl rfl (EntT.cons (Ent.of_eq rfl) rfl rfl EntT.nil)))))
  exact List.forall_mem_cons.2 ⟨.inl (blk_keep inferInstance),nil_all⟩
theorem t_elevateF {j:Nat} {p:List Rat} {n:Int} (hp:0<p.length) (hp2:p.length≤1000) (h:n<(p.length:Int)-1∨n>40) (K:Nat):
  Ctr Tryz.prog Amb 26 [.one (rats j p),.one (.v (.int .i64 n))] (.tup [.one (rats K []),errV 7]):=by
 have e1:=binSub (k:= .i64) (show (IntKind.i64).wrap ((p.length:Int)-1)=(p.length:Int)-1 from IntWalk.i64_in _ (by omega))
 by_cases h1:n<(p.length:Int)-1
 ·have e2:=binLt (k:= .i64) (decide_eq_true h1)
  refine ctr_body Tryz.func26 rfl rfl rfl rfl rfl rfl ?_
  intro W0 base D μ0 hA hD
  repeat (first | refine aw_seq ?_ | refine aw_block ?_ | refine aw_condT rfl ?_ | refine aw_condF rfl ?_ | refine aw_pa ?_ | refine aw_da ?_ | refine aw_skip ?_ | refine aw_exit ?_)
  refine aw_ret (And.intro (Or.inr rfl) ?_)
  exact f_two (hE:=(Ent.tup rfl (EntT.cons (Ent.one' rfl EntC.ratsNil) rfl rfl (EntT.cons (Ent.of_eq rfl) rfl rfl EntT.nil))))
 ·have e2:=binLt (k:= .i64) (decide_eq_false h1)
  have e3:=binGt (k:= .i64) (decide_eq_true (show n>40 by omega))
  refine ctr_body Tryz.func26 rfl rfl rfl rfl rfl rfl ?_
  intro W0 base D μ0 hA hD
  repeat (first | refine aw_seq ?_ | refine aw_block ?_ | refine aw_condT rfl ?_ | refine aw_condF rfl ?_ | refine aw_pa ?_ | refine aw_da ?_ | refine aw_skip ?_ | refine aw_exit ?_)
  refine aw_ret (And.intro (Or.inr rfl) ?_)
  exact f_two (hE:=(Ent.tup rfl (EntT.cons (Ent.one' rfl EntC.ratsNil) rfl rfl (EntT.cons (Ent.of_eq rfl) rfl rfl EntT.nil))))
end Go.Proofs.YtdgjkohkmdpcdaaGreatDoor
namespace Go.Proofs.YtdgjkohkmdpcdaaGreatDoor
open Go.RowKit
set_option linter.unusedVariables false
set_option linter.unusedSimpArgs false
set_option maxRecDepth 20000
set_option maxHeartbeats 4000000
theorem s_pair1 {g:FuncId} [hG:Fun Tryz.prog g] {ja i:Nat} {l m:List Rat} {x y z:Rat} {J:Nat} (hx:l[((i:Nat):Int).toNat]?=some x) (hy:m[((i:Nat):Int).toNat]?=some y) (H:Ctr Tryz.prog Amb g [nm ja x,nm ja y] (nm J z)):
  CtrM Tryz.prog Amb 163 [errV (i:Nat),.one (.ptr 901 0),.one (.ptr 902 0),.one (.ptr 903 0)] [(901,[.fn g []],[.fn g []]),(902,[rats ja l],[rats ja l]),(903,[rats ja m],[rats ja m])] (nm J z):=by
 apply ctr_body Tryz.func163 rfl rfl rfl rfl rfl
 case hin=>simp [inA,inC]
 intro W0 base D μ0 hA hD
 repeat (first | refine aw_seq ?_ | refine aw_block ?_ | refine aw_condT rfl ?_ | refine aw_condF rfl ?_ | refine aw_pa ?_ | refine aw_da ?_ | refine aw_skip ?_ | refine aw_exit ?_)
 refine aw_ret (And.intro (Or.inr rfl) ?_)
 exact f_ro (hb:=by repeat (first | exact nil_all | refine List.forall_mem_cons.2 ⟨⟨rfl,rfl,rfl⟩,?_⟩))
def pairR (op:Rat→Rat→Rat) (f g:Nat→Rat) (d e:Nat) (i:Nat):Rat:=op (liftN f d (max d e-d) i) (liftN g e (max d e-e) i)
theorem s_pairwise {g:FuncId} [hG:Fun Tryz.prog g] {op:Rat→Rat→Rat} {j d e:Nat} {p q:List Rat} (hp:p.length=d+1) (hq:q.length=e+1) (hd:d≤40) (he:e≤40) (hj:j≤10000) (hr: ∀r∈p,RSz j r) (hr2: ∀r∈q,RSz j r)
  (H: ∀x y,Ctr Tryz.prog Amb g [nm 5000000 x,nm 5000000 y] (nm (5000000+5000000+3) (op x y))):
  Ctr Tryz.prog Amb 105 [.one (rats j p),.one (rats j q),.one (.fn g [])] (.one (ratT (5000000+5000000+3) (max d e+1) (pairR op (cf p) (cf q) d e))):=by
 obtain ⟨N,hN⟩: ∃N,N=max d e:=⟨_,rfl⟩
 obtain ⟨KK,hKK⟩: ∃KK,KK=5000000:=⟨_,rfl⟩
 obtain ⟨P,hP⟩: ∃P,P=tab (N+1) (liftN (cf p) d (N-d)):=⟨_,rfl⟩
 obtain ⟨Q,hQ⟩: ∃Q,Q=tab (N+1) (liftN (cf q) e (N-e)):=⟨_,rfl⟩
 have hPl:P.length=N+1:=by rw [hP];simp
 have hQl:Q.length=N+1:=by rw [hQ];simp
 have hpP:N=d→p=P:=fun h=>by
  subst h
  rw [hP,Nat.sub_self]
  have:=tab_of (0:Rat) p
  rw [hp] at this
  exact this.symm
 have hqQ:N=e→q=Q:=fun h=>by
  subst h
  rw [hQ,Nat.sub_self]
  have:=tab_of (0:Rat) q
  rw [hq] at this
  exact this.symm
 have B1:=b111 (g:=163) (n:=N) (J:=KK+KK+3) (h:=pairR op (cf p) (cf q) d e) (c0:= .fn g []) (c1:=rats KK P) (c2:=rats KK Q) rfl rfl rfl rfl rfl rfl (k1:=5) (k2:=3) (k3:=4) (by omega) (fun i hi=>by
  have h1:P[((i:Nat):Int).toNat]?=some (liftN (cf p) d (max d e-d) i):=by rw [hP,hN];exact tab_at (by omega)
  have h2:Q[((i:Nat):Int).toNat]?=some (liftN (cf q) e (max d e-e) i):=by rw [hQ,hN];exact tab_at (by omega)
  exact s_pair1 h1 h2 (by rw [hKK];exact H _ _)) (by decide)
 have E1:d<e→Ctr Tryz.prog Amb 25 [.one (rats j p),errV (e:Nat)] (.tup [.one (rats KK P),errV 0]):=fun h=>by
  have:=s_elevate (j:=j) (d:=d) (n:=e) (p:=p) hp (by omega) he hj hr
  have hNe:N=e:=by omega
  rw [hP,hNe,hKK]
  exact this
 have E2:e<d→Ctr Tryz.prog Amb 25 [.one (rats j q),errV (d:Nat)] (.tup [.one (rats KK Q),errV 0]):=fun h=>by
  have:=s_elevate (j:=j) (d:=e) (n:=d) (p:=q) hq (by omega) hd hj hr2
  have hNe:N=d:=by omega
  rw [hQ,hNe,hKK]
  exact this
 have hKj:j≤KK:=by omega
 rw [←hN,←hKK]
 unfold ratT at B1⊢
 obtain ⟨R,hR⟩: ∃R,R=tab (N+1) (pairR op (cf p) (cf q) d e):=⟨_,rfl⟩
 rw [←hR] at B1⊢
 have w1:=binSub (k:= .i64) (show (IntKind.i64).wrap ((p.length:Int)-1)=(d:Int) by rw [show ((p.length:Int)-1)=(d:Int) by omega];exact IntWalk.i64_in _ (by omega))
 have w2:=binSub (k:= .i64) (show (IntKind.i64).wrap ((q.length:Int)-1)=(e:Int) by rw [show ((q.length:Int)-1)=(e:Int) by omega];exact IntWalk.i64_in _ (by omega))
 have w3:=binSub (k:= .i64) (show (IntKind.i64).wrap ((P.length:Int)-1)=(N:Int) by rw [show ((P.length:Int)-1)=(N:Int) by omega];exact IntWalk.i64_in _ (by omega))
 have w4:=binNe (k:= .i64) (decide_eq_false (show ¬(P.length:Int)≠(Q.length:Int) by omega))
 clear hR hP hQ H hKK hr hr2
 rcases Nat.lt_trichotomy d e with hde | hde | hde
 ·have L1:=binLt (k:= .i64) (decide_eq_true (show (p.length:Int)<(q.length:Int) by omega))
  have X1:=E1 hde
  have hqQ:=hqQ (by omega)
  clear E1 E2 hpP
  subst hqQ
  have w5:=binNe (k:= .i64) (decide_eq_false (show ¬(P.length:Int)≠(q.length:Int) by omega))
  refine ctr_body Tryz.func105 rfl rfl rfl rfl rfl rfl ?_
  intro W0 base D μ0 hA hD
  repeat (first | refine aw_seq ?_ | refine aw_block ?_ | refine aw_condT rfl ?_ | refine aw_condF rfl ?_ | refine aw_pa ?_ | refine aw_da ?_ | refine aw_skip ?_ | refine aw_exit ?_)
  refine aw_wk (ss:= [(3,.one (.ptr 3 0)),(4,.one (.ptr 4 0)),(5,.one (.ptr 5 0))]) (bs:= [(3,[rats KK P]),(4,[rats KK q]),(5,[.fn g []])]) ?_ ?_
  ·exact wk_a
  repeat (first | refine aw_seq ?_ | refine aw_block ?_ | refine aw_condT rfl ?_ | refine aw_condF rfl ?_ | refine aw_pa ?_ | refine aw_da ?_ | refine aw_skip ?_ | refine aw_exit ?_)
  refine aw_ret (And.intro (Or.inr rfl) ?_)
  exact f_one
 ·have L1:=binLt (k:= .i64) (decide_eq_false (show ¬(p.length:Int)<(q.length:Int) by omega))
  have L2:=binGt (k:= .i64) (decide_eq_false (show ¬(p.length:Int)>(q.length:Int) by omega))
  have w5:=binNe (k:= .i64) (decide_eq_false (show ¬(p.length:Int)≠(q.length:Int) by omega))
  have hqQ:=hqQ (by omega)
  have hpP:=hpP (by omega)
  clear E1 E2
  subst hqQ
  subst hpP
  refine ctr_body Tryz.func105 rfl rfl rfl rfl rfl rfl ?_
  intro W0 base D μ0 hA hD
  repeat (first | refine aw_seq ?_ | refine aw_block ?_ | refine aw_condT rfl ?_ | refine aw_condF rfl ?_ | refine aw_pa ?_ | refine aw_da ?_ | refine aw_skip ?_ | refine aw_exit ?_)
  refine aw_wk (ss:= [(3,.one (.ptr 3 0)),(4,.one (.ptr 4 0)),(5,.one (.ptr 5 0))]) (bs:= [(3,[rats KK p]),(4,[rats KK q]),(5,[.fn g []])]) ?_ ?_
  ·exact wk_a
  repeat (first | refine aw_seq ?_ | refine aw_block ?_ | refine aw_condT rfl ?_ | refine aw_condF rfl ?_ | refine aw_pa ?_ | refine aw_da ?_ | refine aw_skip ?_ | refine aw_exit ?_)
  refine aw_ret (And.intro (Or.inr rfl) ?_)
  exact f_one
 ·have L1:=binLt (k:= .i64) (decide_eq_false (show ¬(p.length:Int)<(q.length:Int) by omega))
  have L2:=binGt (k:= .i64) (decide_eq_true (show (p.length:Int)>(q.length:Int) by omega))
  have X1:=E2 hde
  have hpP:=hpP (by omega)
  clear E1 E2 hqQ
  subst hpP
  have w5:=binNe (k:= .i64) (decide_eq_false (show ¬(p.length:Int)≠(Q.length:Int) by omega))
  refine ctr_body Tryz.func105 rfl rfl rfl rfl rfl rfl ?_
  intro W0 base D μ0 hA hD
  have hdN:d=N:=by omega
  rw [hdN] at X1
  clear w1
  repeat (first | refine aw_seq ?_ | refine aw_block ?_ | refine aw_condT rfl ?_ | refine aw_condF rfl ?_ | refine aw_pa ?_ | refine aw_da ?_ | refine aw_skip ?_ | refine aw_exit ?_)
  refine aw_wk (ss:= [(3,.one (.ptr 3 0)),(4,.one (.ptr 4 0)),(5,.one (.ptr 5 0))]) (bs:= [(3,[rats KK p]),(4,[rats KK Q]),(5,[.fn g []])]) ?_ ?_
  ·exact wk_a
  repeat (first | refine aw_seq ?_ | refine aw_block ?_ | refine aw_condT rfl ?_ | refine aw_condF rfl ?_ | refine aw_pa ?_ | refine aw_da ?_ | refine aw_skip ?_ | refine aw_exit ?_)
  refine aw_ret (And.intro (Or.inr rfl) ?_)
  exact f_one
theorem s_addB {j d e:Nat} {p q:List Rat} (hp:p.length=d+1) (hq:q.length=e+1) (hd:d≤40) (he:e≤40) (hj:j≤10000) (hr: ∀r∈p,RSz j r) (hr2: ∀r∈q,RSz j r):
  Ctr Tryz.prog Amb 29 [.one (rats j p),.one (rats j q)] (.one (ratT (5000000+5000000+3) (max d e+1) (pairR (· + ·) (cf p) (cf q) d e))):=by
 have P1:=s_pairwise (g:=101) (op:=(· + ·)) hp hq hd he hj hr hr2 (fun x y=>c_add (by omega) (by omega))
 refine ctr_body Tryz.func29 rfl rfl rfl rfl rfl rfl ?_
 intro W0 base D μ0 hA hD
 repeat (first | refine aw_seq ?_ | refine aw_block ?_ | refine aw_condT rfl ?_ | refine aw_condF rfl ?_ | refine aw_pa ?_ | refine aw_da ?_ | refine aw_skip ?_ | refine aw_exit ?_)
 refine aw_ret (And.intro (Or.inr rfl) ?_)
 exact f_one
theorem s_subB {j d e:Nat} {p q:List Rat} (hp:p.length=d+1) (hq:q.length=e+1) (hd:d≤40) (he:e≤40) (hj:j≤10000) (hr: ∀r∈p,RSz j r) (hr2: ∀r∈q,RSz j r):
  Ctr Tryz.prog Amb 31 [.one (rats j p),.one (rats j q)] (.one (ratT (5000000+5000000+3) (max d e+1) (pairR (· - ·) (cf p) (cf q) d e))):=by
 have P1:=s_pairwise (g:=92) (op:=(· - ·)) hp hq hd he hj hr hr2 (fun x y=>c_sub (by omega) (by omega))
 refine ctr_body Tryz.func31 rfl rfl rfl rfl rfl rfl ?_
 intro W0 base D μ0 hA hD
 repeat (first | refine aw_seq ?_ | refine aw_block ?_ | refine aw_condT rfl ?_ | refine aw_condF rfl ?_ | refine aw_pa ?_ | refine aw_da ?_ | refine aw_skip ?_ | refine aw_exit ?_)
 refine aw_ret (And.intro (Or.inr rfl) ?_)
 exact f_one
theorem s_scale1 {js ja i:Nat} {l:List Rat} {s x:Rat} (hx:l[((i:Nat):Int).toNat]?=some x) (h1:js≤10000000) (h2:ja≤10000000):
  CtrM Tryz.prog Amb 106 [errV (i:Nat),.one (.ptr 901 0),.one (.ptr 902 0)] [(901,nmC js s,nmC js s),(902,[rats ja l],[rats ja l])] (nm (js+ja+2) (s*x)):=by
 have M1:=c_mul (j:=js) (k:=ja) (x:=s) (y:=x) (by omega) (by omega)
 apply ctr_body Tryz.func106 rfl rfl rfl rfl rfl
 case hin=>simp [inA,inC]
 intro W0 base D μ0 hA hD
 repeat (first | refine aw_seq ?_ | refine aw_block ?_ | refine aw_condT rfl ?_ | refine aw_condF rfl ?_ | refine aw_pa ?_ | refine aw_da ?_ | refine aw_skip ?_ | refine aw_exit ?_)
 refine aw_ret (And.intro (Or.inr rfl) ?_)
 exact f_ro (hb:=by repeat (first | exact nil_all | refine List.forall_mem_cons.2 ⟨⟨rfl,rfl,rfl⟩,?_⟩))
theorem s_scaleB {js j d:Nat} {p:List Rat} {s:Rat} (hp:p.length=d+1) (hd:d≤1000) (h1:js≤10000000) (h2:j≤10000000):
  Ctr Tryz.prog Amb 33 [nm js s,.one (rats j p)] (.one (ratT (js+j+2) (d+1) fun i=>s*cf p i)):=by
 have B1:=b31 (g:=106) (n:=d) (J:=js+j+2) (h:=fun i=>s*cf p i) (c0:= .q s js 0) (c1:= .q s js 1) (c2:= .q s js 2) (c3:=rats j p) rfl rfl rfl rfl rfl rfl rfl rfl (k1:=2) (k2:=3) hd (fun i hi=>s_scale1 (getD_at (by omega)) h1 h2) (by decide)
 have w1:=binSub (k:= .i64) (show (IntKind.i64).wrap ((p.length:Int)-1)=(d:Int) by rw [show ((p.length:Int)-1)=(d:Int) by omega];exact IntWalk.i64_in _ (by omega))
 unfold ratT at B1⊢
 generalize (tab (d+1) fun i=>s*cf p i)=R at*
 refine ctr_body Tryz.func33 rfl rfl rfl rfl rfl rfl ?_
 intro W0 base D μ0 hA hD
 repeat (first | refine aw_seq ?_ | refine aw_block ?_ | refine aw_condT rfl ?_ | refine aw_condF rfl ?_ | refine aw_pa ?_ | refine aw_da ?_ | refine aw_skip ?_ | refine aw_exit ?_)
 refine aw_ret (And.intro (Or.inr rfl) ?_)
 exact f_one
theorem s_diff1 {js ja i:Nat} {l:List Rat} {s x y:Rat} (hi:i≤1000) (hx:l[((i+1:Nat):Int).toNat]?=some x) (hy:l[((i:Nat):Int).toNat]?=some y) (h1:js≤10000000) (h2:ja≤10000000):
  CtrM Tryz.prog Amb 107 [errV (i:Nat),.one (.ptr 901 0),.one (.ptr 902 0)] [(901,nmC js s,nmC js s),(902,[rats ja l],[rats ja l])] (nm (js+(ja+ja+3)+2) (s*(x-y))):=by
 have D1:=c_sub (j:=ja) (k:=ja) (x:=x) (y:=y) (by omega) (by omega)
 have M1:=c_mul (j:=js) (k:=ja+ja+3) (x:=s) (y:=x-y) (by omega) (by omega)
 have hin:=binAdd (k:= .i64) (show (IntKind.i64).wrap ((i:Int)+1)=((i+1:Nat):Int) from IntWalk.i64_in _ (by omega))
 apply ctr_body Tryz.func107 rfl rfl rfl rfl rfl
 case hin=>simp [inA,inC]
 intro W0 base D μ0 hA hD
 repeat (first | refine aw_seq ?_ | refine aw_block ?_ | refine aw_condT rfl ?_ | refine aw_condF rfl ?_ | refine aw_pa ?_ | refine aw_da ?_ | refine aw_skip ?_ | refine aw_exit ?_)
 refine aw_ret (And.intro (Or.inr rfl) ?_)
 exact f_ro (hb:=by repeat (first | exact nil_all | refine List.forall_mem_cons.2 ⟨⟨rfl,rfl,rfl⟩,?_⟩))
def difL (f:Nat→Rat) (d:Nat):List Rat:=if d=0 then [0] else tab d fun i=>((d:Int):Rat)*(f (i+1)-f i)
theorem s_diffB {j d:Nat} {p:List Rat} (hp:p.length=d+1) (hd:d≤1000) (h2:j≤1000000):
  Ctr Tryz.prog Amb 35 [.one (rats j p)] (.one (rats (2+(j+j+3)+2) (difL (cf p) d))):=by
 have w1:=binSub (k:= .i64) (show (IntKind.i64).wrap ((p.length:Int)-1)=(d:Int) by rw [show ((p.length:Int)-1)=(d:Int) by omega];exact IntWalk.i64_in _ (by omega))
 unfold difL
 by_cases h0:d=0
 ·rw [if_pos h0]
  subst h0
  have w2:=binLt (k:= .i64) (decide_eq_true (show ((0:Nat):Int)<1 by omega))
  refine ctr_body Tryz.func35 rfl rfl rfl rfl rfl rfl ?_
  intro W0 base D μ0 hA hD
  repeat (first | refine aw_seq ?_ | refine aw_block ?_ | refine aw_condT rfl ?_ | refine aw_condF rfl ?_ | refine aw_pa ?_ | refine aw_da ?_ | refine aw_skip ?_ | refine aw_exit ?_)
  refine aw_wk (ss:= [(2,.one (.gl 12 p.length 3))]) (bs:= [(12,blkL (nmD (2+(j+j+3)+2)) (List.replicate p.length 0))]) ?_ ?_
  ·exact wk_a
  rw [hp]
  refine aw_freeze 12 hD (ss:= [(2,.one (rats (2+(j+j+3)+2) [0]))]) (bs:= []) ?_ ?_
  ·exact fk_mk (List.forall_mem_cons.2 ⟨fz_blk (f:=nmD (2+(j+j+3)+2)) (l:= [(0:Rat)]) inferInstance,nil_all⟩) nil_all rfl
  refine aw_ret (And.intro (Or.inr rfl) ?_)
  exact f_one
 ·rw [if_neg h0]
  obtain ⟨c,rfl⟩: ∃c,d=c+1:=⟨d-1,by omega⟩
  have w2:=binLt (k:= .i64) (decide_eq_false (show ¬((c+1:Nat):Int)<1 by omega))
  have w3:=binSub (k:= .i64) (show (IntKind.i64).wrap (((c+1:Nat):Int)-1)=(c:Int) by rw [show (((c+1:Nat):Int)-1)=(c:Int) by omega];exact IntWalk.i64_in _ (by omega))
  have I1:=c_int (n:=((c+1:Nat):Int)) (by rw [decide_eq_true (show-9223372036854775808≤((c+1:Nat):Int) by omega),decide_eq_true (show ((c+1:Nat):Int)<9223372036854775808 by omega)];rfl)
  have B1:=b31 (g:=107) (n:=c) (J:=2+(j+j+3)+2) (h:=fun i=>(((c+1:Nat):Int):Rat)*(cf p (i+1)-cf p i)) (c0:= .q (((c+1:Nat):Int):Rat) 2 0) (c1:= .q (((c+1:Nat):Int):Rat) 2 1) (c2:= .q (((c+1:Nat):Int):Rat) 2 2) (c3:=rats j p) rfl rfl rfl rfl rfl rfl rfl rfl (k1:=4) (k2:=1) (by omega) (fun i hi=>s_diff1 (by omega) (getD_at (by omega)) (getD_at (by omega)) (by omega) (by omega)) (by decide)
  unfold ratT at B1
  generalize (((c+1:Nat):Int):Rat)=s at*
  generalize (tab (c+1) fun i=>s*(cf p (i+1)-cf p i))=R at*
  refine ctr_body Tryz.func35 rfl rfl rfl rfl rfl rfl ?_
  intro W0 base D μ0 hA hD
  repeat (first | refine aw_seq ?_ | refine aw_block ?_ | refine aw_condT rfl ?_ | refine aw_condF rfl ?_ | refine aw_pa ?_ | refine aw_da ?_ | refine aw_skip ?_ | refine aw_exit ?_)
  refine aw_ret (And.intro (Or.inr rfl) ?_)
  exact f_one
end Go.Proofs.YtdgjkohkmdpcdaaGreatDoor
