/-
  Several texts in one: Zr, Zs.
-/
import Derived.Test.YtnkobfcnflphkaaGreatDoorHu
namespace Go.Proofs.YtnkobfcnflphkaaGreatDoor
open Go.RowKit
set_option linter.unusedVariables false
set_option linter.unusedSimpArgs false
set_option maxRecDepth 20000
set_option maxHeartbeats 4000000
theorem s_elev1 {i:Nat} :Ctr Tryz.prog Amb 136 [errV (i:Nat)] (nm 2 oneR):=by
 have I1:=c_int (n:=1) rfl
 refine ctr_body Tryz.func136 rfl rfl rfl rfl rfl rfl ?_
 intro W0 base D μ0 hA hD
 repeat (first | refine aw_seq ?_ | refine aw_block ?_ | refine aw_condT rfl ?_ | refine aw_condF rfl ?_ | refine aw_pa ?_ | refine aw_da ?_ | refine aw_skip ?_ | refine aw_exit ?_)
 refine aw_ret (And.intro (Or.inr rfl) ?_)
 exact f_one
theorem mul_ones {f g:Nat→Rat} {d e k:Nat} (hg: ∀i,i≤e→g i=oneR) (hk:k≤d+e):mulQ f g d e k=liftN f d e k:=by
 unfold mulQ
 have h1:convR (wgt d f) (wgt e g) e (d+1) k=binQ (d+e) k*liftN f d e k:=by
  rw [lift_ones f d e k hk,←ones_conv]
  exact convR_congr (fun q _=>rfl) (fun q hq=>by
   unfold wgt
   rw [hg q hq]
   have:oneR=1:=rfl
   rw [this,Rat.mul_one])
 rw [h1]
 exact mul_div_self (binQ_ne hk)
theorem s_elevate {j d n:Nat} {p:List Rat} (hp:p.length=d+1) (hd:d≤n) (hn:n≤40) (hj:j≤10000) (hr: ∀r∈p,RSz j r):
  Ctr Tryz.prog Amb 55 [.one (rats j p),errV (n:Nat)] (.tup [.one (rats 5000000 (tab (n+1) (liftN (cf p) d (n-d)))),errV 0]):=by
 have B0:=b0 (g:=136) (n:=n-d) (J:=2) (h:=fun _=>oneR) (by omega) (fun i _=>s_elev1)
 have h1:RSz 2 oneR:=rsz_cast 1 (by decide) (by decide)
 have M1:=s_mulB (j:=j) (k:=2) (m:=d) (n:=n-d) (p:=p) (q:=tab (n-d+1) fun _=>oneR) hp tab_len (by omega) hj (by decide) hr (fun r hr=>by
  obtain ⟨i,_,rfl⟩:=List.mem_map.1 hr
  exact h1)
 have e:tab (d+(n-d)+1) (mulQ (cf p) (cf (tab (n-d+1) fun _=>oneR)) d (n-d))=tab (n+1) (liftN (cf p) d (n-d)):=by
  rw [show d+(n-d)+1=n+1 by omega]
  exact tab_congr fun k hk=>mul_ones (fun i hi=>tab_getD 0 (by omega)) (by omega)
 rw [e] at M1
 have e1:=binSub (k:= .i64) (show (IntKind.i64).wrap ((p.length:Int)-1)=(d:Int) by rw [show ((p.length:Int)-1)=(d:Int) by omega];exact IntWalk.i64_in _ (by omega))
 have e2:=binLt (k:= .i64) (decide_eq_false (show ¬(n:Int)<(d:Int) by omega))
 have e3:=binGt (k:= .i64) (decide_eq_false (show ¬(n:Int)>40 by omega))
 have e4:=binSub (k:= .i64) (show (IntKind.i64).wrap ((n:Int)-(d:Int))=((n-d:Nat):Int) by rw [show ((n:Int)-(d:Int))=((n-d:Nat):Int) by omega];exact IntWalk.i64_in _ (by omega))
 unfold ratT at B0
 generalize (tab (n-d+1) fun _=>oneR)=q at*
 generalize tab (n+1) (liftN (cf p) d (n-d))=R at*
 refine ctr_body Tryz.func55 rfl rfl rfl rfl rfl rfl ?_
 intro W0 base D μ0 hA hD
 repeat (first | refine aw_seq ?_ | refine aw_block ?_ | refine aw_condT rfl ?_ | refine aw_condF rfl ?_ | refine aw_pa ?_ | refine aw_da ?_ | refine aw_skip ?_ | refine aw_exit ?_)
 refine aw_ret (And.intro (Or.inr rfl) ?_)
 exact f_two
theorem IB.add {D B C:Nat} {x y:Rat} (h:IB D B x) (k:IB D C y):IB D (B+C) (x+y):=by
 obtain ⟨z,h1,h2⟩:=h
 obtain ⟨w,k1,k2⟩:=k
 refine ⟨z+w,by rw [Rat.intCast_add,←h1,←k1];grind,Nat.le_trans (Int.natAbs_add_le _ _) (by omega)⟩
theorem IB.mul {D E B C:Nat} {x y:Rat} (h:IB D B x) (k:IB E C y):IB (D*E) (B*C) (x*y):=by
 obtain ⟨z,h1,h2⟩:=h
 obtain ⟨w,k1,k2⟩:=k
 refine ⟨z*w,by rw [Int.natCast_mul,Rat.intCast_mul,Rat.intCast_mul,←h1,←k1];grind,by rw [Int.natAbs_mul];exact Nat.mul_le_mul h2 k2⟩
theorem IB.zero {D B:Nat} :IB D B 0:=⟨0,by rw [Rat.zero_mul];rfl,Nat.zero_le _⟩
theorem conv_ib {a b:Nat→Rat} {D B m n:Nat} (ha: ∀i j,i≤m→j≤n→IB D B (a i*b j)): ∀i k,i≤m+1→IB D (i*B) (convR a b n i k)
 | 0,_,_=>IB.zero
 | i+1,k,h=>by
   rw [Nat.succ_mul]
   refine IB.add (conv_ib ha i k (by omega)) ?_
   split
   ·rename_i hh;exact ha i (k-i) (by omega) (by omega)
   ·exact IB.zero
theorem wgt_ib {j n:Nat} {l:List Rat} (hl:l.length=n+1) (hn:n≤40) (hr: ∀r∈l,RSz j r): ∃M B:Nat,0<M∧Sz (2+(n+1)*j) M∧Sz (4+(n+1)*j+j) B∧ ∀i,i≤n→IB M B (wgt n (cf l) i):=by
 obtain ⟨M,B,h1,h2,h3,h4⟩:=list_ib hl hr
 refine ⟨M,2199023255552*B,h1,h2,(Sz.mul (j:=2) (m:=2199023255552) (length_toL_le _ _ (by decide)) h3).mono (by omega),fun i hi=>?_⟩
 have h5:IB 1 2199023255552 (binQ n i):=⟨bin n i,by
  have:(((1:Nat):Int):Rat)=1:=rfl
  rw [this,Rat.mul_one],by have:=bin_small (n:=n) (k:=i) (by omega);simpa using this⟩
 have h6:=h5.mul (h4 i hi)
 rw [Nat.one_mul] at h6
 exact h6
theorem lift_rsz {j d e:Nat} {l:List Rat} (hl:l.length=d+1) (hn:d+e≤40) (hr: ∀r∈l,RSz j r): ∀k,k≤d+e→RSz (10+(d+1)*j+j) (liftN (cf l) d e k):=by
 obtain ⟨M,B,h1,h2,h3,h4⟩:=wgt_ib hl (by omega) hr
 intro k hk
 have hb: ∀i q,i≤d→q≤e→IB M (B*2199023255552) (wgt d (cf l) i*binQ e q):=fun i q hi hq=>by
  have h5:IB 1 2199023255552 (binQ e q):=⟨bin e q,by
   have:(((1:Nat):Int):Rat)=1:=rfl
   rw [this,Rat.mul_one],by have:=bin_small (n:=e) (k:=q) (by omega);simpa using this⟩
  have h6:=(h4 i hi).mul h5
  rw [Nat.mul_one] at h6
  exact h6
 have hc:=conv_ib hb (d+1) k (Nat.le_refl _)
 rw [ones_conv] at hc
 have he:=lift_ones (cf l) d e k hk
 have e2:liftN (cf l) d e k=onesR (wgt d (cf l)) e (d+1) k/binQ (d+e) k:=by
  show _=onesR (fun i=>binQ d i*cf l i) e (d+1) k/binQ (d+e) k
  rw [←he];exact (mul_div_self (binQ_ne hk)).symm
 rw [e2]
 have s1:Sz (8+(d+1)*j+j) ((d+1)*(B*2199023255552)):=(Sz.mul (j:=1) (m:=d+1) (length_toL_le _ _ (by omega)) (Sz.mul (k:=2) (n:=2199023255552) h3 (length_toL_le _ _ (by decide)))).mono (by omega)
 exact (rsz_div (hc.rsz h1 (h2.mono (by omega)) s1) (binQ_rsz (by omega)) (binQ_ne hk)).mono (by omega)
theorem liftR_congr {f g:Nat→Rat} {n i:Nat} (hn:0<n) (hi:i≤n) (h: ∀q,q<n→f q=g q):liftR f n i=liftR g n i:=by
 unfold liftR
 by_cases h0:i=0
 ·rw [if_pos h0,if_pos h0,h 0 hn]
 ·rw [if_neg h0,if_neg h0]
  by_cases h1:i=n
  ·rw [if_pos h1,if_pos h1,h (n-1) (by omega)]
  ·rw [if_neg h1,if_neg h1,h i (by omega),h (i-1) (by omega)]
end Go.Proofs.YtnkobfcnflphkaaGreatDoor
namespace Go.Proofs.YtnkobfcnflphkaaGreatDoor
open Go.RowKit
set_option linter.unusedVariables false
set_option linter.unusedSimpArgs false
set_option maxRecDepth 20000
set_option maxHeartbeats 4000000
theorem s_pair1 {g:FuncId} [hG:Fun Tryz.prog g] {ja i:Nat} {l m:List Rat} {x y z:Rat} {J:Nat} (hx:l[((i:Nat):Int).toNat]?=some x) (hy:m[((i:Nat):Int).toNat]?=some y) (H:Ctr Tryz.prog Amb g [nm ja x,nm ja y] (nm J z)):
  CtrM Tryz.prog Amb 165 [errV (i:Nat),.one (.ptr 901 0),.one (.ptr 902 0),.one (.ptr 903 0)] [(901,[.fn g []],[.fn g []]),(902,[rats ja l],[rats ja l]),(903,[rats ja m],[rats ja m])] (nm J z):=by
 apply ctr_body Tryz.func165 rfl rfl rfl rfl rfl
 case hin=>simp [inA,inC]
 intro W0 base D μ0 hA hD
 repeat (first | refine aw_seq ?_ | refine aw_block ?_ | refine aw_condT rfl ?_ | refine aw_condF rfl ?_ | refine aw_pa ?_ | refine aw_da ?_ | refine aw_skip ?_ | refine aw_exit ?_)
 refine aw_ret (And.intro (Or.inr rfl) ?_)
 exact f_ro (hb:=by repeat (first | exact nil_all | refine List.forall_mem_cons.2 ⟨⟨rfl,rfl,rfl⟩,?_⟩))
def pairR (op:Rat→Rat→Rat) (f g:Nat→Rat) (d e:Nat) (i:Nat):Rat:=op (liftN f d (max d e-d) i) (liftN g e (max d e-e) i)
theorem s_pairwise {g:FuncId} [hG:Fun Tryz.prog g] {op:Rat→Rat→Rat} {j d e:Nat} {p q:List Rat} (hp:p.length=d+1) (hq:q.length=e+1) (hd:d≤40) (he:e≤40) (hj:j≤10000) (hr: ∀r∈p,RSz j r) (hr2: ∀r∈q,RSz j r)
  (H: ∀x y,Ctr Tryz.prog Amb g [nm 5000000 x,nm 5000000 y] (nm (5000000+5000000+3) (op x y))):
  Ctr Tryz.prog Amb 133 [.one (rats j p),.one (rats j q),.one (.fn g [])] (.one (ratT (5000000+5000000+3) (max d e+1) (pairR op (cf p) (cf q) d e))):=by
 obtain ⟨N,hN⟩: ∃N,N=max d e:=⟨_,rfl⟩
 obtain ⟨KK,hKK⟩: ∃KK,KK=5000000:=⟨_,rfl⟩
 obtain ⟨P,hP⟩: ∃P,P=tab (N+1) (liftN (cf p) d (N-d)):=⟨_,rfl⟩
 obtain ⟨Q,hQ⟩: ∃Q,Q=tab (N+1) (liftN (cf q) e (N-e)):=⟨_,rfl⟩
 have hPl:P.length=N+1:=by rw [hP];simp
 have hQl:Q.length=N+1:=by rw [hQ];simp
 have hpP:N=d→p=P:=fun h=>by
  subst h
  rw [hP,Nat.sub_self]
  have:=tab_of (0:Rat) p
  rw [hp] at this
  exact this.symm
 have hqQ:N=e→q=Q:=fun h=>by
  subst h
  rw [hQ,Nat.sub_self]
  have:=tab_of (0:Rat) q
  rw [hq] at this
  exact this.symm
 have B1:=b111 (g:=165) (n:=N) (J:=KK+KK+3) (h:=pairR op (cf p) (cf q) d e) (c0:= .fn g []) (c1:=rats KK P) (c2:=rats KK Q) rfl rfl rfl rfl rfl rfl (k1:=5) (k2:=3) (k3:=4) (by omega) (fun i hi=>by
  have h1:P[((i:Nat):Int).toNat]?=some (liftN (cf p) d (max d e-d) i):=by rw [hP,hN];exact tab_at (by omega)
  have h2:Q[((i:Nat):Int).toNat]?=some (liftN (cf q) e (max d e-e) i):=by rw [hQ,hN];exact tab_at (by omega)
  exact s_pair1 h1 h2 (by rw [hKK];exact H _ _)) (by decide)
 have E1:d<e→Ctr Tryz.prog Amb 55 [.one (rats j p),errV (e:Nat)] (.tup [.one (rats KK P),errV 0]):=fun h=>by
  have:=s_elevate (j:=j) (d:=d) (n:=e) (p:=p) hp (by omega) he hj hr
  have hNe:N=e:=by omega
  rw [hP,hNe,hKK]
  exact this
 have E2:e<d→Ctr Tryz.prog Amb 55 [.one (rats j q),errV (d:Nat)] (.tup [.one (rats KK Q),errV 0]):=fun h=>by
  have:=s_elevate (j:=j) (d:=e) (n:=d) (p:=q) hq (by omega) hd hj hr2
  have hNe:N=d:=by omega
  rw [hQ,hNe,hKK]
  exact this
 have hKj:j≤KK:=by omega
 rw [←hN,←hKK]
 unfold ratT at B1⊢
 obtain ⟨R,hR⟩: ∃R,R=tab (N+1) (pairR op (cf p) (cf q) d e):=⟨_,rfl⟩
 rw [←hR] at B1⊢
 have w1:=binSub (k:= .i64) (show (IntKind.i64).wrap ((p.length:Int)-1)=(d:Int) by rw [show ((p.length:Int)-1)=(d:Int) by omega];exact IntWalk.i64_in _ (by omega))
 have w2:=binSub (k:= .i64) (show (IntKind.i64).wrap ((q.length:Int)-1)=(e:Int) by rw [show ((q.length:Int)-1)=(e:Int) by omega];exact IntWalk.i64_in _ (by omega))
 have w3:=binSub (k:= .i64) (show (IntKind.i64).wrap ((P.length:Int)-1)=(N:Int) by rw [show ((P.length:Int)-1)=(N:Int) by omega];exact IntWalk.i64_in _ (by omega))
 have w4:=binNe (k:= .i64) (decide_eq_false (show ¬(P.length:Int)≠(Q.length:Int) by omega))
 clear hR hP hQ H hKK hr hr2
 rcases Nat.lt_trichotomy d e with hde | hde | hde
 ·have L1:=binLt (k:= .i64) (decide_eq_true (show (p.length:Int)<(q.length:Int) by omega))
  have X1:=E1 hde
  have hqQ:=hqQ (by omega)
  clear E1 E2 hpP
  subst hqQ
  have w5:=binNe (k:= .i64) (decide_eq_false (show ¬(P.length:Int)≠(q.length:Int) by omega))
  refine ctr_body Tryz.func133 rfl rfl rfl rfl rfl rfl ?_
  intro W0 base D μ0 hA hD
  repeat (first | refine aw_seq ?_ | refine aw_block ?_ | refine aw_condT rfl ?_ | refine aw_condF rfl ?_ | refine aw_pa ?_ | refine aw_da ?_ | refine aw_skip ?_ | refine aw_exit ?_)
  refine aw_wk (ss:= [(3,.one (.ptr 3 0)),(4,.one (.ptr 4 0)),(5,.one (.ptr 5 0))]) (bs:= [(3,[rats KK P]),(4,[rats KK q]),(5,[.fn g []])]) ?_ ?_
  ·exact wk_a
  repeat (first | refine aw_seq ?_ | refine aw_block ?_ | refine aw_condT rfl ?_ | refine aw_condF rfl ?_ | refine aw_pa ?_ | refine aw_da ?_ | refine aw_skip ?_ | refine aw_exit ?_)
  refine aw_ret (And.intro (Or.inr rfl) ?_)
  exact f_one
 ·have L1:=binLt (k:= .i64) (decide_eq_false (show ¬(p.length:Int)<(q.length:Int) by omega))
  have L2:=binGt (k:= .i64) (decide_eq_false (show ¬(p.length:Int)>(q.length:Int) by omega))
  have w5:=binNe (k:= .i64) (decide_eq_false (show ¬(p.length:Int)≠(q.length:Int) by omega))
  have hqQ:=hqQ (by omega)
  have hpP:=hpP (by omega)
  clear E1 E2
  subst hqQ
  subst hpP
  refine ctr_body Tryz.func133 rfl rfl rfl rfl rfl rfl ?_
  intro W0 base D μ0 hA hD
  repeat (first | refine aw_seq ?_ | refine aw_block ?_ | refine aw_condT rfl ?_ | refine aw_condF rfl ?_ | refine aw_pa ?_ | refine aw_da ?_ | refine aw_skip ?_ | refine aw_exit ?_)
  refine aw_wk (ss:= [(3,.one (.ptr 3 0)),(4,.one (.ptr 4 0)),(5,.one (.ptr 5 0))]) (bs:= [(3,[rats KK p]),(4,[rats KK q]),(5,[.fn g []])]) ?_ ?_
  ·exact wk_a
  repeat (first | refine aw_seq ?_ | refine aw_block ?_ | refine aw_condT rfl ?_ | refine aw_condF rfl ?_ | refine aw_pa ?_ | refine aw_da ?_ | refine aw_skip ?_ | refine aw_exit ?_)
  refine aw_ret (And.intro (Or.inr rfl) ?_)
  exact f_one
 ·have L1:=binLt (k:= .i64) (decide_eq_false (show ¬(p.length:Int)<(q.length:Int) by omega))
  have L2:=binGt (k:= .i64) (decide_eq_true (show (p.length:Int)>(q.length:Int) by omega))
  have X1:=E2 hde
  have hpP:=hpP (by omega)
  clear E1 E2 hqQ
  subst hpP
  have w5:=binNe (k:= .i64) (decide_eq_false (show ¬(p.length:Int)≠(Q.length:Int) by omega))
  refine ctr_body Tryz.func133 rfl rfl rfl rfl rfl rfl ?_
  intro W0 base D μ0 hA hD
  have hdN:d=N:=by omega
  rw [hdN] at X1
  clear w1
  repeat (first | refine aw_seq ?_ | refine aw_block ?_ | refine aw_condT rfl ?_ | refine aw_condF rfl ?_ | refine aw_pa ?_ | refine aw_da ?_ | refine aw_skip ?_ | refine aw_exit ?_)
  refine aw_wk (ss:= [(3,.one (.ptr 3 0)),(4,.one (.ptr 4 0)),(5,.one (.ptr 5 0))]) (bs:= [(3,[rats KK p]),(4,[rats KK Q]),(5,[.fn g []])]) ?_ ?_
  ·exact wk_a
  repeat (first | refine aw_seq ?_ | refine aw_block ?_ | refine aw_condT rfl ?_ | refine aw_condF rfl ?_ | refine aw_pa ?_ | refine aw_da ?_ | refine aw_skip ?_ | refine aw_exit ?_)
  refine aw_ret (And.intro (Or.inr rfl) ?_)
  exact f_one
theorem s_addB {j d e:Nat} {p q:List Rat} (hp:p.length=d+1) (hq:q.length=e+1) (hd:d≤40) (he:e≤40) (hj:j≤10000) (hr: ∀r∈p,RSz j r) (hr2: ∀r∈q,RSz j r):
  Ctr Tryz.prog Amb 52 [.one (rats j p),.one (rats j q)] (.one (ratT (5000000+5000000+3) (max d e+1) (pairR (· + ·) (cf p) (cf q) d e))):=by
 have P1:=s_pairwise (g:=104) (op:=(· + ·)) hp hq hd he hj hr hr2 (fun x y=>c_add (by omega) (by omega))
 refine ctr_body Tryz.func52 rfl rfl rfl rfl rfl rfl ?_
 intro W0 base D μ0 hA hD
 repeat (first | refine aw_seq ?_ | refine aw_block ?_ | refine aw_condT rfl ?_ | refine aw_condF rfl ?_ | refine aw_pa ?_ | refine aw_da ?_ | refine aw_skip ?_ | refine aw_exit ?_)
 refine aw_ret (And.intro (Or.inr rfl) ?_)
 exact f_one
theorem s_subB {j d e:Nat} {p q:List Rat} (hp:p.length=d+1) (hq:q.length=e+1) (hd:d≤40) (he:e≤40) (hj:j≤10000) (hr: ∀r∈p,RSz j r) (hr2: ∀r∈q,RSz j r):
  Ctr Tryz.prog Amb 111 [.one (rats j p),.one (rats j q)] (.one (ratT (5000000+5000000+3) (max d e+1) (pairR (· - ·) (cf p) (cf q) d e))):=by
 have P1:=s_pairwise (g:=88) (op:=(· - ·)) hp hq hd he hj hr hr2 (fun x y=>c_sub (by omega) (by omega))
 refine ctr_body Tryz.func111 rfl rfl rfl rfl rfl rfl ?_
 intro W0 base D μ0 hA hD
 repeat (first | refine aw_seq ?_ | refine aw_block ?_ | refine aw_condT rfl ?_ | refine aw_condF rfl ?_ | refine aw_pa ?_ | refine aw_da ?_ | refine aw_skip ?_ | refine aw_exit ?_)
 refine aw_ret (And.intro (Or.inr rfl) ?_)
 exact f_one
theorem s_diff1 {js ja i:Nat} {l:List Rat} {s x y:Rat} (hi:i≤1000) (hx:l[((i+1:Nat):Int).toNat]?=some x) (hy:l[((i:Nat):Int).toNat]?=some y) (h1:js≤10000000) (h2:ja≤10000000):
  CtrM Tryz.prog Amb 124 [errV (i:Nat),.one (.ptr 901 0),.one (.ptr 902 0)] [(901,nmC js s,nmC js s),(902,[rats ja l],[rats ja l])] (nm (js+(ja+ja+3)+2) (s*(x-y))):=by
 have D1:=c_sub (j:=ja) (k:=ja) (x:=x) (y:=y) (by omega) (by omega)
 have M1:=c_mul (j:=js) (k:=ja+ja+3) (x:=s) (y:=x-y) (by omega) (by omega)
 have hin:=binAdd (k:= .i64) (show (IntKind.i64).wrap ((i:Int)+1)=((i+1:Nat):Int) from IntWalk.i64_in _ (by omega))
 apply ctr_body Tryz.func124 rfl rfl rfl rfl rfl
 case hin=>simp [inA,inC]
 intro W0 base D μ0 hA hD
 repeat (first | refine aw_seq ?_ | refine aw_block ?_ | refine aw_condT rfl ?_ | refine aw_condF rfl ?_ | refine aw_pa ?_ | refine aw_da ?_ | refine aw_skip ?_ | refine aw_exit ?_)
 refine aw_ret (And.intro (Or.inr rfl) ?_)
 exact f_ro (hb:=by repeat (first | exact nil_all | refine List.forall_mem_cons.2 ⟨⟨rfl,rfl,rfl⟩,?_⟩))
def difL (f:Nat→Rat) (d:Nat):List Rat:=if d=0 then [0] else tab d fun i=>((d:Int):Rat)*(f (i+1)-f i)
theorem s_diffB {j d:Nat} {p:List Rat} (hp:p.length=d+1) (hd:d≤1000) (h2:j≤1000000):
  Ctr Tryz.prog Amb 48 [.one (rats j p)] (.one (rats (2+(j+j+3)+2) (difL (cf p) d))):=by
 have w1:=binSub (k:= .i64) (show (IntKind.i64).wrap ((p.length:Int)-1)=(d:Int) by rw [show ((p.length:Int)-1)=(d:Int) by omega];exact IntWalk.i64_in _ (by omega))
 unfold difL
 by_cases h0:d=0
 ·rw [if_pos h0]
  subst h0
  have w2:=binLt (k:= .i64) (decide_eq_true (show ((0:Nat):Int)<1 by omega))
  refine ctr_body Tryz.func48 rfl rfl rfl rfl rfl rfl ?_
  intro W0 base D μ0 hA hD
  repeat (first | refine aw_seq ?_ | refine aw_block ?_ | refine aw_condT rfl ?_ | refine aw_condF rfl ?_ | refine aw_pa ?_ | refine aw_da ?_ | refine aw_skip ?_ | refine aw_exit ?_)
  refine aw_wk (ss:= [(2,.one (.gl 12 p.length 3))]) (bs:= [(12,blkL (nmD (2+(j+j+3)+2)) (List.replicate p.length 0))]) ?_ ?_
  ·exact wk_a
  rw [hp]
  refine aw_freeze 12 hD (ss:= [(2,.one (rats (2+(j+j+3)+2) [0]))]) (bs:= []) ?_ ?_
  ·exact fk_mk (List.forall_mem_cons.2 ⟨fz_blk (f:=nmD (2+(j+j+3)+2)) (l:= [(0:Rat)]) inferInstance,nil_all⟩) nil_all rfl
  refine aw_ret (And.intro (Or.inr rfl) ?_)
  exact f_one
 ·rw [if_neg h0]
  obtain ⟨c,rfl⟩: ∃c,d=c+1:=⟨d-1,by omega⟩
  have w2:=binLt (k:= .i64) (decide_eq_false (show ¬((c+1:Nat):Int)<1 by omega))
  have w3:=binSub (k:= .i64) (show (IntKind.i64).wrap (((c+1:Nat):Int)-1)=(c:Int) by rw [show (((c+1:Nat):Int)-1)=(c:Int) by omega];exact IntWalk.i64_in _ (by omega))
  have I1:=c_int (n:=((c+1:Nat):Int)) (by rw [decide_eq_true (show-9223372036854775808≤((c+1:Nat):Int) by omega),decide_eq_true (show ((c+1:Nat):Int)<9223372036854775808 by omega)];rfl)
  have B1:=b31 (g:=124) (n:=c) (J:=2+(j+j+3)+2) (h:=fun i=>(((c+1:Nat):Int):Rat)*(cf p (i+1)-cf p i)) (c0:= .q (((c+1:Nat):Int):Rat) 2 0) (c1:= .q (((c+1:Nat):Int):Rat) 2 1) (c2:= .q (((c+1:Nat):Int):Rat) 2 2) (c3:=rats j p) rfl rfl rfl rfl rfl rfl rfl rfl (k1:=4) (k2:=1) (by omega) (fun i hi=>s_diff1 (by omega) (getD_at (by omega)) (getD_at (by omega)) (by omega) (by omega)) (by decide)
  unfold ratT at B1
  generalize (((c+1:Nat):Int):Rat)=s at*
  generalize (tab (c+1) fun i=>s*(cf p (i+1)-cf p i))=R at*
  refine ctr_body Tryz.func48 rfl rfl rfl rfl rfl rfl ?_
  intro W0 base D μ0 hA hD
  repeat (first | refine aw_seq ?_ | refine aw_block ?_ | refine aw_condT rfl ?_ | refine aw_condF rfl ?_ | refine aw_pa ?_ | refine aw_da ?_ | refine aw_skip ?_ | refine aw_exit ?_)
  refine aw_ret (And.intro (Or.inr rfl) ?_)
  exact f_one
end Go.Proofs.YtnkobfcnflphkaaGreatDoor
