/-
  BernsteinHull, by contracts.
-/
import Derived.Test.YtnkobfcnflphkaaGreatDoorHr
import Derived.Test.YtnkobfcnflphkaaGreatDoorLawBT
namespace Go.Proofs.YtnkobfcnflphkaaGreatDoor
open Go.RowKit
set_option linter.unusedVariables false
set_option linter.unusedSimpArgs false
set_option maxRecDepth 20000
set_option maxHeartbeats 8000000
theorem Btw.swap {x m y:Rat} (h:Btw x m y):Btw y m x:=by
 rcases h with h | h | h
 ·exact .inl h
 ·exact .inr (.inr h)
 ·exact .inr (.inl h)
theorem share_bd {i n:Nat} (hi:i≤n) (hn:0<n):0≤ntQ i/ntQ n∧ntQ i/ntQ n≤1:=by
 have h1:(0:Rat)<ntQ n:=by
  have:((0:Int):Rat)<ntQ n:=Rat.intCast_lt_intCast.2 (by omega)
  exact this
 have h2:(0:Rat)≤ntQ i:=by
  have:((0:Int):Rat)≤ntQ i:=Rat.intCast_le_intCast.2 (by omega)
  exact this
 have h3:ntQ i≤ntQ n:=Rat.intCast_le_intCast.2 (by omega)
 have h4:ntQ i/ntQ n*ntQ n=ntQ i:=by
  have:ntQ n≠0:=by grind
  grind
 have h5:ntQ n/ntQ n=1:=by
  have:ntQ n≠0:=by grind
  grind
 constructor
 ·rw [Rat.div_def]
  have h6:0≤(ntQ n)⁻¹:=by
   rcases Std.lt_trichotomy (a:=(0:Rat)) (b:=(ntQ n)⁻¹) with h | h | h
   ·grind
   ·grind
   ·have h7:=Rat.mul_pos (show 0< -(ntQ n)⁻¹ by grind) h1
    have h8:(ntQ n)⁻¹*ntQ n=1:=by
     have:ntQ n≠0:=by grind
     grind
    grind
  exact Rat.mul_nonneg h2 h6
 ·rcases Std.lt_trichotomy (a:=ntQ i/ntQ n) (b:=(1:Rat)) with h | h | h
  ·grind
  ·grind
  ·have h7:=Rat.mul_pos (show 0<ntQ i/ntQ n-1 by grind) h1
   grind
theorem liftR_mix {f:Nat→Rat} {n i:Nat} (h0:0<i) (hi:i<n):liftR f n i=(1-ntQ i/ntQ n)*f i+ntQ i/ntQ n*f (i-1):=by
 unfold liftR
 rw [if_neg (by omega),if_neg (by omega)]
 generalize ntQ i/ntQ n=s
 grind
theorem lift_var {f:Nat→Rat} {m:Nat} :varR 0 (tab (m+1+1) (liftR f (m+1)))≤varR 0 (tab (m+1) f):=by
 have C:=cut_tab (m:=m) (g:=f) (h:=fun i=>liftR f (m+1) (i+1)) fun i hi=>by
  rw [liftR_mix (by omega) (by omega),Nat.add_sub_cancel]
  obtain ⟨h1,h2⟩:=share_bd (i:=i+1) (n:=m+1) (by omega) (by omega)
  exact (btw_mix h1 h2).swap
 have h:=varR_cut C [] 0 (.inr (.inl rfl))
 rw [List.append_nil,List.append_nil] at h
 rw [tab_cons (m:=m) (g:=f)]
 refine Nat.le_trans (Nat.le_of_eq ?_) h
 congr 1
 rw [tab_cons]
 congr 1
 ·rw [←tab_succ]
  congr 1
  show [liftR f (m+1) (m+1)]=_
  congr 1
  unfold liftR
  rw [if_neg (by omega),if_pos rfl,Nat.add_sub_cancel]
theorem liftN_var {f:Nat→Rat} {N:Nat} : ∀d,varR 0 (tab (N+d+1) (liftN f N d))≤varR 0 (tab (N+1) f)
 | 0=>Nat.le_refl _
 | d+1=>Nat.le_trans (lift_var (f:=liftN f N d) (m:=N+d)) (liftN_var d)
theorem lift_between {lo hi:Rat} {f:Nat→Rat} {n:Nat} (hn:0<n) (hf: ∀i,i<n→lo≤f i∧f i≤hi) {i:Nat} (hi':i≤n):lo≤liftR f n i∧liftR f n i≤hi:=by
 by_cases h0:i=0
 ·subst h0
  have:liftR f n 0=f 0:=if_pos rfl
  rw [this];exact hf 0 hn
 by_cases h1:i=n
 ·subst h1
  have:liftR f i i=f (i-1):=by unfold liftR;rw [if_neg h0,if_pos rfl]
  rw [this];exact hf (i-1) (by omega)
 rw [liftR_mix (by omega) (by omega)]
 obtain ⟨h2,h3⟩:=share_bd (i:=i) (n:=n) (by omega) hn
 have a:=hf i (by omega)
 have b:=hf (i-1) (by omega)
 generalize ntQ i/ntQ n=t at*
 generalize f i=x at*
 generalize f (i-1)=y at*
 have hd:0≤1-t:=by grind
 have e1:=Rat.mul_nonneg hd (show 0≤x-lo by grind)
 have e2:=Rat.mul_nonneg h2 (show 0≤y-lo by grind)
 have e3:=Rat.mul_nonneg hd (show 0≤hi-x by grind)
 have e4:=Rat.mul_nonneg h2 (show 0≤hi-y by grind)
 have g1:(1-t)*x+t*y-lo=(1-t)*(x-lo)+t*(y-lo):=by grind
 have g2:hi-((1-t)*x+t*y)=(1-t)*(hi-x)+t*(hi-y):=by grind
 generalize (1-t)*x+t*y=z at*
 generalize (1-t)*(x-lo)=p1 at*
 generalize t*(y-lo)=p2 at*
 generalize (1-t)*(hi-x)=p3 at*
 generalize t*(hi-y)=p4 at*
 constructor<;>grind
theorem liftN_between {lo hi:Rat} {f:Nat→Rat} {N:Nat} (hf: ∀i,i≤N→lo≤f i∧f i≤hi): ∀d i,i≤N+d→lo≤liftN f N d i∧liftN f N d i≤hi
 | 0,i,h=>hf i (by omega)
 | d+1,i,h=>lift_between (by omega) (fun q hq=>liftN_between hf d q (by omega)) (by omega)
theorem bounds_any {j:Nat} {l:List Rat} (h0:0<l.length) (hl:l.length≤100000) (hj:j≤1000000) (hr: ∀r∈l,RSz j r): ∃lo hi,Ctr Tryz.prog Amb 28 [.one (rats j l)] (sp (j+j+1) lo (j+j+1) hi)∧(∀r∈l,lo≤r∧r≤hi)∧lo∈l∧hi∈l:=by
 cases l with
 | nil=>cases h0
 | cons x t=>
   refine ⟨mnA x t,mxA x t,s_boundsB (by rw [List.length_cons] at hl;omega) hj hr,fun r hr'=>?_,mnA_mem,mxA_mem⟩
   rcases List.mem_cons.1 hr' with rfl | h
   ·exact ⟨mnA_le (.inl Rat.le_refl),le_mxA (.inl Rat.le_refl)⟩
   ·exact ⟨mnA_le (.inr ⟨r,h,Rat.le_refl⟩),le_mxA (.inr ⟨r,h,Rat.le_refl⟩)⟩
theorem inside_any {j1 j2 j3 j4:Nat} {a b lo hi:Rat} (ha:lo≤a∧a≤hi) (hb:lo≤b∧b≤hi) (h1:j1≤1000000) (h2:j2≤1000000) (h3:j3≤1000000) (h4:j4≤1000000):Ctr Tryz.prog Amb 57 [sp j1 a j2 b,sp j3 lo j4 hi] (.one (.v (.bool true))):=
 t_inside (p:=true) (q:=true) (r:=true) (s:=true) (decide_eq_true (cmp_le0.2 ha.1)) (decide_eq_true (cmp_le0.2 ha.2)) (decide_eq_true (cmp_le0.2 hb.1)) (decide_eq_true (cmp_le0.2 hb.2)) h1 h2 h3 h4
theorem partR_rsz (n:Int):RSz 2 (partR n):=by
 obtain ⟨h1,h2⟩:=partD_bd n
 have h3:=Int.emod_nonneg n (b:=partD n+1) (by omega)
 have h4:=Int.emod_lt_of_pos n (b:=partD n+1) (by omega)
 unfold partR
 generalize partD n=d at*
 generalize n % (d+1)=a at*
 have hn:RSz 1 (a:Rat):=⟨by rw [Rat.num_intCast];exact length_toL_le _ _ (by omega),by rw [Rat.den_intCast];exact length_toL_le _ _ (by decide)⟩
 have hd:RSz 1 (d:Rat):=⟨by rw [Rat.num_intCast];exact length_toL_le _ _ (by omega),by rw [Rat.den_intCast];exact length_toL_le _ _ (by decide)⟩
 refine rsz_div hn hd fun h0=>?_
 have h5:(d:Rat)=((0:Int):Rat):=h0
 have:=Rat.intCast_inj.1 h5
 omega
namespace bhull
theorem law {l:List Int} {i n:Int} (hb: ∀x∈l,-9223372036854775808≤x∧x<9223372036854775808) (hi1: -9223372036854775808≤i) (hi2:i<9223372036854775808) (hn1: -9223372036854775808≤n) (hn2:n<9223372036854775808):
  Ctr Tryz.prog Amb 7 [.one (.ints l),.one (.v (.int .i64 i)),.one (.v (.int .i64 n))] (.one (.v (.bool true))):=by
 by_cases hL:(l.length:Int)≤500
 ·have hl:l.length≤1000000:=by omega
  have D1:=evals.light' (decide_eq_true hL)
  have P1:=d_poly (k:=20) (n:=0) (deg:=8) hb hl (Nat.zero_le _) (by decide)
  obtain ⟨hp1,hp2⟩:=polS_len l 8 0
  have hpr:=polS_rsz l 8 0
  generalize (polS l 8 0).1=p at*
  generalize (polS l 8 0).2=ps at*
  have R1:=d_part hi1 hi2
  have ht:=partR_rsz i
  obtain ⟨ht0,ht1⟩:=partR_bd i
  generalize partR i=t at*
  replace ht1:t≤1:=by grind
  have D2:=d_mod hn1 hn2 (m:=8) (by decide) (by decide)
  obtain ⟨m,hm,hm8⟩: ∃m:Nat,n % 8=(m:Int)∧m<8:=⟨(n % 8).toNat,by omega,by omega⟩
  rw [hm] at D2
  clear hm
  obtain ⟨d,hd⟩: ∃d,p.length=d+1:=⟨p.length-1,by omega⟩
  have hpt:p=tab (d+1) (cf p):=by
   have:=tab_of (0:Rat) p
   rw [hd] at this
   exact this.symm
  obtain ⟨J,hJ⟩: ∃J,J=(d+1)*2+2+d*(2+2)+10:=⟨_,rfl⟩
  have hJ2:J≤62:=by omega
  have S1:=s_split (j:=2) (jt:=2) (n:=d) (J:=J) (l:=p) (t:=t) hd (by omega) (by decide) (by decide) hpr ht hJ
  have hcs:=t_cas_sz (J:=J+J+2) hd hpr ht (by omega)
  have hls: ∀r∈tab (d+1) (lowR t (cf p)),RSz (J+J+2) r:=tab_all fun k hk=>hcs k 0 (by omega)
  have hus: ∀r∈tab (d+1) (uppR t (cf p) d),RSz (J+J+2) r:=tab_all fun k hk=>hcs (d-k) k (by omega)
  have E1:=(s_eval (j:=2) (jt:=2) (n:=d) (J:=2000000) (l:=p) (t:=t) hd (by omega) (by decide) (by decide) hpr ht rfl).nmTo (k:=J+J+2) (y:=lowR t (cf p) d) (hcs d 0 (by omega)) rfl
  have X1:=s_elevate (j:=2) (d:=d) (n:=d+m) hd (by omega) (by omega) (by decide) hpr
  rw [Nat.add_sub_cancel_left] at X1
  have hlr: ∀r∈tab (d+m+1) (liftN (cf p) d m),RSz 30 r:=tab_all fun k hk=>(lift_rsz (e:=m) hd (by omega) hpr k (by omega)).mono (by omega)
  obtain ⟨lo,hi,B1,hb1,_,_⟩:=bounds_any (j:=2) (l:=p) (by omega) (by omega) (by decide) hpr
  have hbc: ∀k,k≤d→lo≤cf p k∧cf p k≤hi:=fun k hk=>hb1 _ (by
   unfold cf
   rw [List.getD_eq_getElem?_getD,List.getElem?_eq_getElem (show k<p.length by omega)];exact List.getElem_mem _)
  have hcb:=cas_between ht0 ht1 hbc
  obtain ⟨lo2,hi2',B2,_,hm2,hm3⟩:=bounds_any (j:=J+J+2) (l:=tab (d+1) (lowR t (cf p))) (by rw [tab_len];omega) (by rw [tab_len];omega) (by omega) hls
  obtain ⟨lo3,hi3,B3,_,hm4,hm5⟩:=bounds_any (j:=J+J+2) (l:=tab (d+1) (uppR t (cf p) d)) (by rw [tab_len];omega) (by rw [tab_len];omega) (by omega) hus
  obtain ⟨lo4,hi4,B4,_,hm6,hm7⟩:=bounds_any (j:=30) (l:=tab (d+m+1) (liftN (cf p) d m)) (by rw [tab_len];omega) (by rw [tab_len];omega) (by decide) hlr
  replace B4:=B4.short1 (j:=5000000) hlr
  have hin1: ∀r∈tab (d+1) (lowR t (cf p)),lo≤r∧r≤hi:=tab_all fun k hk=>hcb k 0 (by omega)
  have hin2: ∀r∈tab (d+1) (uppR t (cf p) d),lo≤r∧r≤hi:=tab_all fun k hk=>hcb (d-k) k (by omega)
  have hin3: ∀r∈tab (d+m+1) (liftN (cf p) d m),lo≤r∧r≤hi:=tab_all fun k hk=>liftN_between hbc m k (by omega)
  have H1:=t_has (p:=true) (q:=true) (j1:=2+2+1) (j2:=2+2+1) (j3:=J+J+2) (a:=lo) (b:=hi) (x:=lowR t (cf p) d) (decide_eq_true (cmp_le0.2 (hcb d 0 (by omega)).1)) (decide_eq_true (cmp_le0.2 (hcb d 0 (by omega)).2)) (by decide) (by decide) (by omega)
  have I1:=inside_any (j1:=J+J+2+(J+J+2)+1) (j2:=J+J+2+(J+J+2)+1) (j3:=2+2+1) (j4:=2+2+1) (hin1 _ hm2) (hin1 _ hm3) (by omega) (by omega) (by decide) (by decide)
  have I2:=inside_any (j1:=J+J+2+(J+J+2)+1) (j2:=J+J+2+(J+J+2)+1) (j3:=2+2+1) (j4:=2+2+1) (hin2 _ hm4) (hin2 _ hm5) (by omega) (by omega) (by decide) (by decide)
  have I3:=inside_any (j1:=30+30+1) (j2:=30+30+1) (j3:=2+2+1) (j4:=2+2+1) (hin3 _ hm6) (hin3 _ hm7) (by decide) (by decide) (by decide) (by decide)
  have S2:=(s_sameB (j:=30) (d:=d) (e:=d+m) (p:=p) (q:=tab (d+m+1) (liftN (cf p) d m)) hd tab_len (by omega) (by omega) (by decide) (fun r hr=>(hpr r hr).mono (by decide)) hlr).short2 (j:=2) (i:=5000000) (fun r hr=>(hpr r hr).mono (by decide)) hlr
  have hst:samB p (tab (d+m+1) (liftN (cf p) d m)) d (d+m)=true:=samB_true fun k hk=>by
   have hmx:max d (d+m)=d+m:=by omega
   rw [hmx] at hk
   rw [hmx,Nat.add_sub_cancel_left,Nat.sub_self]
   exact (cf_tab (by omega)).symm
  rw [hst] at S2
  have V1:=s_variations (j:=2) (l:=p) (by omega)
  have V2:=s_variations (j:=5000000) (l:=tab (d+m+1) (liftN (cf p) d m)) (by rw [tab_len];omega)
  have V3:=s_variations (j:=J+J+2) (l:=tab (d+1) (lowR t (cf p))) (by rw [tab_len];omega)
  have V4:=s_variations (j:=J+J+2) (l:=tab (d+1) (uppR t (cf p) d)) (by rw [tab_len];omega)
  have hv1:varR 0 (tab (d+m+1) (liftN (cf p) d m))≤varR 0 p:=by
   have:=liftN_var (f:=cf p) (N:=d) m
   rwa [←hpt] at this
  have hv2:varR 0 (tab (d+1) (lowR t (cf p)))+varR 0 (tab (d+1) (uppR t (cf p) d))≤varR 0 p:=by
   have:=split_var (f:=cf p) (n:=d) ht0 ht1
   rwa [←hpt] at this
  have hvp:=varR_le p 0
  have hx:(tab (d+1) (lowR t (cf p)))[((d:Nat):Int).toNat]?=some (lowR t (cf p) d):=tab_at (by omega)
  have hy:(tab (d+1) (uppR t (cf p) d))[((0:Nat):Int).toNat]?=some (lowR t (cf p) d):=tab_at (g:=uppR t (cf p) d) (by omega)
  have hal:(tab (d+1) (lowR t (cf p))).length=d+1:=tab_len
  have hbl:(tab (d+1) (uppR t (cf p) d)).length=d+1:=tab_len
  unfold ratT at S1
  clear hst hin1 hin2 hin3 hm2 hm3 hm4 hm5 hm6 hm7 hcb hbc hb1 hlr hls hus hcs hpt hpr ht ht0 ht1 hJ
  generalize tab (d+1) (lowR t (cf p))=A at*
  generalize tab (d+1) (uppR t (cf p) d)=B at*
  generalize tab (d+m+1) (liftN (cf p) d m)=Q at*
  generalize lowR t (cf p) d=x at*
  generalize varR 0 p=vp at*
  generalize varR 0 Q=vq at*
  generalize varR 0 A=va at*
  generalize varR 0 B=vb at*
  have T1:=same_t (j:=J+J+2) (k:=J+J+2) (x:=x)
  have w1:=binSub (k:= .i64) (show (IntKind.i64).wrap ((p.length:Int)-1)=(d:Int) by rw [show ((p.length:Int)-1)=(d:Int) by omega];exact IntWalk.i64_in _ (by omega))
  have w2:=binAdd (k:= .i64) (show (IntKind.i64).wrap ((d:Int)+(m:Int))=((d+m:Nat):Int) from IntWalk.i64_in _ (by omega))
  have w3:=binNe (k:= .i64) (decide_eq_false (show ¬(A.length:Int)≠(p.length:Int) by omega))
  have w4:=binNe (k:= .i64) (decide_eq_false (show ¬(B.length:Int)≠(p.length:Int) by omega))
  have w5:=binSub (k:= .i64) (show (IntKind.i64).wrap ((A.length:Int)-1)=(d:Int) by rw [show ((A.length:Int)-1)=(d:Int) by omega];exact IntWalk.i64_in _ (by omega))
  have w6:=binLe (k:= .i64) (decide_eq_true (show (vq:Int)≤(vp:Int) by omega))
  have w7:=binAdd (k:= .i64) (show (IntKind.i64).wrap ((va:Int)+(vb:Int))=((va+vb:Nat):Int) from IntWalk.i64_in _ (by omega))
  have w8:=binLe (k:= .i64) (decide_eq_true (show ((va+vb:Nat):Int)≤(vp:Int) by omega))
  refine ctr_body Tryz.func7 rfl rfl rfl rfl rfl rfl ?_
  intro W0 base D μ0 hA hD
  have:=d_roll l
  have:=awake5
  repeat (first | refine aw_seq ?_ | refine aw_block ?_ | refine aw_condT rfl ?_ | refine aw_condF rfl ?_ | refine aw_pa ?_ | refine aw_da ?_ | refine aw_skip ?_ | refine aw_exit ?_)
  refine aw_ret (And.intro (Or.inr rfl) ?_)
  exact f_one
 ·have D1:=evals.light' (decide_eq_false hL)
  refine ctr_body Tryz.func7 rfl rfl rfl rfl rfl rfl ?_
  intro W0 base D μ0 hA hD
  have:=awake5
  repeat (first | refine aw_seq ?_ | refine aw_block ?_ | refine aw_condT rfl ?_ | refine aw_condF rfl ?_ | refine aw_pa ?_ | refine aw_da ?_ | refine aw_skip ?_ | refine aw_exit ?_)
  refine aw_ret (And.intro (Or.inr rfl) ?_)
  exact f_one
end bhull
end Go.Proofs.YtnkobfcnflphkaaGreatDoor
