/-
  BernsteinValues, by contracts.
-/
import Derived.Test.YtnkobfcnflphkaaGreatDoorHr
import Derived.Test.YtnkobfcnflphkaaGreatDoorLawBT
namespace Go.Proofs.YtnkobfcnflphkaaGreatDoor
open Go.RowKit
set_option linter.unusedVariables false
set_option linter.unusedSimpArgs false
set_option maxRecDepth 20000
set_option maxHeartbeats 8000000
theorem hor_rsz {jt jc n:Nat} {t:Rat} {c:Nat→Rat} (ht:RSz jt t) (hc: ∀q,q≤n→RSz jc (c q)): ∀k,RSz (k*(jt+jc+1)+1) (horR t c n k)
 | 0=>(IZ.zero (b:=1)).rsz (Nat.le_refl 1) |>.mono (by omega)
 | k+1=>(((hor_rsz ht hc k).mul ht).add (hc (n-k) (by omega))).mono (by rw [Nat.succ_mul];omega)
theorem difL_congr {f g:Nat→Rat} {d:Nat} (h: ∀q,q≤d→f q=g q):difL f d=difL g d:=by
 unfold difL
 by_cases h0:d=0
 ·rw [if_pos h0,if_pos h0]
 ·rw [if_neg h0,if_neg h0]
  exact tab_congr fun i hi=>by rw [h (i+1) (by omega),h i (by omega)]
namespace bvals
theorem law {l:List Int} {i j:Int} (hb: ∀x∈l,-9223372036854775808≤x∧x<9223372036854775808) (hi1: -9223372036854775808≤i) (hi2:i<9223372036854775808) (hj1: -9223372036854775808≤j) (hj2:j<9223372036854775808):
  Ctr Tryz.prog Amb 6 [.one (.ints l),.one (.v (.int .i64 i)),.one (.v (.int .i64 j))] (.one (.v (.bool true))):=by
 by_cases hL:(l.length:Int)≤500
 ·have hl:l.length≤1000000:=by omega
  have D1:=evals.light' (decide_eq_true hL)
  have P1:=d_poly (k:=28) (n:=0) (deg:=6) hb hl (Nat.zero_le _) (by decide)
  have hps:=polS_bd l 6 0 (Nat.zero_le _)
  obtain ⟨hp1,hp2⟩:=polS_len l 6 0
  have hpr:=polS_rsz l 6 0
  generalize (polS l 6 0).1=p at*
  generalize (polS l 6 0).2=ps at*
  have P2:=d_poly (k:=28) (n:=ps) (deg:=6) hb hl hps (by decide)
  obtain ⟨hq1,hq2⟩:=polS_len l 6 ps
  have hqr:=polS_rsz l 6 ps
  generalize (polS l 6 ps).1=q at*
  generalize (polS l 6 ps).2=qs at*
  have R1:=d_rat hi1 hi2 hj1 hj2
  have R2:=d_rat hj1 hj2 hi1 hi2
  have ht:=ratM_rsz i j
  have hu:=ratM_rsz j i
  generalize ratM i j=t at*
  generalize ratM j i=u at*
  obtain ⟨d,hd⟩: ∃d,p.length=d+1:=⟨p.length-1,by omega⟩
  obtain ⟨e,he⟩: ∃e,q.length=e+1:=⟨q.length-1,by omega⟩
  have hpc: ∀k,k≤d→RSz 2 (cf p k):=fun k hk=>cf_rsz hpr (by omega)
  have hqc: ∀k,k≤e→RSz 2 (cf q k):=fun k hk=>cf_rsz hqr (by omega)
  have E1:=s_eval (j:=2) (jt:=2) (n:=d) (J:=2000000) (l:=p) (t:=t) hd (by omega) (by decide) (by decide) hpr ht rfl
  have E2:=s_eval (j:=2) (jt:=2) (n:=e) (J:=2000000) (l:=q) (t:=t) he (by omega) (by decide) (by decide) hqr ht rfl
  have M1:=s_mulB (j:=2) (k:=2) hd he (by omega) (by decide) (by decide) hpr hqr
  have hde:(d+1)*9≤7*9:=Nat.mul_le_mul (by omega) (Nat.le_refl _)
  have hmr: ∀r∈tab (d+e+1) (mulQ (cf p) (cf q) d e),RSz 100 r:=tab_all fun k hk=>(mulQ_rsz hpc hqc (by omega) (by omega) (by omega) (by omega)).mono (by omega)
  have F1:=s_diffB (j:=2) hd (by omega) (by decide)
  have F2:=s_diffB (j:=2) he (by omega) (by decide)
  have hf1:=difL_rsz (d:=d) (by omega) hpc
  have hf2:=difL_rsz (d:=e) (by omega) hqc
  have hl1:=difL_len (cf p) d
  have hl2:=difL_len (cf q) e
  have M2:=s_mulB (j:=2+(2+2+3)+2) (k:=2) hl1 he (by omega) (by decide) (by decide) (fun r hr=>(hf1 r hr).mono (by decide)) hqr
  have M3:=s_mulB (j:=2) (k:=2+(2+2+3)+2) hd hl2 (by omega) (by decide) (by decide) hpr (fun r hr=>(hf2 r hr).mono (by decide))
  have hu1: ∀r∈tab (d-1+e+1) (mulQ (cf (difL (cf p) d)) (cf q) (d-1) e),RSz 200 r:=tab_all fun k hk=>(mulQ_rsz (j:=7) (k:=2) (fun q hq=>cf_rsz hf1 (by omega)) hqc (by omega) (by omega) (by omega) (by omega)).mono (by
   have:(d-1+1)*(7+2+5)≤7*14:=Nat.mul_le_mul (by omega) (by omega)
   omega)
  have hu2: ∀r∈tab (d+(e-1)+1) (mulQ (cf p) (cf (difL (cf q) e)) d (e-1)),RSz 200 r:=tab_all fun k hk=>(mulQ_rsz (j:=2) (k:=7) hpc (fun q hq=>cf_rsz hf2 (by omega)) (by omega) (by omega) (by omega) (by omega)).mono (by
   have:(d+1)*(2+7+5)≤7*14:=Nat.mul_le_mul (by omega) (by omega)
   omega)
  have A2:=(s_addB (j:=200) (d:=d-1+e) (e:=d+(e-1)) (p:=tab (d-1+e+1) (mulQ (cf (difL (cf p) d)) (cf q) (d-1) e)) (q:=tab (d+(e-1)+1) (mulQ (cf p) (cf (difL (cf q) e)) d (e-1))) tab_len tab_len (by omega) (by omega) (by decide) hu1 hu2).short2 (j:=5000000) (i:=5000000) hu1 hu2
  have ha2: ∀r∈tab (max (d-1+e) (d+(e-1))+1) (pairR (· + ·) (cf (tab (d-1+e+1) (mulQ (cf (difL (cf p) d)) (cf q) (d-1) e))) (cf (tab (d+(e-1)+1) (mulQ (cf p) (cf (difL (cf q) e)) d (e-1)))) (d-1+e) (d+(e-1))),RSz 9000 r:=tab_all fun k hk=>(pair_rsz (j:=200) (k:=200) tab_len tab_len (by omega) (by omega) hu1 hu2 (by omega)).mono (by
   have h1:(d-1+e+1)*200≤13*200:=Nat.mul_le_mul (by omega) (Nat.le_refl _)
   have h2:(d+(e-1)+1)*200≤13*200:=Nat.mul_le_mul (by omega) (Nat.le_refl _)
   omega)
  have F3:=(s_diffB (j:=100) (d:=d+e) (p:=tab (d+e+1) (mulQ (cf p) (cf q) d e)) tab_len (by omega) (by decide)).short1 (j:=5000000) hmr
  rw [difL_congr (g:=mulQ (cf p) (cf q) d e) fun q hq=>cf_tab (by omega)] at F3
  have hf3: ∀r∈difL (mulQ (cf p) (cf q) d e) (d+e),RSz 9000 r:=fun r hr=>(difL_rsz (j:=100) (d:=d+e) (by omega) (fun q hq=>by
   have:=cf_rsz (q:=q) hmr (by rw [tab_len];omega)
   rwa [cf_tab (by omega)] at this) r hr).mono (by decide)
  have hl3:=difL_len (mulQ (cf p) (cf q) d e) (d+e)
  have S1:=(s_sameB (j:=9000) (d:=d+e-1) (e:=max (d-1+e) (d+(e-1))) hl3 tab_len (by omega) (by omega) (by decide) hf3 ha2).short2 (j:=2+(100+100+3)+2) (i:=5000000+5000000+3) hf3 ha2
  rw [dif_prod hd he] at S1
  have A1:=s_addB (j:=2) hd he (by omega) (by omega) (by decide) hpr hqr
  have ha1: ∀r∈tab (max d e+1) (pairR (· + ·) (cf p) (cf q) d e),RSz 100 r:=tab_all fun k hk=>(pair_rsz hd he (by omega) (by omega) hpr hqr (by omega)).mono (by omega)
  have E3:=(s_eval (j:=100) (jt:=2) (n:=max d e) (J:=2000000) (l:=tab (max d e+1) (pairR (· + ·) (cf p) (cf q) d e)) (t:=t) tab_len (by omega) (by decide) (by decide) ha1 ht rfl).short1 (j:=5000000+5000000+3) ha1
  rw [low_congr (g:=pairR (· + ·) (cf p) (cf q) d e) fun i hi=>cf_tab (by omega),low_add] at E3
  have E4:=(s_eval (j:=100) (jt:=2) (n:=d+e) (J:=2000000) (l:=tab (d+e+1) (mulQ (cf p) (cf q) d e)) (t:=t) tab_len (by omega) (by decide) (by decide) hmr ht rfl).short1 (j:=5000000) hmr
  rw [low_congr (g:=mulQ (cf p) (cf q) d e) fun i hi=>cf_tab (by omega),low_mul] at E4
  have A3:=r_add (j:=2000000+2000000+2) (k:=2000000+2000000+2) (x:=lowR t (cf p) d) (y:=lowR t (cf q) e) (by decide) (by decide)
  have M4:=r_mul (j:=2000000+2000000+2) (k:=2000000+2000000+2) (x:=lowR t (cf p) d) (y:=lowR t (cf q) e) (by decide) (by decide)
  have T1:=s_toPowers (j:=2) hd (by omega) (by decide) hpr
  have hcr:=toPw_rsz (J:=100) hd hpr (by omega) (by omega)
  have hhor:=horR_cas t (cf p) d
  have hhs:=hor_rsz (jt:=2) (jc:=100) (n:=d) (c:=toPw (cf p) d) ht (fun q hq=>by
   have:=cf_rsz (q:=q) hcr (by rw [tab_len];omega)
   rwa [cf_tab (by omega)] at this)
  have hhs2: ∀k,k≤d+1→RSz 1000 (horR t (toPw (cf p) d) d k):=fun k hk=>(hhs k).mono (by
   have:k*(2+100+1)≤7*103:=Nat.mul_le_mul (by omega) (Nat.le_refl _)
   omega)
  have hhor2:horR t (toPw (cf p) d) d (d+1)=lowR t (cf p) d:=hhor
  obtain ⟨c,hc⟩: ∃c,c=toPw (cf p) d:=⟨_,rfl⟩
  obtain ⟨C,hC⟩: ∃C,C=tab (d+1) (toPw (cf p) d):=⟨_,rfl⟩
  have hCx: ∀q,q≤d→C[((q:Nat):Int).toNat]?=some (c q):=fun q hq=>by rw [hC,hc];exact tab_at (by omega)
  have hCl:C.length=d+1:=by rw [hC];simp
  have PT:=s_part (j:=2) (jt:=2) (n:=d) (J:=9000000) (l:=p) (a:=t) (b:=u) hd (by omega) (by decide) (by decide) hpr ht hu rfl
  have hpf:=part_first (t:=t) (u:=u) hd
  obtain ⟨PL,hPL⟩: ∃PL,PL=tab (d+1) (bpR p d t u):=⟨_,rfl⟩
  have hPx:PL[((0:Nat):Int).toNat]?=some (lowR t (cf p) d):=by rw [hPL,←hpf];exact tab_at (by omega)
  have hPl:PL.length=d+1:=by rw [hPL];simp
  unfold ratT at T1 PT A1 A2
  rw [←hC] at T1
  rw [←hPL] at PT
  rw [←hc] at hhs2 hhor2
  clear hPL hC hc hhs hcr hhor hpf hf3 hl3 ha2 ha1 hu1 hu2 hl1 hl2 hf1 hf2 hmr hpc hqc hpr hqr hu ht
  generalize (tab (max (d-1+e) (d+(e-1))+1) (pairR (· + ·) (cf (tab (d-1+e+1) (mulQ (cf (difL (cf p) d)) (cf q) (d-1) e))) (cf (tab (d+(e-1)+1) (mulQ (cf p) (cf (difL (cf q) e)) d (e-1)))) (d-1+e) (d+(e-1))))=L1 at*
  generalize (tab (d-1+e+1) (mulQ (cf (difL (cf p) d)) (cf q) (d-1) e))=L2 at*
  generalize (tab (d+(e-1)+1) (mulQ (cf p) (cf (difL (cf q) e)) d (e-1)))=L3 at*
  generalize difL (mulQ (cf p) (cf q) d e) (d+e)=L4 at*
  generalize tab (max d e+1) (pairR (· + ·) (cf p) (cf q) d e)=L5 at*
  generalize tab (d+e+1) (mulQ (cf p) (cf q) d e)=L6 at*
  generalize difL (cf p) d=L7 at*
  generalize difL (cf q) e=L8 at*
  generalize lowR t (cf p) d=x at*
  generalize lowR t (cf q) e=y at*
  have X1:=same_t (j:=2000000+2000000+2) (k:=2000000+2000000+2+(2000000+2000000+2)+3) (x:=x+y)
  have X2:=same_t (j:=2000000+2000000+2) (k:=2000000+2000000+2+(2000000+2000000+2)+2) (x:=x*y)
  have X3:=same_t (j:=1000) (k:=2000000+2000000+2) (x:=x)
  have X4:=same_t (j:=9000000+9000000+2) (k:=2000000+2000000+2) (x:=x)
  have w1:=binSub (k:= .i64) (show (IntKind.i64).wrap ((C.length:Int)-1)=(d:Int) by rw [show ((C.length:Int)-1)=(d:Int) by omega];exact IntWalk.i64_in _ (by omega))
  have w2:=binEq (k:= .i64) (decide_eq_false (show ¬(PL.length:Int)=0 by omega))
  refine ctr_body Tryz.func6 rfl rfl rfl rfl rfl rfl ?_
  intro W0 base D μ0 hA hD
  repeat (first
   | refine aw_seq ?_ | refine aw_block ?_ | refine aw_condT rfl ?_ | refine aw_condF rfl ?_
   | ((first | refine aw_plainK (by kernel_rfl) ?_ | refine aw_drawK (by kernel_rfl) (by kernel_rfl) (by kernel_rfl) ?_)
      repeat (first
       | refine v_skip (hl:=?_)
       | refine v_move (hl:=?_)
       | refine v_assign (hl:=?_)
       | refine v_load (hl:=?_)
       | refine v_store (hl:=?_)
       | refine v_alloc (hl:=?_)
       | refine v_extract (hl:=?_)
       | refine v_bin (hl:=?_)
       | refine v_indexAddr (hl:=?_)
       | refine v_not (hl:=?_)
       | refine v_pickT (hl:=?_)
       | refine v_pickF (hl:=?_)
       | refine v_eqBool (hl:=?_)
       | refine v_max (hl:=?_)
       | refine v_min (hl:=?_)
       | refine v_len (hl:=?_)
       | refine v_lenS (hl:=?_)
       | refine v_loadF (hl:=?_)
       | refine v_callE hA (hc:=D1) (hl:=?_)
       | refine v_callN hA (hc:=d_roll l) (hl:=?_)
       | refine v_callM hA (hc:=P1) (hl:=?_)
       | refine v_callM hA (hc:=P2) (hl:=?_)
       | refine v_callE hA (hc:=R1) (hl:=?_)
       | refine v_callE hA (hc:=E1) (hl:=?_)
       | refine v_callE hA (hc:=E2) (hl:=?_)
       | refine v_callE hA (hc:=M1) (hl:=?_)
       | refine v_callE hA (hc:=F1) (hl:=?_)
       | refine v_callE hA (hc:=F2) (hl:=?_)
       | refine v_callE hA (hc:=M2) (hl:=?_)
       | refine v_callE hA (hc:=M3) (hl:=?_)
       | refine v_callE hA (hc:=T1) (hl:=?_))
      apply RunK.nil;try refine And.intro (by kernel_rfl) ?_)
   | refine aw_skip ?_ | refine aw_exit ?_)
  refine aw_loop (fun m σ=> ∃(r:Nat),m=d+1-r∧r≤d+1∧Wk ⟨W0,base,D,139,[],μ0⟩ σ [(1,errV i),(2,errV j),(8,.one (rats 2 p)),(9,.one (rats 2 q)),(10,.one (.ptr 10 0)),(11,.one (.ptr 11 0)),(12,.one (.ptr 12 0)),(13,.one (rats 5000000 L6)),(15,.one (rats 5000000 L2)),(17,.one (rats 5000000 L3)),(19,.one (.ptr 19 0)),(20,.one (rats 5000000 C)),(21,errV ((d:Int)-(r:Int)))] [(10,nmC 2 t),(11,nmC (2000000+2000000+2) x),(12,nmC (2000000+2000000+2) y),(19,nmC 1000 (horR t c d r))]) (n:=d+1) ⟨0,by omega,by omega,?_⟩ ?_
  ·refine wk_mk ?_ ?_ rfl
   ·repeat (first | exact nil_all | (refine List.forall_mem_cons.2 ⟨?_,?_⟩;focus (first | exact Ent.of_eq rfl | (refine Ent.one' rfl ?_;(first | exact EntC.ratsLe (by omega) | exact EntC.ratsNil | exact EntC.glNil | (refine EntC.int ?_;omega) | (refine EntC.glLen ?_;first | omega | simp) | exact EntC.of_eq rfl | (refine EntC.q rfl ?_;omega) | exact Z0 _ | exact Z2 _ | exact EntC.z0 (k:=0) | exact EntC.z1 (k:=0) | exact EntC.z2 (k:=0) | exact EntC.z0 | exact EntC.z1 | exact EntC.z2)) | (refine Ent.agg' rfl ?_;(repeat (first | exact EntL.nil' rfl | (refine EntL.cons' rfl ?_ ?_;focus (first | exact EntC.ratsLe (by omega) | exact EntC.ratsNil | exact EntC.glNil | (refine EntC.int ?_;omega) | (refine EntC.glLen ?_;first | omega | simp) | exact EntC.of_eq rfl | (refine EntC.q rfl ?_;omega) | exact Z0 _ | exact Z2 _ | exact EntC.z0 (k:=0) | exact EntC.z1 (k:=0) | exact EntC.z2 (k:=0) | exact EntC.z0 | exact EntC.z1 | exact EntC.z2))));done))))
   ·repeat (first | exact nil_all | (refine List.forall_mem_cons.2 ⟨?_,?_⟩;focus (first | exact blk_keep inferInstance | (refine blk_ok rfl ?_ rfl;exact EntL.cons' rfl EntC.z0 (EntL.cons' rfl EntC.z1 (EntL.cons' rfl EntC.z2 (EntL.nil' rfl)))) | (refine blk_ok rfl ?_ rfl;focus ((repeat (first | exact EntL.nil' rfl | (refine EntL.cons' rfl ?_ ?_;focus (first | exact EntC.ratsLe (by omega) | exact EntC.ratsNil | exact EntC.glNil | (refine EntC.int ?_;omega) | (refine EntC.glLen ?_;first | omega | simp) | exact EntC.of_eq rfl | (refine EntC.q rfl ?_;omega) | exact Z0 _ | exact Z2 _ | exact EntC.z0 (k:=0) | exact EntC.z1 (k:=0) | exact EntC.z2 (k:=0) | exact EntC.z0 | exact EntC.z1 | exact EntC.z2))));done)))))
  intro m σ hI
  obtain ⟨r,hm,hr0,hw⟩:=hI
  refine aw_wk hw ?_
  clear hw
  by_cases hr:r<d+1
  ·obtain ⟨k,hk⟩: ∃k,d=k+r:=⟨d-r,by omega⟩
   have hkr:(d:Int)-(r:Int)=(k:Int):=by omega
   have bi:=binGe (k:= .i64) (decide_eq_true (show (k:Int)≥0 by omega))
   have hdn:=binSub (k:= .i64) (show (IntKind.i64).wrap ((k:Int)-1)=(d:Int)-((r+1:Nat):Int) by rw [show ((k:Int)-1)=(d:Int)-((r+1:Nat):Int) by omega];exact IntWalk.i64_in _ (by omega))
   have hx:=hCx k (by omega)
   have he':horR t c d r*t+c k=horR t c d (r+1):=by rw [show k=d-r by omega];rfl
   have hz:=hhs2 (r+1) (by omega)
   have M5:=r_mul (j:=1000) (k:=2) (x:=horR t c d r) (y:=t) (by decide) (by decide)
   have A5:=r_add (j:=1000+2+2) (k:=5000000) (x:=horR t c d r*t) (y:=c k) (by decide) (by decide)
   rw [hkr]
   generalize horR t c d r=v at*
   generalize c k=z at*
   repeat (first | refine aw_seq ?_ | refine aw_block ?_ | refine aw_condT rfl ?_ | refine aw_condF rfl ?_ | refine aw_pa ?_ | refine aw_da ?_ | refine aw_skip ?_ | refine aw_exit ?_)
   refine ⟨m-1,by omega,r+1,by omega,by omega,?_⟩
   refine wk_mk ?_ ?_ rfl
   ·repeat (first | exact nil_all | (refine List.forall_mem_cons.2 ⟨?_,?_⟩;focus (first | exact Ent.of_eq rfl | (refine Ent.one' rfl ?_;(first | exact EntC.ratsLe (by omega) | exact EntC.ratsNil | exact EntC.glNil | (refine EntC.int ?_;omega) | (refine EntC.glLen ?_;first | omega | simp) | exact EntC.qe he' hz | exact EntC.of_eq rfl | (refine EntC.q rfl ?_;omega) | exact Z0 _ | exact Z2 _ | exact EntC.z0 (k:=0) | exact EntC.z1 (k:=0) | exact EntC.z2 (k:=0) | exact EntC.z0 | exact EntC.z1 | exact EntC.z2)) | (refine Ent.agg' rfl ?_;(repeat (first | exact EntL.nil' rfl | (refine EntL.cons' rfl ?_ ?_;focus (first | exact EntC.ratsLe (by omega) | exact EntC.ratsNil | exact EntC.glNil | (refine EntC.int ?_;omega) | (refine EntC.glLen ?_;first | omega | simp) | exact EntC.qe he' hz | exact EntC.of_eq rfl | (refine EntC.q rfl ?_;omega) | exact Z0 _ | exact Z2 _ | exact EntC.z0 (k:=0) | exact EntC.z1 (k:=0) | exact EntC.z2 (k:=0) | exact EntC.z0 | exact EntC.z1 | exact EntC.z2))));done))))
   ·repeat (first | exact nil_all | (refine List.forall_mem_cons.2 ⟨?_,?_⟩;focus (first | exact blk_keep inferInstance | (refine blk_ok rfl ?_ rfl;focus ((repeat (first | exact EntL.nil' rfl | (refine EntL.cons' rfl ?_ ?_;focus (first | exact EntC.ratsLe (by omega) | exact EntC.ratsNil | exact EntC.glNil | (refine EntC.int ?_;omega) | (refine EntC.glLen ?_;first | omega | simp) | exact EntC.qe he' hz | exact EntC.of_eq rfl | (refine EntC.q rfl ?_;omega) | exact Z0 _ | exact Z2 _ | exact EntC.z0 (k:=0) | exact EntC.z1 (k:=0) | exact EntC.z2 (k:=0) | exact EntC.z0 | exact EntC.z1 | exact EntC.z2))));done)))))
  ·obtain rfl:r=d+1:=by omega
   have hkr:(d:Int)-((d+1:Nat):Int)= -1:=by omega
   have bi:=binGe (k:= .i64) (decide_eq_false (show ¬(-1:Int)≥0 by omega))
   rw [hkr,hhor2]
   have:=awake5
   repeat (first | refine aw_seq ?_ | refine aw_block ?_ | refine aw_condT rfl ?_ | refine aw_condF rfl ?_ | refine aw_pa ?_ | refine aw_da ?_ | refine aw_skip ?_ | refine aw_exit ?_)
   refine aw_ret (And.intro (Or.inr rfl) ?_)
   exact f_one
 ·have D1:=evals.light' (decide_eq_false hL)
  refine ctr_body Tryz.func6 rfl rfl rfl rfl rfl rfl ?_
  intro W0 base D μ0 hA hD
  have:=awake5
  repeat (first | refine aw_seq ?_ | refine aw_block ?_ | refine aw_condT rfl ?_ | refine aw_condF rfl ?_ | refine aw_pa ?_ | refine aw_da ?_ | refine aw_skip ?_ | refine aw_exit ?_)
  refine aw_ret (And.intro (Or.inr rfl) ?_)
  exact f_one
end bvals
end Go.Proofs.YtnkobfcnflphkaaGreatDoor
