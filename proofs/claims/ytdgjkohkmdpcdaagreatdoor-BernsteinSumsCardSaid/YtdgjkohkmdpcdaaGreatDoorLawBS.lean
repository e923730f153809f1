/-
  BernsteinSums, by contracts.
-/
import Derived.Test.YtdgjkohkmdpcdaaGreatDoorHp
import Derived.Test.YtdgjkohkmdpcdaaGreatDoorLawBT
namespace Go.Proofs.YtdgjkohkmdpcdaaGreatDoor
open Go.RowKit
set_option linter.unusedVariables false
set_option linter.unusedSimpArgs false
set_option maxRecDepth 20000
set_option maxHeartbeats 8000000
namespace bsums
theorem law {l:List Int} {n r:Int} (hb: ∀x∈l,-9223372036854775808≤x∧x<9223372036854775808) (hn1: -9223372036854775808≤n) (hn2:n<9223372036854775808) (hr1: -9223372036854775808≤r) (hr2:r<9223372036854775808):
  Ctr Tryz.prog Amb 4 [.one (.ints l),.one (.v (.int .i64 n)),.one (.v (.int .i64 r))] (.one (.v (.bool true))):=by
 by_cases hL:(l.length:Int)≤500
 ·have hl:l.length≤1000000:=by omega
  have D1:=evals.light' (decide_eq_true hL)
  have P1:=d_poly (k:=24) (n:=0) (deg:=6) hb hl (Nat.zero_le _) (by decide)
  have hps:=polS_bd l 6 0 (Nat.zero_le _)
  obtain ⟨hp1,hp2⟩:=polS_len l 6 0
  have hpr:=polS_rsz l 6 0
  generalize (polS l 6 0).1=p at*
  generalize (polS l 6 0).2=ps at*
  have P2:=d_poly (k:=24) (n:=ps) (deg:=6) hb hl hps (by decide)
  obtain ⟨hq1,hq2⟩:=polS_len l 6 ps
  have hqr:=polS_rsz l 6 ps
  generalize (polS l 6 ps).1=q at*
  generalize (polS l 6 ps).2=qs at*
  have R1:=d_rat hr1 hr2 (d:=1) (by decide) (by decide)
  generalize ratM r 1=f at*
  obtain ⟨d,hd⟩: ∃d,p.length=d+1:=⟨p.length-1,by omega⟩
  obtain ⟨e,he⟩: ∃e,q.length=e+1:=⟨q.length-1,by omega⟩
  have M1:=s_mulB (j:=2) (k:=2) hd he (by omega) (by decide) (by decide) hpr hqr
  have M2:=t_mulB (j:=2) (k:=2) hd he (by omega) (by decide) (by decide) hpr hqr rfl
  have A1:=s_addB (j:=2) hd he (by omega) (by omega) (by decide) hpr hqr
  have A2:=t_addB (j:=2) (k:=2) (J:=1000) hd he (by omega) (by omega) (by decide) (by decide) (by decide) (fun c hc k hk=>(lift_rsz hd hc hpr k hk).mono (by omega)) (fun c hc k hk=>(lift_rsz he hc hqr k hk).mono (by omega))
  have B1:=s_subB (j:=2) hd he (by omega) (by omega) (by decide) hpr hqr
  have B2:=t_subB (j:=2) (J:=1000) hd he (by omega) (by omega) hpr hqr (by decide) (by decide)
  have C1:=s_scaleB (js:=2) (j:=2) (s:=f) hd (by omega) (by decide) (by decide)
  have C2:=t_scale (js:=2) (j:=2) (s:=f) hd (by omega) (by decide) (by decide)
  have F1:=s_diffB (j:=2) hd (by omega) (by decide)
  have F2:=t_diffB (j:=2) hd (by omega) (by decide)
  obtain ⟨L2,hL2⟩: ∃L,L=tab (d+e+1) (mulQ (cf p) (cf q) d e):=⟨_,rfl⟩
  obtain ⟨L3,hL3⟩: ∃L,L=tab (max d e+1) (pairR (· + ·) (cf p) (cf q) d e):=⟨_,rfl⟩
  obtain ⟨L4,hL4⟩: ∃L,L=tab (max d e+1) (pairR (· - ·) (cf p) (cf q) d e):=⟨_,rfl⟩
  obtain ⟨L5,hL5⟩: ∃L,L=tab (d+1) fun i=>f*cf p i:=⟨_,rfl⟩
  obtain ⟨L6,hL6⟩: ∃L,L=difL (cf p) d:=⟨_,rfl⟩
  have g2:L2.length≤1000000:=by rw [hL2];simp;omega
  have g3:L3.length≤1000000:=by rw [hL3];simp;omega
  have g4:L4.length≤1000000:=by rw [hL4];simp;omega
  have g5:L5.length≤1000000:=by rw [hL5];simp;omega
  have g6:L6.length≤1000000:=by
   rw [hL6];unfold difL
   split
   ·simp
   ·simp;omega
  unfold ratT at A1 A2 B1 B2 C1 C2
  rw [←hL2] at M1 M2
  rw [←hL3] at A1 A2
  rw [←hL4] at B1 B2
  rw [←hL5] at C1 C2
  rw [←hL6] at F1 F2
  clear hL2 hL3 hL4 hL5 hL6
  have Q2:=same5 (j:=5000000) (k:=200000) (l:=L2) rfl g2
  have Q3:=same5 (j:=5000000+5000000+3) (k:=1000+1000+1) (l:=L3) rfl g3
  have Q4:=same5 (j:=5000000+5000000+3) (k:=1000+1000+1) (l:=L4) rfl g4
  have Q5:=same5 (j:=2+2+2) (k:=2+2+2) (l:=L5) rfl g5
  have Q6:=same5 (j:=2+(2+2+3)+2) (k:=2+(2+2+3)+2) (l:=L6) rfl g6
  by_cases hin:(d:Int)≤n∧n≤40
  ·obtain ⟨m,rfl⟩: ∃m:Nat,n=(m:Int):=⟨n.toNat,by omega⟩
   have X1:=s_elevate (j:=2) (d:=d) (n:=m) hd (by omega) (by omega) (by decide) hpr
   have X2:=t_elevate (j:=2) (d:=d) (n:=m) (J:=1000) hd (by omega) (by omega) (by decide) (by decide) (fun c hc k hk=>(lift_rsz hd hc hpr k hk).mono (by omega))
   obtain ⟨L1,hL1⟩: ∃L,L=tab (m+1) (liftN (cf p) d (m-d)):=⟨_,rfl⟩
   rw [←hL1] at X1 X2
   have hLl:L1.length=m+1:=by rw [hL1];simp
   clear hL1
   have Q1:=same5 (j:=5000000) (k:=1000) (l:=L1) rfl (by omega)
   have hbl:0<(blkL (nmD 1000) L1).length:=blkL_ne (n:=3) inferInstance (by decide) (by omega)
   refine ctr_body Tryz.func4 rfl rfl rfl rfl rfl rfl ?_
   intro W0 base D μ0 hA hD
   repeat (first
    | refine aw_seq ?_ | refine aw_block ?_ | refine aw_condT rfl ?_ | refine aw_condF rfl ?_
    | ((first | refine aw_plainK (by kernel_rfl) ?_ | refine aw_drawK (by kernel_rfl) (by kernel_rfl) (by kernel_rfl) ?_)
       repeat (first
        | refine v_skip (hl:=?_)
        | refine v_move (hl:=?_)
        | refine v_assign (hl:=?_)
        | refine v_load (hl:=?_)
        | refine v_store (hl:=?_)
        | refine v_alloc (hl:=?_)
        | refine v_extract (hl:=?_)
        | refine v_bin (hl:=?_)
        | refine v_not (hl:=?_)
        | refine v_pickT (hl:=?_)
        | refine v_pickF (hl:=?_)
        | refine v_eqBool (hl:=?_)
        | refine v_loadF (hl:=?_)
        | refine v_callE hA (hc:=D1) (hl:=?_)
        | refine v_callN hA (hc:=d_roll l) (hl:=?_)
        | refine v_callM hA (hc:=P1) (hl:=?_)
        | refine v_callM hA (hc:=P2) (hl:=?_)
        | refine v_callE hA (hc:=R1) (hl:=?_)
        | refine v_callE hA (hc:=X1) (hl:=?_)
        | refine v_callRN hA [] X2 hbl (hl:=?_))
       apply RunK.nil;try refine And.intro (by kernel_rfl) ?_)
    | refine aw_skip ?_ | refine aw_exit ?_)
   refine aw_freeze 21 hD (ss:= [(8,.one (rats 2 p)),(9,.one (rats 2 q)),(10,.one (.ptr 10 0)),(11,.one (rats 5000000 L1)),(12,errV 0),(13,.one (rats 1000 L1)),(14,errV 0)]) (bs:= [(10,nmC 2 f)]) ?_ ?_
   ·rw [←hLl]
    refine fk_mk ?_ ?_ rfl
    ·repeat (first | exact nil_all | (refine List.forall_mem_cons.2 ⟨?_,?_⟩;focus (first | exact fz_blk inferInstance | refine FzA.ent ?_;first | exact Ent.of_eq rfl | (refine Ent.one' rfl ?_;(first | exact EntC.ratsLe (by omega) | exact EntC.ratsNil | exact EntC.glNil | (refine EntC.int ?_;omega) | (refine EntC.glLen ?_;first | omega | simp) | exact EntC.of_eq rfl | (refine EntC.q rfl ?_;omega) | exact Z0 _ | exact Z2 _ | exact EntC.z0 (k:=0) | exact EntC.z1 (k:=0) | exact EntC.z2 (k:=0) | exact EntC.z0 | exact EntC.z1 | exact EntC.z2)) | (refine Ent.agg' rfl ?_;(repeat (first | exact EntL.nil' rfl | (refine EntL.cons' rfl ?_ ?_;focus (first | exact EntC.ratsLe (by omega) | exact EntC.ratsNil | exact EntC.glNil | (refine EntC.int ?_;omega) | (refine EntC.glLen ?_;first | omega | simp) | exact EntC.of_eq rfl | (refine EntC.q rfl ?_;omega) | exact Z0 _ | exact Z2 _ | exact EntC.z0 (k:=0) | exact EntC.z1 (k:=0) | exact EntC.z2 (k:=0) | exact EntC.z0 | exact EntC.z1 | exact EntC.z2))));done))))
    ·repeat (first | exact nil_all | (refine List.forall_mem_cons.2 ⟨?_,?_⟩;focus (first | exact blk_keep inferInstance | (refine blk_ok rfl ?_ rfl;focus ((repeat (first | exact EntL.nil' rfl | (refine EntL.cons' rfl ?_ ?_;focus (first | exact EntC.ratsLe (by omega) | exact EntC.ratsNil | exact EntC.glNil | (refine EntC.int ?_;omega) | (refine EntC.glLen ?_;first | omega | simp) | exact EntC.of_eq rfl | (refine EntC.q rfl ?_;omega) | exact Z0 _ | exact Z2 _ | exact EntC.z0 (k:=0) | exact EntC.z1 (k:=0) | exact EntC.z2 (k:=0) | exact EntC.z0 | exact EntC.z1 | exact EntC.z2))));done)))))
   have:=awake5
   repeat (first | refine aw_seq ?_ | refine aw_block ?_ | refine aw_condT rfl ?_ | refine aw_condF rfl ?_ | refine aw_pa ?_ | refine aw_da ?_ | refine aw_skip ?_ | refine aw_exit ?_)
   refine aw_ret (And.intro (Or.inr rfl) ?_)
   exact f_one
  ·have hbad:n<(p.length:Int)-1∨n>40:=by omega
   have X1:=s_elevateF (j:=2) (p:=p) (by omega) (by omega) hbad 1
   have X2:=t_elevateF (j:=2) (p:=p) (by omega) (by omega) hbad 1
   have Q1:=same5 (j:=1) (k:=1) (l:= []) rfl (by decide)
   refine ctr_body Tryz.func4 rfl rfl rfl rfl rfl rfl ?_
   intro W0 base D μ0 hA hD
   repeat (first
    | refine aw_seq ?_ | refine aw_block ?_ | refine aw_condT rfl ?_ | refine aw_condF rfl ?_
    | ((first | refine aw_plainK (by kernel_rfl) ?_ | refine aw_drawK (by kernel_rfl) (by kernel_rfl) (by kernel_rfl) ?_)
       repeat (first
        | refine v_skip (hl:=?_)
        | refine v_move (hl:=?_)
        | refine v_assign (hl:=?_)
        | refine v_load (hl:=?_)
        | refine v_store (hl:=?_)
        | refine v_alloc (hl:=?_)
        | refine v_extract (hl:=?_)
        | refine v_bin (hl:=?_)
        | refine v_not (hl:=?_)
        | refine v_pickT (hl:=?_)
        | refine v_pickF (hl:=?_)
        | refine v_eqBool (hl:=?_)
        | refine v_loadF (hl:=?_)
        | refine v_callE hA (hc:=D1) (hl:=?_)
        | refine v_callN hA (hc:=d_roll l) (hl:=?_)
        | refine v_callM hA (hc:=P1) (hl:=?_)
        | refine v_callM hA (hc:=P2) (hl:=?_)
        | refine v_callE hA (hc:=R1) (hl:=?_)
        | refine v_callE hA (hc:=X1) (hl:=?_)
        | refine v_callE hA (hc:=X2) (hl:=?_)
        | refine v_callE hA (hc:=M1) (hl:=?_)
        | refine v_callE hA (hc:=M2) (hl:=?_)
        | refine v_callE hA (hc:=A1) (hl:=?_)
        | refine v_callE hA (hc:=A2) (hl:=?_)
        | refine v_callE hA (hc:=B1) (hl:=?_)
        | refine v_callE hA (hc:=B2) (hl:=?_)
        | refine v_callE hA (hc:=C1) (hl:=?_)
        | refine v_callE hA (hc:=C2) (hl:=?_)
        | refine v_callE hA (hc:=F1) (hl:=?_)
        | refine v_callE hA (hc:=F2) (hl:=?_)
        | refine v_callE hA (hc:=Q1) (hl:=?_)
        | refine v_callE hA (hc:=Q2) (hl:=?_)
        | refine v_callE hA (hc:=Q3) (hl:=?_)
        | refine v_callE hA (hc:=Q4) (hl:=?_)
        | refine v_callE hA (hc:=Q5) (hl:=?_)
        | refine v_callE hA (hc:=Q6) (hl:=?_)
        | refine v_callE hA (hc:=awake5) (hl:=?_))
       apply RunK.nil;try refine And.intro (by kernel_rfl) ?_)
    | refine aw_skip ?_ | refine aw_exit ?_)
   refine aw_ret (And.intro (Or.inr rfl) ?_)
   exact f_one
 ·have D1:=evals.light' (decide_eq_false hL)
  refine ctr_body Tryz.func4 rfl rfl rfl rfl rfl rfl ?_
  intro W0 base D μ0 hA hD
  have:=awake5
  repeat (first | refine aw_seq ?_ | refine aw_block ?_ | refine aw_condT rfl ?_ | refine aw_condF rfl ?_ | refine aw_pa ?_ | refine aw_da ?_ | refine aw_skip ?_ | refine aw_exit ?_)
  refine aw_ret (And.intro (Or.inr rfl) ?_)
  exact f_one
end bsums
end Go.Proofs.YtdgjkohkmdpcdaaGreatDoor
