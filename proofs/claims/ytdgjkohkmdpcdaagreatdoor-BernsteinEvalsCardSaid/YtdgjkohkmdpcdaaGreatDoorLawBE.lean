/-
  BernsteinEvals, by contracts.
-/
import Derived.Test.YtdgjkohkmdpcdaaGreatDoorHv
namespace Go.Proofs.YtdgjkohkmdpcdaaGreatDoor
open Go.RowKit
set_option linter.unusedVariables false
set_option linter.unusedSimpArgs false
set_option maxRecDepth 20000
set_option maxHeartbeats 8000000
theorem same5 {j k:Nat} {l m:List Rat} (h:l=m) (hl:l.length≤1000000):Ctr Tryz.prog Amb 21 [.one (rats j l),.one (rats k m)] (.one (.v (.bool true))):=by
 have S1:=t_sameList (j:=j) (k:=k) (l:=l) (m:=m) (by omega) (by rw [←h];omega)
 rw [decide_eq_true h] at S1
 refine ctr_body Tryz.func21 rfl rfl rfl rfl rfl rfl ?_
 intro W0 base D μ0 hA hD
 repeat (first
  | refine aw_seq ?_ | refine aw_block ?_ | refine aw_condT rfl ?_ | refine aw_condF rfl ?_
  | ((first | refine aw_plainK (by kernel_rfl) ?_ | refine aw_drawK (by kernel_rfl) (by kernel_rfl) (by kernel_rfl) ?_)
     repeat (first
      | refine v_move (hl:=?_)
      | refine v_assign (hl:=?_)
      | refine v_callE hA (hc:=S1) (hl:=?_))
     apply RunK.nil;try refine And.intro (by kernel_rfl) ?_)
  | refine aw_skip ?_ | refine aw_exit ?_)
 refine aw_ret (And.intro (Or.inr rfl) ?_)
 exact f_one
theorem same_t {j k:Nat} {x:Rat} :Ctr Tryz.prog Amb 18 [nm j x,nm k x] (.one (.v (.bool true))):=by
 have h:=r_same (j:=j) (k:=k) (x:=x) (y:=x)
 rw [decide_eq_true rfl] at h
 exact h
theorem ratM_rsz (n d:Int):RSz 2 (ratM n d):=by
 unfold ratM
 have h1:=Int.emod_nonneg n (b:=41) (by decide)
 have h2:=Int.emod_lt_of_pos n (b:=41) (by decide)
 have h3:=Int.emod_nonneg d (b:=8) (by decide)
 have h4:=Int.emod_lt_of_pos d (b:=8) (by decide)
 generalize n % 41=a at*
 generalize d % 8=b at*
 have hn:RSz 1 ((a-20:Int):Rat):=⟨by rw [Rat.num_intCast];exact length_toL_le _ _ (by omega),by rw [Rat.den_intCast];exact length_toL_le _ _ (by decide)⟩
 have hd:RSz 1 ((b+1:Int):Rat):=⟨by rw [Rat.num_intCast];exact length_toL_le _ _ (by omega),by rw [Rat.den_intCast];exact length_toL_le _ _ (by decide)⟩
 refine rsz_div hn hd fun h0=>?_
 have h1:((b+1:Int):Rat)=((0:Int):Rat):=h0
 have:=Rat.intCast_inj.1 h1
 omega
namespace evals
theorem light' {l:List Int} {b:Bool} (h:decide ((l.length:Int)≤500)=b):Ctr Tryz.prog Amb 11 [.one (.ints l)] (.one (.v (.bool b))):=h▸d_light l
theorem law {l:List Int} {i j k:Int} (hb: ∀x∈l,-9223372036854775808≤x∧x<9223372036854775808) (hi1: -9223372036854775808≤i) (hi2:i<9223372036854775808) (hj1: -9223372036854775808≤j) (hj2:j<9223372036854775808) (hk1: -9223372036854775808≤k) (hk2:k<9223372036854775808):
  Ctr Tryz.prog Amb 3 [.one (.ints l),.one (.v (.int .i64 i)),.one (.v (.int .i64 j)),.one (.v (.int .i64 k))] (.one (.v (.bool true))):=by
 by_cases hL:(l.length:Int)≤500
 ·have hl:l.length≤1000000:=by omega
  have D1:=light' (decide_eq_true hL)
  have P1:=d_poly (k:=21) (n:=0) (deg:=8) hb hl (Nat.zero_le _) (by decide)
  obtain ⟨hp1,hp2⟩:=polS_len l 8 0
  have hpr:=polS_rsz l 8 0
  generalize (polS l 8 0).1=p at*
  generalize (polS l 8 0).2=ps at*
  have R1:=d_rat hi1 hi2 hj1 hj2
  have R2:=d_rat hk1 hk2 hj1 hj2
  have ht:=ratM_rsz i j
  have hu:=ratM_rsz k j
  generalize ratM i j=t at*
  generalize ratM k j=u at*
  obtain ⟨n,hn⟩: ∃n,p.length=n+1:=⟨p.length-1,by omega⟩
  have I1:=r_int (n:=1) rfl
  have h1:RSz 2 oneR:=rsz_cast 1 (by decide) (by decide)
  have S1:=s_split (j:=2) (jt:=2) (n:=n) (J:=(n+1)*2+2+n*(2+2)+10) (l:=p) (t:=t) hn (by omega) (by decide) (by decide) hpr ht rfl
  have T1:=t_split (j:=2) (jt:=2) (N:=n) (J:=1000) (l:=p) (t:=t) hn (by omega) (by decide) (by decide) (by decide) (t_cas_sz hn hpr ht (by omega))
  have E1:=s_eval (j:=2) (jt:=2) (n:=n) (J:=2000000) (l:=p) (t:=t) hn (by omega) (by decide) (by decide) hpr ht rfl
  have E2:=t_eval (j:=2) (jt:=2) (N:=n) (J:=1000) (l:=p) (t:=t) hn (by omega) (by decide) (by decide) (by decide) (t_cas_sz hn hpr ht (by omega))
  have PA:=s_part (j:=2) (jt:=2) (n:=n) (J:=9000000) (l:=p) (a:=t) (b:=u) hn (by omega) (by decide) (by decide) hpr ht hu rfl
  have PB:=t_part (j:=2) (jt:=2) (n:=n) (J:=100000) (l:=p) (a:=t) (b:=u) hn (by omega) (by decide) (by decide) hpr ht hu rfl
  have PC:=s_part (j:=2) (jt:=2) (n:=n) (J:=9000000) (l:=p) (a:=oneR) (b:=u) hn (by omega) (by decide) (by decide) hpr h1 hu rfl
  have PD:=t_part (j:=2) (jt:=2) (n:=n) (J:=100000) (l:=p) (a:=oneR) (b:=u) hn (by omega) (by decide) (by decide) hpr h1 hu rfl
  obtain ⟨L1,hL1⟩: ∃L1,L1=tab (n+1) (lowR t (cf p)):=⟨_,rfl⟩
  obtain ⟨L2,hL2⟩: ∃L2,L2=tab (n+1) (uppR t (cf p) n):=⟨_,rfl⟩
  obtain ⟨L3,hL3⟩: ∃L3,L3=tab (n+1) (bpR p n t u):=⟨_,rfl⟩
  obtain ⟨L4,hL4⟩: ∃L4,L4=tab (n+1) (bpR p n oneR u):=⟨_,rfl⟩
  have g1:L1.length≤1000000:=by rw [hL1];simp;omega
  have g2:L2.length≤1000000:=by rw [hL2];simp;omega
  have g3:L3.length≤1000000:=by rw [hL3];simp;omega
  have g4:L4.length≤1000000:=by rw [hL4];simp;omega
  unfold ratT at S1 T1 PA PB PC PD
  rw [←hL1,←hL2] at S1 T1
  rw [←hL3] at PA PB
  rw [←hL4] at PC PD
  generalize lowR t (cf p) n=v at*
  clear hL1 hL2 hL3 hL4
  have Q1:=same5 (j:=(n+1)*2+2+n*(2+2)+10+((n+1)*2+2+n*(2+2)+10)+2) (k:=1000) (l:=L1) rfl g1
  have Q2:=same5 (j:=(n+1)*2+2+n*(2+2)+10+((n+1)*2+2+n*(2+2)+10)+2) (k:=1000) (l:=L2) rfl g2
  have Q3:=same5 (j:=9000000+9000000+2) (k:=100000) (l:=L3) rfl g3
  have Q4:=same5 (j:=9000000+9000000+2) (k:=100000) (l:=L4) rfl g4
  refine ctr_body Tryz.func3 rfl rfl rfl rfl rfl rfl ?_
  intro W0 base D μ0 hA hD
  repeat (first
   | refine aw_seq ?_ | refine aw_block ?_ | refine aw_condT rfl ?_ | refine aw_condF rfl ?_
   | ((first | refine aw_plainK (by kernel_rfl) ?_ | refine aw_drawK (by kernel_rfl) (by kernel_rfl) (by kernel_rfl) ?_)
      repeat (first
       | refine v_skip (hl:=?_)
       | refine v_move (hl:=?_)
       | refine v_assign (hl:=?_)
       | refine v_load (hl:=?_)
       | refine v_store (hl:=?_)
       | refine v_alloc (hl:=?_)
       | refine v_extract (hl:=?_)
       | refine v_not (hl:=?_)
       | refine v_pickT (hl:=?_)
       | refine v_pickF (hl:=?_)
       | refine v_loadF (hl:=?_)
       | refine v_callE hA (hc:=D1) (hl:=?_)
       | refine v_callN hA (hc:=d_roll l) (hl:=?_)
       | refine v_callM hA (hc:=P1) (hl:=?_)
       | refine v_callE hA (hc:=R1) (hl:=?_)
       | refine v_callE hA (hc:=R2) (hl:=?_)
       | refine v_callE hA (hc:=I1) (hl:=?_)
       | refine v_callE hA (hc:=S1) (hl:=?_)
       | refine v_callE hA (hc:=T1) (hl:=?_)
       | refine v_callE hA (hc:=E1) (hl:=?_)
       | refine v_callE hA (hc:=E2) (hl:=?_)
       | refine v_callE hA (hc:=same_t) (hl:=?_)
       | refine v_callE hA (hc:=PA) (hl:=?_)
       | refine v_callE hA (hc:=PB) (hl:=?_)
       | refine v_callE hA (hc:=PC) (hl:=?_)
       | refine v_callE hA (hc:=PD) (hl:=?_)
       | refine v_callE hA (hc:=Q1) (hl:=?_)
       | refine v_callE hA (hc:=Q2) (hl:=?_)
       | refine v_callE hA (hc:=Q3) (hl:=?_)
       | refine v_callE hA (hc:=Q4) (hl:=?_)
       | refine v_callE hA (hc:=awake5) (hl:=?_))
      apply RunK.nil;try refine And.intro (by kernel_rfl) ?_)
   | refine aw_skip ?_ | refine aw_exit ?_)
  refine aw_ret (And.intro (Or.inr rfl) ?_)
  exact f_one
 ·have D1:=light' (decide_eq_false hL)
  refine ctr_body Tryz.func3 rfl rfl rfl rfl rfl rfl ?_
  intro W0 base D μ0 hA hD
  repeat (first
   | refine aw_seq ?_ | refine aw_block ?_ | refine aw_condT rfl ?_ | refine aw_condF rfl ?_
   | ((first | refine aw_plainK (by kernel_rfl) ?_ | refine aw_drawK (by kernel_rfl) (by kernel_rfl) (by kernel_rfl) ?_)
      repeat (first
       | refine v_skip (hl:=?_)
       | refine v_move (hl:=?_)
       | refine v_assign (hl:=?_)
       | refine v_load (hl:=?_)
       | refine v_store (hl:=?_)
       | refine v_alloc (hl:=?_)
       | refine v_extract (hl:=?_)
       | refine v_not (hl:=?_)
       | refine v_pickT (hl:=?_)
       | refine v_pickF (hl:=?_)
       | refine v_callE hA (hc:=D1) (hl:=?_)
       | refine v_callE hA (hc:=awake5) (hl:=?_))
      apply RunK.nil;try refine And.intro (by kernel_rfl) ?_)
   | refine aw_skip ?_ | refine aw_exit ?_)
  refine aw_ret (And.intro (Or.inr rfl) ?_)
  exact f_one
end evals
end Go.Proofs.YtdgjkohkmdpcdaaGreatDoor
