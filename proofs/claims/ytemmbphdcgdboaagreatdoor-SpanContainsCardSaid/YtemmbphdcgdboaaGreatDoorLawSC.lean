/-
  SpanContains, by contracts.
-/
import Derived.Test.YtemmbphdcgdboaaGreatDoorHc
import Derived.Test.YtemmbphdcgdboaaGreatDoorGf
namespace Go.Proofs.YtemmbphdcgdboaaGreatDoor
open Go.RowKit
set_option linter.unusedVariables false
set_option linter.unusedSimpArgs false
set_option maxRecDepth 20000
set_option maxHeartbeats 8000000
namespace contains
theorem light' {l:List Int} {b:Bool} (h:decide ((l.length:Int)≤500)=b):Ctr Tryz.prog Amb 9 [.one (.ints l)] (.one (.v (.bool b))):=h▸d_light l
theorem law {l:List Int} {i j:Int} (hb: ∀x∈l,-9223372036854775808≤x∧x<9223372036854775808) (n1: -9223372036854775808≤i) (n2:i<9223372036854775808) (d1: -9223372036854775808≤j) (d2:j<9223372036854775808):
  Ctr Tryz.prog Amb 6 [.one (.ints l),.one (.v (.int .i64 i)),.one (.v (.int .i64 j))] (.one (.v (.bool true))):=by
 by_cases hL:(l.length:Int)≤500
 ·have hl:l.length≤1000000:=by omega
  have D1:=light' (decide_eq_true hL)
  have N1:=d_span (k:=21) hb hl (Nat.zero_le _)
  have N2:=d_span (k:=21) hb hl (spanD_bd l 0 (Nat.zero_le _))
  have le1:=spanD_le l 0
  have le2:=spanD_le l (spanD l 0).2.2
  obtain ⟨z1,z2⟩:=spanD_sz l 0
  generalize (spanD l 0).1=a at*
  generalize (spanD l 0).2.1=b at*
  generalize (spanD l (spanD l 0).2.2).1=c at*
  generalize (spanD l (spanD l 0).2.2).2.1=e at*
  have le1:a≤b:=by grind
  have le2:c≤e:=by grind
  have W1:=d_within (j1:=5) (j2:=5) (a:=a) (b:=b) n1 n2 (by decide) (by decide)
  have W2:=d_within (j1:=5) (j2:=5) (a:=c) (b:=e) d1 d2 (by decide) (by decide)
  obtain ⟨x1,x2⟩:=within le1 (partR_bd i).1 (partR_bd i).2
  obtain ⟨y1,y2⟩:=within le2 (partR_bd j).1 (partR_bd j).2
  generalize a+partR i*(b-a)=x at*
  generalize c+partR j*(e-c)=y at*
  have a1:a+c≤x+y:=by grind
  have a2:x+y≤b+e:=by grind
  have s1:a-e≤x-y:=by grind
  have s2:x-y≤b-c:=by grind
  obtain ⟨m1,m2⟩:=mulS_has x1 x2 y1 y2
  obtain ⟨q1,q2⟩:=sqrS_has x1 x2
  have r1:=Rat.le_trans (down_le a (scaleQ 3)) x1
  have r2:=Rat.le_trans x2 (up_ge b (scaleQ 3))
  have b1:=bits_sz z1.1
  have b2:=bits_sz z1.2
  have b3:=bits_sz z2.1
  have b4:=bits_sz z2.2
  have R1:=s_root (j1:=5) (j2:=5) (a:=a) (b:=b) (k:=8) (by decide) (by decide) (by omega) (by omega) (by omega) (by omega)
  have w0:=rootR_nn a (scaleQ 8)
  have w1:0≤a→rootR a (scaleQ 8)*rootR a (scaleQ 8)≤a:=fun h=>rootR_sq h _
  have w2:0≤b→b≤rootH b (scaleQ 8)*rootH b (scaleQ 8):=fun h=>rootH_sq h _
  generalize rootR a (scaleQ 8)=u at*
  generalize rootH b (scaleQ 8)=v at*
  have S1:=s_sqr (j1:=1000) (j2:=3000) (a:=u) (b:=v) (by decide) (by decide)
  have se:sqrS u v=(u*u,v*v):=by unfold sqrS;rw [if_pos (sgr_ge.2 w0)]
  rw [se] at S1
  have bu:binR .lss .i64 (sgnR u) 0=some (.bool false):=binLt (decide_eq_false (by have:=sgr_ge.2 w0;omega))
  by_cases h0:c≤0∧0≤e
  ·by_cases hn:sgnR b<0
   ·rw [if_pos hn] at R1
    refine ctr_body Tryz.func6 rfl rfl rfl rfl rfl rfl ?_
    intro W0 base D μ0 hA
    repeat (first
     | refine aw_seq ?_ | refine aw_block ?_ | refine aw_condT rfl ?_ | refine aw_condF rfl ?_
     | ((first | refine aw_plainK (by kernel_rfl) ?_ | refine aw_drawK (by kernel_rfl) (by kernel_rfl) (by kernel_rfl) ?_)
        repeat (first
         | refine v_skip (hl:=?_)
         | refine v_move (hl:=?_)
         | refine v_assign (hl:=?_)
         | refine v_load (hl:=?_)
         | refine v_fieldAddr (hl:=?_)
         | refine v_store (hl:=?_)
         | refine v_alloc (hl:=?_)
         | refine v_extract (hl:=?_)
         | refine v_bin (hl:=?_)
         | refine v_not (hl:=?_)
         | refine v_pickT (hl:=?_)
         | refine v_pickF (hl:=?_)
         | refine v_eqBool (hl:=?_)
         | refine v_callE hA (hc:=D1) (hl:=?_)
         | refine v_callN hA (hc:=d_roll l) (hl:=?_)
         | refine v_callM hA (hc:=N1) (hl:=?_)
         | refine v_callM hA (hc:=N2) (hl:=?_)
         | refine v_callE hA (hc:=W1) (hl:=?_)
         | refine v_callE hA (hc:=W2) (hl:=?_)
         | (refine v_callE hA (hc:=s_quoZ h0 ?_ ?_) (hl:=?_);omega;omega)
         | refine v_callE hA (hc:=R1) (hl:=?_)
         | (refine v_callE hA (hc:=s_add ?_ ?_ ?_ ?_) (hl:=?_);omega;omega;omega;omega)
         | (refine v_callE hA (hc:=s_sub ?_ ?_ ?_ ?_) (hl:=?_);omega;omega;omega;omega)
         | (refine v_callE hA (hc:=s_mul ?_ ?_ ?_ ?_) (hl:=?_);omega;omega;omega;omega)
         | (refine v_callE hA (hc:=s_sqr ?_ ?_) (hl:=?_);omega;omega)
         | (refine v_callE hA (hc:=s_round ?_ ?_) (hl:=?_);omega;omega)
         | (refine v_callE hA (hc:=r_add ?_ ?_) (hl:=?_);omega;omega)
         | (refine v_callE hA (hc:=r_sub ?_ ?_) (hl:=?_);omega;omega)
         | (refine v_callE hA (hc:=r_mul ?_ ?_) (hl:=?_);omega;omega)
         | (refine v_callE hA (hc:=s_hasT a1 a2 ?_ ?_ ?_) (hl:=?_);omega;omega;omega)
         | (refine v_callE hA (hc:=s_hasT s1 s2 ?_ ?_ ?_) (hl:=?_);omega;omega;omega)
         | (refine v_callE hA (hc:=s_hasT m1 m2 ?_ ?_ ?_) (hl:=?_);omega;omega;omega)
         | (refine v_callE hA (hc:=s_hasT q1 q2 ?_ ?_ ?_) (hl:=?_);omega;omega;omega)
         | (refine v_callE hA (hc:=s_hasT r1 r2 ?_ ?_ ?_) (hl:=?_);omega;omega;omega)
         | refine v_callE hA (hc:=awake3) (hl:=?_)
         | (apply u_skipU;(case hg=>exact rfl)))
        apply RunK.nil;try refine And.intro (by kernel_rfl) ?_)
     | refine aw_skip ?_ | refine aw_exit ?_)
    refine aw_ret (And.intro (Or.inr rfl) ?_)
    exact f_one
   ·rw [if_neg hn] at R1
    have hb0:0≤b:=sgr_ge.1 (by omega)
    by_cases ha:0≤a
    ·have I1:=s_insideT (j1:=5) (j2:=5) (j3:=2*(1000+3000)+5) (j4:=2*(1000+3000)+5) (w1 ha) (w2 hb0) (by decide) (by decide) (by decide) (by decide)
     refine ctr_body Tryz.func6 rfl rfl rfl rfl rfl rfl ?_
     intro W0 base D μ0 hA
     repeat (first
      | refine aw_seq ?_ | refine aw_block ?_ | refine aw_condT rfl ?_ | refine aw_condF rfl ?_
      | ((first | refine aw_plainK (by kernel_rfl) ?_ | refine aw_drawK (by kernel_rfl) (by kernel_rfl) (by kernel_rfl) ?_)
         repeat (first
          | refine v_skip (hl:=?_)
          | refine v_move (hl:=?_)
          | refine v_assign (hl:=?_)
          | refine v_load (hl:=?_)
          | refine v_fieldAddr (hl:=?_)
          | refine v_store (hl:=?_)
          | refine v_alloc (hl:=?_)
          | refine v_extract (hl:=?_)
          | refine v_bin (hl:=?_)
          | refine v_not (hl:=?_)
          | refine v_pickT (hl:=?_)
          | refine v_pickF (hl:=?_)
          | refine v_eqBool (hl:=?_)
          | refine v_callE hA (hc:=D1) (hl:=?_)
          | refine v_callN hA (hc:=d_roll l) (hl:=?_)
          | refine v_callM hA (hc:=N1) (hl:=?_)
          | refine v_callM hA (hc:=N2) (hl:=?_)
          | refine v_callE hA (hc:=W1) (hl:=?_)
          | refine v_callE hA (hc:=W2) (hl:=?_)
          | (refine v_callE hA (hc:=s_quoZ h0 ?_ ?_) (hl:=?_);omega;omega)
          | refine v_callE hA (hc:=R1) (hl:=?_)
          | refine v_callE hA (hc:=S1) (hl:=?_)
          | refine v_callE hA (hc:=I1) (hl:=?_)
          | refine v_callE hA (hc:=r_sign) (hl:=?_)
          | (refine v_callE hA (hc:=s_add ?_ ?_ ?_ ?_) (hl:=?_);omega;omega;omega;omega)
          | (refine v_callE hA (hc:=s_sub ?_ ?_ ?_ ?_) (hl:=?_);omega;omega;omega;omega)
          | (refine v_callE hA (hc:=s_mul ?_ ?_ ?_ ?_) (hl:=?_);omega;omega;omega;omega)
          | (refine v_callE hA (hc:=s_sqr ?_ ?_) (hl:=?_);omega;omega)
          | (refine v_callE hA (hc:=s_round ?_ ?_) (hl:=?_);omega;omega)
          | (refine v_callE hA (hc:=r_add ?_ ?_) (hl:=?_);omega;omega)
          | (refine v_callE hA (hc:=r_sub ?_ ?_) (hl:=?_);omega;omega)
          | (refine v_callE hA (hc:=r_mul ?_ ?_) (hl:=?_);omega;omega)
          | (refine v_callE hA (hc:=s_hasT a1 a2 ?_ ?_ ?_) (hl:=?_);omega;omega;omega)
          | (refine v_callE hA (hc:=s_hasT s1 s2 ?_ ?_ ?_) (hl:=?_);omega;omega;omega)
          | (refine v_callE hA (hc:=s_hasT m1 m2 ?_ ?_ ?_) (hl:=?_);omega;omega;omega)
          | (refine v_callE hA (hc:=s_hasT q1 q2 ?_ ?_ ?_) (hl:=?_);omega;omega;omega)
          | (refine v_callE hA (hc:=s_hasT r1 r2 ?_ ?_ ?_) (hl:=?_);omega;omega;omega)
          | refine v_callE hA (hc:=awake3) (hl:=?_))
         apply RunK.nil;try refine And.intro (by kernel_rfl) ?_)
      | refine aw_skip ?_ | refine aw_exit ?_)
     refine aw_ret (And.intro (Or.inr rfl) ?_)
     exact f_one
    ·have ba:binR .geq .i64 (sgnR a) 0=some (.bool false):=binGe (decide_eq_false (fun h=>ha (sgr_ge.1 h)))
     have I1:=s_inside (j1:=5) (j2:=5) (j3:=2*(1000+3000)+5) (j4:=2*(1000+3000)+5) (a:=a) (b:=b) (c:=u*u) (d:=v*v) rfl rfl (by decide) (by decide) (by decide) (by decide)
     generalize (decide (cmpR (u*u) a≤0)&&decide (cmpR b (v*v)≤0))=p at I1
     cases p
     ·refine ctr_body Tryz.func6 rfl rfl rfl rfl rfl rfl ?_
      intro W0 base D μ0 hA
      repeat (first
       | refine aw_seq ?_ | refine aw_block ?_ | refine aw_condT rfl ?_ | refine aw_condF rfl ?_
       | ((first | refine aw_plainK (by kernel_rfl) ?_ | refine aw_drawK (by kernel_rfl) (by kernel_rfl) (by kernel_rfl) ?_)
          repeat (first
           | refine v_skip (hl:=?_)
           | refine v_move (hl:=?_)
           | refine v_assign (hl:=?_)
           | refine v_load (hl:=?_)
           | refine v_fieldAddr (hl:=?_)
           | refine v_store (hl:=?_)
           | refine v_alloc (hl:=?_)
           | refine v_extract (hl:=?_)
           | refine v_bin (hl:=?_)
           | refine v_not (hl:=?_)
           | refine v_pickT (hl:=?_)
           | refine v_pickF (hl:=?_)
           | refine v_eqBool (hl:=?_)
           | refine v_callE hA (hc:=D1) (hl:=?_)
           | refine v_callN hA (hc:=d_roll l) (hl:=?_)
           | refine v_callM hA (hc:=N1) (hl:=?_)
           | refine v_callM hA (hc:=N2) (hl:=?_)
           | refine v_callE hA (hc:=W1) (hl:=?_)
           | refine v_callE hA (hc:=W2) (hl:=?_)
           | (refine v_callE hA (hc:=s_quoZ h0 ?_ ?_) (hl:=?_);omega;omega)
           | refine v_callE hA (hc:=R1) (hl:=?_)
           | refine v_callE hA (hc:=S1) (hl:=?_)
           | refine v_callE hA (hc:=I1) (hl:=?_)
           | refine v_callE hA (hc:=r_sign) (hl:=?_)
           | (refine v_callE hA (hc:=s_add ?_ ?_ ?_ ?_) (hl:=?_);omega;omega;omega;omega)
           | (refine v_callE hA (hc:=s_sub ?_ ?_ ?_ ?_) (hl:=?_);omega;omega;omega;omega)
           | (refine v_callE hA (hc:=s_mul ?_ ?_ ?_ ?_) (hl:=?_);omega;omega;omega;omega)
           | (refine v_callE hA (hc:=s_sqr ?_ ?_) (hl:=?_);omega;omega)
           | (refine v_callE hA (hc:=s_round ?_ ?_) (hl:=?_);omega;omega)
           | (refine v_callE hA (hc:=r_add ?_ ?_) (hl:=?_);omega;omega)
           | (refine v_callE hA (hc:=r_sub ?_ ?_) (hl:=?_);omega;omega)
           | (refine v_callE hA (hc:=r_mul ?_ ?_) (hl:=?_);omega;omega)
           | (refine v_callE hA (hc:=s_hasT a1 a2 ?_ ?_ ?_) (hl:=?_);omega;omega;omega)
           | (refine v_callE hA (hc:=s_hasT s1 s2 ?_ ?_ ?_) (hl:=?_);omega;omega;omega)
           | (refine v_callE hA (hc:=s_hasT m1 m2 ?_ ?_ ?_) (hl:=?_);omega;omega;omega)
           | (refine v_callE hA (hc:=s_hasT q1 q2 ?_ ?_ ?_) (hl:=?_);omega;omega;omega)
           | (refine v_callE hA (hc:=s_hasT r1 r2 ?_ ?_ ?_) (hl:=?_);omega;omega;omega)
           | refine v_callE hA (hc:=awake3) (hl:=?_))
          apply RunK.nil;try refine And.intro (by kernel_rfl) ?_)
       | refine aw_skip ?_ | refine aw_exit ?_)
      refine aw_ret (And.intro (Or.inr rfl) ?_)
      exact f_one
     ·refine ctr_body Tryz.func6 rfl rfl rfl rfl rfl rfl ?_
      intro W0 base D μ0 hA
      repeat (first
       | refine aw_seq ?_ | refine aw_block ?_ | refine aw_condT rfl ?_ | refine aw_condF rfl ?_
       | ((first | refine aw_plainK (by kernel_rfl) ?_ | refine aw_drawK (by kernel_rfl) (by kernel_rfl) (by kernel_rfl) ?_)
          repeat (first
           | refine v_skip (hl:=?_)
           | refine v_move (hl:=?_)
           | refine v_assign (hl:=?_)
           | refine v_load (hl:=?_)
           | refine v_fieldAddr (hl:=?_)
           | refine v_store (hl:=?_)
           | refine v_alloc (hl:=?_)
           | refine v_extract (hl:=?_)
           | refine v_bin (hl:=?_)
           | refine v_not (hl:=?_)
           | refine v_pickT (hl:=?_)
           | refine v_pickF (hl:=?_)
           | refine v_eqBool (hl:=?_)
           | refine v_callE hA (hc:=D1) (hl:=?_)
           | refine v_callN hA (hc:=d_roll l) (hl:=?_)
           | refine v_callM hA (hc:=N1) (hl:=?_)
           | refine v_callM hA (hc:=N2) (hl:=?_)
           | refine v_callE hA (hc:=W1) (hl:=?_)
           | refine v_callE hA (hc:=W2) (hl:=?_)
           | (refine v_callE hA (hc:=s_quoZ h0 ?_ ?_) (hl:=?_);omega;omega)
           | refine v_callE hA (hc:=R1) (hl:=?_)
           | refine v_callE hA (hc:=S1) (hl:=?_)
           | refine v_callE hA (hc:=I1) (hl:=?_)
           | refine v_callE hA (hc:=r_sign) (hl:=?_)
           | (refine v_callE hA (hc:=s_add ?_ ?_ ?_ ?_) (hl:=?_);omega;omega;omega;omega)
           | (refine v_callE hA (hc:=s_sub ?_ ?_ ?_ ?_) (hl:=?_);omega;omega;omega;omega)
           | (refine v_callE hA (hc:=s_mul ?_ ?_ ?_ ?_) (hl:=?_);omega;omega;omega;omega)
           | (refine v_callE hA (hc:=s_sqr ?_ ?_) (hl:=?_);omega;omega)
           | (refine v_callE hA (hc:=s_round ?_ ?_) (hl:=?_);omega;omega)
           | (refine v_callE hA (hc:=r_add ?_ ?_) (hl:=?_);omega;omega)
           | (refine v_callE hA (hc:=r_sub ?_ ?_) (hl:=?_);omega;omega)
           | (refine v_callE hA (hc:=r_mul ?_ ?_) (hl:=?_);omega;omega)
           | (refine v_callE hA (hc:=s_hasT a1 a2 ?_ ?_ ?_) (hl:=?_);omega;omega;omega)
           | (refine v_callE hA (hc:=s_hasT s1 s2 ?_ ?_ ?_) (hl:=?_);omega;omega;omega)
           | (refine v_callE hA (hc:=s_hasT m1 m2 ?_ ?_ ?_) (hl:=?_);omega;omega;omega)
           | (refine v_callE hA (hc:=s_hasT q1 q2 ?_ ?_ ?_) (hl:=?_);omega;omega;omega)
           | (refine v_callE hA (hc:=s_hasT r1 r2 ?_ ?_ ?_) (hl:=?_);omega;omega;omega)
           | refine v_callE hA (hc:=awake3) (hl:=?_))
          apply RunK.nil;try refine And.intro (by kernel_rfl) ?_)
       | refine aw_skip ?_ | refine aw_exit ?_)
      refine aw_ret (And.intro (Or.inr rfl) ?_)
      exact f_one
  ·obtain ⟨i1,hc0,he0⟩:=inv_le le2 h0
   have hy0:y≠0:=fun h=>h0 ⟨by grind,by grind⟩
   obtain ⟨k1,_,_⟩:=inv_le y1 (fun h=>h0 ⟨h.1,by grind⟩)
   obtain ⟨k2,_,_⟩:=inv_le y2 (fun h=>h0 ⟨by grind,h.2⟩)
   obtain ⟨p1,p2⟩:=mulS_has (x:=x) (y:=1/y) x1 x2 k2 k1
   have hdiv:x*(1/y)=x/y:=by rw [Rat.div_def,Rat.div_def,Rat.one_mul]
   rw [hdiv] at p1 p2
   have O1:=r_over (j:=25) (k:=25) (x:=x) (y:=y) (by decide) (by decide) hy0
   clear k1 k2 i1
   by_cases hn:sgnR b<0
   ·rw [if_pos hn] at R1
    refine ctr_body Tryz.func6 rfl rfl rfl rfl rfl rfl ?_
    intro W0 base D μ0 hA
    repeat (first
     | refine aw_seq ?_ | refine aw_block ?_ | refine aw_condT rfl ?_ | refine aw_condF rfl ?_
     | ((first | refine aw_plainK (by kernel_rfl) ?_ | refine aw_drawK (by kernel_rfl) (by kernel_rfl) (by kernel_rfl) ?_)
        repeat (first
         | refine v_skip (hl:=?_)
         | refine v_move (hl:=?_)
         | refine v_assign (hl:=?_)
         | refine v_load (hl:=?_)
         | refine v_fieldAddr (hl:=?_)
         | refine v_store (hl:=?_)
         | refine v_alloc (hl:=?_)
         | refine v_extract (hl:=?_)
         | refine v_bin (hl:=?_)
         | refine v_not (hl:=?_)
         | refine v_pickT (hl:=?_)
         | refine v_pickF (hl:=?_)
         | refine v_eqBool (hl:=?_)
         | refine v_callE hA (hc:=D1) (hl:=?_)
         | refine v_callN hA (hc:=d_roll l) (hl:=?_)
         | refine v_callM hA (hc:=N1) (hl:=?_)
         | refine v_callM hA (hc:=N2) (hl:=?_)
         | refine v_callE hA (hc:=W1) (hl:=?_)
         | refine v_callE hA (hc:=W2) (hl:=?_)
         | (refine v_callE hA (hc:=s_quoN h0 le2 ?_ ?_ ?_ ?_) (hl:=?_);omega;omega;omega;omega)
         | refine v_callE hA (hc:=O1) (hl:=?_)
         | (refine v_callE hA (hc:=s_hasT p1 p2 ?_ ?_ ?_) (hl:=?_);omega;omega;omega)
         | refine v_callE hA (hc:=R1) (hl:=?_)
         | (refine v_callE hA (hc:=s_add ?_ ?_ ?_ ?_) (hl:=?_);omega;omega;omega;omega)
         | (refine v_callE hA (hc:=s_sub ?_ ?_ ?_ ?_) (hl:=?_);omega;omega;omega;omega)
         | (refine v_callE hA (hc:=s_mul ?_ ?_ ?_ ?_) (hl:=?_);omega;omega;omega;omega)
         | (refine v_callE hA (hc:=s_sqr ?_ ?_) (hl:=?_);omega;omega)
         | (refine v_callE hA (hc:=s_round ?_ ?_) (hl:=?_);omega;omega)
         | (refine v_callE hA (hc:=r_add ?_ ?_) (hl:=?_);omega;omega)
         | (refine v_callE hA (hc:=r_sub ?_ ?_) (hl:=?_);omega;omega)
         | (refine v_callE hA (hc:=r_mul ?_ ?_) (hl:=?_);omega;omega)
         | (refine v_callE hA (hc:=s_hasT a1 a2 ?_ ?_ ?_) (hl:=?_);omega;omega;omega)
         | (refine v_callE hA (hc:=s_hasT s1 s2 ?_ ?_ ?_) (hl:=?_);omega;omega;omega)
         | (refine v_callE hA (hc:=s_hasT m1 m2 ?_ ?_ ?_) (hl:=?_);omega;omega;omega)
         | (refine v_callE hA (hc:=s_hasT q1 q2 ?_ ?_ ?_) (hl:=?_);omega;omega;omega)
         | (refine v_callE hA (hc:=s_hasT r1 r2 ?_ ?_ ?_) (hl:=?_);omega;omega;omega)
         | refine v_callE hA (hc:=awake3) (hl:=?_)
         | (apply u_skipU;(case hg=>exact rfl)))
        apply RunK.nil;try refine And.intro (by kernel_rfl) ?_)
     | refine aw_skip ?_ | refine aw_exit ?_)
    refine aw_ret (And.intro (Or.inr rfl) ?_)
    exact f_one
   ·rw [if_neg hn] at R1
    have hb0:0≤b:=sgr_ge.1 (by omega)
    by_cases ha:0≤a
    ·have I1:=s_insideT (j1:=5) (j2:=5) (j3:=2*(1000+3000)+5) (j4:=2*(1000+3000)+5) (w1 ha) (w2 hb0) (by decide) (by decide) (by decide) (by decide)
     refine ctr_body Tryz.func6 rfl rfl rfl rfl rfl rfl ?_
     intro W0 base D μ0 hA
     repeat (first
      | refine aw_seq ?_ | refine aw_block ?_ | refine aw_condT rfl ?_ | refine aw_condF rfl ?_
      | ((first | refine aw_plainK (by kernel_rfl) ?_ | refine aw_drawK (by kernel_rfl) (by kernel_rfl) (by kernel_rfl) ?_)
         repeat (first
          | refine v_skip (hl:=?_)
          | refine v_move (hl:=?_)
          | refine v_assign (hl:=?_)
          | refine v_load (hl:=?_)
          | refine v_fieldAddr (hl:=?_)
          | refine v_store (hl:=?_)
          | refine v_alloc (hl:=?_)
          | refine v_extract (hl:=?_)
          | refine v_bin (hl:=?_)
          | refine v_not (hl:=?_)
          | refine v_pickT (hl:=?_)
          | refine v_pickF (hl:=?_)
          | refine v_eqBool (hl:=?_)
          | refine v_callE hA (hc:=D1) (hl:=?_)
          | refine v_callN hA (hc:=d_roll l) (hl:=?_)
          | refine v_callM hA (hc:=N1) (hl:=?_)
          | refine v_callM hA (hc:=N2) (hl:=?_)
          | refine v_callE hA (hc:=W1) (hl:=?_)
          | refine v_callE hA (hc:=W2) (hl:=?_)
          | (refine v_callE hA (hc:=s_quoN h0 le2 ?_ ?_ ?_ ?_) (hl:=?_);omega;omega;omega;omega)
          | refine v_callE hA (hc:=O1) (hl:=?_)
          | (refine v_callE hA (hc:=s_hasT p1 p2 ?_ ?_ ?_) (hl:=?_);omega;omega;omega)
          | refine v_callE hA (hc:=R1) (hl:=?_)
          | refine v_callE hA (hc:=S1) (hl:=?_)
          | refine v_callE hA (hc:=I1) (hl:=?_)
          | refine v_callE hA (hc:=r_sign) (hl:=?_)
          | (refine v_callE hA (hc:=s_add ?_ ?_ ?_ ?_) (hl:=?_);omega;omega;omega;omega)
          | (refine v_callE hA (hc:=s_sub ?_ ?_ ?_ ?_) (hl:=?_);omega;omega;omega;omega)
          | (refine v_callE hA (hc:=s_mul ?_ ?_ ?_ ?_) (hl:=?_);omega;omega;omega;omega)
          | (refine v_callE hA (hc:=s_sqr ?_ ?_) (hl:=?_);omega;omega)
          | (refine v_callE hA (hc:=s_round ?_ ?_) (hl:=?_);omega;omega)
          | (refine v_callE hA (hc:=r_add ?_ ?_) (hl:=?_);omega;omega)
          | (refine v_callE hA (hc:=r_sub ?_ ?_) (hl:=?_);omega;omega)
          | (refine v_callE hA (hc:=r_mul ?_ ?_) (hl:=?_);omega;omega)
          | (refine v_callE hA (hc:=s_hasT a1 a2 ?_ ?_ ?_) (hl:=?_);omega;omega;omega)
          | (refine v_callE hA (hc:=s_hasT s1 s2 ?_ ?_ ?_) (hl:=?_);omega;omega;omega)
          | (refine v_callE hA (hc:=s_hasT m1 m2 ?_ ?_ ?_) (hl:=?_);omega;omega;omega)
          | (refine v_callE hA (hc:=s_hasT q1 q2 ?_ ?_ ?_) (hl:=?_);omega;omega;omega)
          | (refine v_callE hA (hc:=s_hasT r1 r2 ?_ ?_ ?_) (hl:=?_);omega;omega;omega)
          | refine v_callE hA (hc:=awake3) (hl:=?_))
         apply RunK.nil;try refine And.intro (by kernel_rfl) ?_)
      | refine aw_skip ?_ | refine aw_exit ?_)
     refine aw_ret (And.intro (Or.inr rfl) ?_)
     exact f_one
    ·have ba:binR .geq .i64 (sgnR a) 0=some (.bool false):=binGe (decide_eq_false (fun h=>ha (sgr_ge.1 h)))
     have I1:=s_inside (j1:=5) (j2:=5) (j3:=2*(1000+3000)+5) (j4:=2*(1000+3000)+5) (a:=a) (b:=b) (c:=u*u) (d:=v*v) rfl rfl (by decide) (by decide) (by decide) (by decide)
     generalize (decide (cmpR (u*u) a≤0)&&decide (cmpR b (v*v)≤0))=p at I1
     cases p
     ·refine ctr_body Tryz.func6 rfl rfl rfl rfl rfl rfl ?_
      intro W0 base D μ0 hA
      repeat (first
       | refine aw_seq ?_ | refine aw_block ?_ | refine aw_condT rfl ?_ | refine aw_condF rfl ?_
       | ((first | refine aw_plainK (by kernel_rfl) ?_ | refine aw_drawK (by kernel_rfl) (by kernel_rfl) (by kernel_rfl) ?_)
          repeat (first
           | refine v_skip (hl:=?_)
           | refine v_move (hl:=?_)
           | refine v_assign (hl:=?_)
           | refine v_load (hl:=?_)
           | refine v_fieldAddr (hl:=?_)
           | refine v_store (hl:=?_)
           | refine v_alloc (hl:=?_)
           | refine v_extract (hl:=?_)
           | refine v_bin (hl:=?_)
           | refine v_not (hl:=?_)
           | refine v_pickT (hl:=?_)
           | refine v_pickF (hl:=?_)
           | refine v_eqBool (hl:=?_)
           | refine v_callE hA (hc:=D1) (hl:=?_)
           | refine v_callN hA (hc:=d_roll l) (hl:=?_)
           | refine v_callM hA (hc:=N1) (hl:=?_)
           | refine v_callM hA (hc:=N2) (hl:=?_)
           | refine v_callE hA (hc:=W1) (hl:=?_)
           | refine v_callE hA (hc:=W2) (hl:=?_)
           | (refine v_callE hA (hc:=s_quoN h0 le2 ?_ ?_ ?_ ?_) (hl:=?_);omega;omega;omega;omega)
           | refine v_callE hA (hc:=O1) (hl:=?_)
           | (refine v_callE hA (hc:=s_hasT p1 p2 ?_ ?_ ?_) (hl:=?_);omega;omega;omega)
           | refine v_callE hA (hc:=R1) (hl:=?_)
           | refine v_callE hA (hc:=S1) (hl:=?_)
           | refine v_callE hA (hc:=I1) (hl:=?_)
           | refine v_callE hA (hc:=r_sign) (hl:=?_)
           | (refine v_callE hA (hc:=s_add ?_ ?_ ?_ ?_) (hl:=?_);omega;omega;omega;omega)
           | (refine v_callE hA (hc:=s_sub ?_ ?_ ?_ ?_) (hl:=?_);omega;omega;omega;omega)
           | (refine v_callE hA (hc:=s_mul ?_ ?_ ?_ ?_) (hl:=?_);omega;omega;omega;omega)
           | (refine v_callE hA (hc:=s_sqr ?_ ?_) (hl:=?_);omega;omega)
           | (refine v_callE hA (hc:=s_round ?_ ?_) (hl:=?_);omega;omega)
           | (refine v_callE hA (hc:=r_add ?_ ?_) (hl:=?_);omega;omega)
           | (refine v_callE hA (hc:=r_sub ?_ ?_) (hl:=?_);omega;omega)
           | (refine v_callE hA (hc:=r_mul ?_ ?_) (hl:=?_);omega;omega)
           | (refine v_callE hA (hc:=s_hasT a1 a2 ?_ ?_ ?_) (hl:=?_);omega;omega;omega)
           | (refine v_callE hA (hc:=s_hasT s1 s2 ?_ ?_ ?_) (hl:=?_);omega;omega;omega)
           | (refine v_callE hA (hc:=s_hasT m1 m2 ?_ ?_ ?_) (hl:=?_);omega;omega;omega)
           | (refine v_callE hA (hc:=s_hasT q1 q2 ?_ ?_ ?_) (hl:=?_);omega;omega;omega)
           | (refine v_callE hA (hc:=s_hasT r1 r2 ?_ ?_ ?_) (hl:=?_);omega;omega;omega)
           | refine v_callE hA (hc:=awake3) (hl:=?_))
          apply RunK.nil;try refine And.intro (by kernel_rfl) ?_)
       | refine aw_skip ?_ | refine aw_exit ?_)
      refine aw_ret (And.intro (Or.inr rfl) ?_)
      exact f_one
     ·refine ctr_body Tryz.func6 rfl rfl rfl rfl rfl rfl ?_
      intro W0 base D μ0 hA
      repeat (first
       | refine aw_seq ?_ | refine aw_block ?_ | refine aw_condT rfl ?_ | refine aw_condF rfl ?_
       | ((first | refine aw_plainK (by kernel_rfl) ?_ | refine aw_drawK (by kernel_rfl) (by kernel_rfl) (by kernel_rfl) ?_)
          repeat (first
           | refine v_skip (hl:=?_)
           | refine v_move (hl:=?_)
           | refine v_assign (hl:=?_)
           | refine v_load (hl:=?_)
           | refine v_fieldAddr (hl:=?_)
           | refine v_store (hl:=?_)
           | refine v_alloc (hl:=?_)
           | refine v_extract (hl:=?_)
           | refine v_bin (hl:=?_)
           | refine v_not (hl:=?_)
           | refine v_pickT (hl:=?_)
           | refine v_pickF (hl:=?_)
           | refine v_eqBool (hl:=?_)
           | refine v_callE hA (hc:=D1) (hl:=?_)
           | refine v_callN hA (hc:=d_roll l) (hl:=?_)
           | refine v_callM hA (hc:=N1) (hl:=?_)
           | refine v_callM hA (hc:=N2) (hl:=?_)
           | refine v_callE hA (hc:=W1) (hl:=?_)
           | refine v_callE hA (hc:=W2) (hl:=?_)
           | (refine v_callE hA (hc:=s_quoN h0 le2 ?_ ?_ ?_ ?_) (hl:=?_);omega;omega;omega;omega)
           | refine v_callE hA (hc:=O1) (hl:=?_)
           | (refine v_callE hA (hc:=s_hasT p1 p2 ?_ ?_ ?_) (hl:=?_);omega;omega;omega)
           | refine v_callE hA (hc:=R1) (hl:=?_)
           | refine v_callE hA (hc:=S1) (hl:=?_)
           | refine v_callE hA (hc:=I1) (hl:=?_)
           | refine v_callE hA (hc:=r_sign) (hl:=?_)
           | (refine v_callE hA (hc:=s_add ?_ ?_ ?_ ?_) (hl:=?_);omega;omega;omega;omega)
           | (refine v_callE hA (hc:=s_sub ?_ ?_ ?_ ?_) (hl:=?_);omega;omega;omega;omega)
           | (refine v_callE hA (hc:=s_mul ?_ ?_ ?_ ?_) (hl:=?_);omega;omega;omega;omega)
           | (refine v_callE hA (hc:=s_sqr ?_ ?_) (hl:=?_);omega;omega)
           | (refine v_callE hA (hc:=s_round ?_ ?_) (hl:=?_);omega;omega)
           | (refine v_callE hA (hc:=r_add ?_ ?_) (hl:=?_);omega;omega)
           | (refine v_callE hA (hc:=r_sub ?_ ?_) (hl:=?_);omega;omega)
           | (refine v_callE hA (hc:=r_mul ?_ ?_) (hl:=?_);omega;omega)
           | (refine v_callE hA (hc:=s_hasT a1 a2 ?_ ?_ ?_) (hl:=?_);omega;omega;omega)
           | (refine v_callE hA (hc:=s_hasT s1 s2 ?_ ?_ ?_) (hl:=?_);omega;omega;omega)
           | (refine v_callE hA (hc:=s_hasT m1 m2 ?_ ?_ ?_) (hl:=?_);omega;omega;omega)
           | (refine v_callE hA (hc:=s_hasT q1 q2 ?_ ?_ ?_) (hl:=?_);omega;omega;omega)
           | (refine v_callE hA (hc:=s_hasT r1 r2 ?_ ?_ ?_) (hl:=?_);omega;omega;omega)
           | refine v_callE hA (hc:=awake3) (hl:=?_))
          apply RunK.nil;try refine And.intro (by kernel_rfl) ?_)
       | refine aw_skip ?_ | refine aw_exit ?_)
      refine aw_ret (And.intro (Or.inr rfl) ?_)
      exact f_one
 ·have D1:=light' (decide_eq_false hL)
  refine ctr_body Tryz.func6 rfl rfl rfl rfl rfl rfl ?_
  intro W0 base D μ0 hA
  repeat (first
   | refine aw_seq ?_ | refine aw_block ?_ | refine aw_condT rfl ?_ | refine aw_condF rfl ?_
   | ((first | refine aw_plainK (by kernel_rfl) ?_ | refine aw_drawK (by kernel_rfl) (by kernel_rfl) (by kernel_rfl) ?_)
      repeat (first
       | refine v_skip (hl:=?_)
       | refine v_move (hl:=?_)
       | refine v_assign (hl:=?_)
       | refine v_load (hl:=?_)
       | refine v_fieldAddr (hl:=?_)
       | refine v_store (hl:=?_)
       | refine v_alloc (hl:=?_)
       | refine v_extract (hl:=?_)
       | refine v_bin (hl:=?_)
       | refine v_not (hl:=?_)
       | refine v_pickT (hl:=?_)
       | refine v_pickF (hl:=?_)
       | refine v_eqBool (hl:=?_)
       | refine v_callE hA (hc:=D1) (hl:=?_)
       | refine v_callE hA (hc:=awake3) (hl:=?_))
      apply RunK.nil;try refine And.intro (by kernel_rfl) ?_)
   | refine aw_skip ?_ | refine aw_exit ?_)
  refine aw_ret (And.intro (Or.inr rfl) ?_)
  exact f_one
end contains
end Go.Proofs.YtemmbphdcgdboaaGreatDoor
