/-
  SpanRoots, by contracts.
-/
import Derived.Test.YtemmbphdcgdboaaGreatDoorHd
import Derived.Test.YtemmbphdcgdboaaGreatDoorGf
namespace Go.Proofs.YtemmbphdcgdboaaGreatDoor
open Go.RowKit
set_option linter.unusedVariables false
set_option linter.unusedSimpArgs false
set_option maxRecDepth 20000
set_option maxHeartbeats 8000000
namespace roots
theorem light' {l:List Int} {b:Bool} (h:decide ((l.length:Int)≤500)=b):Ctr Tryz.prog Amb 9 [.one (.ints l)] (.one (.v (.bool b))):=h▸d_light l
theorem law {l:List Int} {k:Int} (hb: ∀x∈l,-9223372036854775808≤x∧x<9223372036854775808) (n1: -9223372036854775808≤k) (n2:k<9223372036854775808):
  Ctr Tryz.prog Amb 4 [.one (.ints l),.one (.v (.int .i64 k))] (.one (.v (.bool true))):=by
 by_cases hL:(l.length:Int)≤500
 ·have hl:l.length≤1000000:=by omega
  have D1:=light' (decide_eq_true hL)
  have N1:=d_span (k:=23) hb hl (Nat.zero_le _)
  have le1:=spanD_le l 0
  obtain ⟨z1,z2⟩:=spanD_sz l 0
  generalize (spanD l 0).1=a at*
  generalize (spanD l 0).2.1=b at*
  have b1:=bits_sz z1.1
  have b2:=bits_sz z1.2
  have b3:=bits_sz z2.1
  have b4:=bits_sz z2.2
  have R1:=s_root (j1:=5) (j2:=5) (a:=a) (b:=b) (k:=k) (by decide) (by decide) (by omega) (by omega) (by omega) (by omega)
  have R2:=t_rootS (j1:=5) (j2:=5) (a:=a) (b:=b) (k:=k) (by decide) (by decide) (by omega) (by omega)
  clear b1 b2 b3 b4
  by_cases h1:k>60
  ·have c1:=binGt (k:= .i64) (decide_eq_true h1)
   by_cases h2:k≤4096
   ·have c2:=binLe (k:= .i64) (decide_eq_true h2)
    refine ctr_body Tryz.func4 rfl rfl rfl rfl rfl rfl ?_
    intro W0 base D μ0 hA
    repeat (first
     | refine aw_seq ?_ | refine aw_block ?_ | refine aw_condT rfl ?_ | refine aw_condF rfl ?_
     | ((first | refine aw_plainK (by kernel_rfl) ?_ | refine aw_drawK (by kernel_rfl) (by kernel_rfl) (by kernel_rfl) ?_)
        repeat (first
         | refine v_skip (hl:=?_)
         | refine v_move (hl:=?_)
         | refine v_assign (hl:=?_)
         | refine v_load (hl:=?_)
         | refine v_store (hl:=?_)
         | refine v_alloc (hl:=?_)
         | refine v_extract (hl:=?_)
         | refine v_bin (hl:=?_)
         | refine v_not (hl:=?_)
         | refine v_pickT (hl:=?_)
         | refine v_pickF (hl:=?_)
         | refine v_eqBool (hl:=?_)
         | refine v_callE hA (hc:=D1) (hl:=?_)
         | refine v_callE hA (hc:=awake3) (hl:=?_))
        apply RunK.nil;try refine And.intro (by kernel_rfl) ?_)
     | refine aw_skip ?_ | refine aw_exit ?_)
    refine aw_ret (And.intro (Or.inr rfl) ?_)
    exact f_one
   ·have c2:=binLe (k:= .i64) (decide_eq_false h2)
    have c3:=binGt (k:= .i64) (decide_eq_true (show k>4096 by omega))
    refine ctr_body Tryz.func4 rfl rfl rfl rfl rfl rfl ?_
    intro W0 base D μ0 hA
    repeat (first
     | refine aw_seq ?_ | refine aw_block ?_ | refine aw_condT rfl ?_ | refine aw_condF rfl ?_
     | ((first | refine aw_plainK (by kernel_rfl) ?_ | refine aw_drawK (by kernel_rfl) (by kernel_rfl) (by kernel_rfl) ?_)
        repeat (first
         | refine v_skip (hl:=?_)
         | refine v_move (hl:=?_)
         | refine v_assign (hl:=?_)
         | refine v_load (hl:=?_)
         | refine v_store (hl:=?_)
         | refine v_alloc (hl:=?_)
         | refine v_extract (hl:=?_)
         | refine v_bin (hl:=?_)
         | refine v_not (hl:=?_)
         | refine v_pickT (hl:=?_)
         | refine v_pickF (hl:=?_)
         | refine v_eqBool (hl:=?_)
         | refine v_callE hA (hc:=D1) (hl:=?_)
         | refine v_callN hA (hc:=d_roll l) (hl:=?_)
         | refine v_callM hA (hc:=N1) (hl:=?_)
         | (refine v_callE hA (hc:=s_round ?_ ?_) (hl:=?_);omega;omega)
         | (refine v_callE hA (hc:=t_round ?_ ?_) (hl:=?_);omega;omega)
         | refine v_callE hA (hc:=t_sameT) (hl:=?_)
         | refine v_callE hA (hc:=awake3) (hl:=?_))
        apply RunK.nil;try refine And.intro (by kernel_rfl) ?_)
     | refine aw_skip ?_ | refine aw_exit ?_)
    refine aw_ret (And.intro (Or.inr rfl) ?_)
    exact f_one
  ·have c1:=binGt (k:= .i64) (decide_eq_false h1)
   have c3:=binGt (k:= .i64) (decide_eq_false (show ¬k>4096 by omega))
   by_cases hn:sgnR b<0
   ·rw [if_pos hn] at R1 R2
    refine ctr_body Tryz.func4 rfl rfl rfl rfl rfl rfl ?_
    intro W0 base D μ0 hA
    repeat (first
     | refine aw_seq ?_ | refine aw_block ?_ | refine aw_condT rfl ?_ | refine aw_condF rfl ?_
     | ((first | refine aw_plainK (by kernel_rfl) ?_ | refine aw_drawK (by kernel_rfl) (by kernel_rfl) (by kernel_rfl) ?_)
        repeat (first
         | refine v_skip (hl:=?_)
         | refine v_move (hl:=?_)
         | refine v_assign (hl:=?_)
         | refine v_load (hl:=?_)
         | refine v_store (hl:=?_)
         | refine v_alloc (hl:=?_)
         | refine v_extract (hl:=?_)
         | refine v_bin (hl:=?_)
         | refine v_not (hl:=?_)
         | refine v_pickT (hl:=?_)
         | refine v_pickF (hl:=?_)
         | refine v_eqBool (hl:=?_)
         | refine v_callE hA (hc:=D1) (hl:=?_)
         | refine v_callN hA (hc:=d_roll l) (hl:=?_)
         | refine v_callM hA (hc:=N1) (hl:=?_)
         | refine v_callE hA (hc:=R1) (hl:=?_)
         | refine v_callE hA (hc:=R2) (hl:=?_)
         | (refine v_callE hA (hc:=s_round ?_ ?_) (hl:=?_);omega;omega)
         | (refine v_callE hA (hc:=t_round ?_ ?_) (hl:=?_);omega;omega)
         | refine v_callE hA (hc:=t_sameT) (hl:=?_)
         | refine v_callE hA (hc:=awake3) (hl:=?_))
        apply RunK.nil;try refine And.intro (by kernel_rfl) ?_)
     | refine aw_skip ?_ | refine aw_exit ?_)
    refine aw_ret (And.intro (Or.inr rfl) ?_)
    exact f_one
   ·rw [if_neg hn] at R1 R2
    generalize rootR a (scaleQ k)=u at*
    generalize rootH b (scaleQ k)=v at*
    refine ctr_body Tryz.func4 rfl rfl rfl rfl rfl rfl ?_
    intro W0 base D μ0 hA
    repeat (first
     | refine aw_seq ?_ | refine aw_block ?_ | refine aw_condT rfl ?_ | refine aw_condF rfl ?_
     | ((first | refine aw_plainK (by kernel_rfl) ?_ | refine aw_drawK (by kernel_rfl) (by kernel_rfl) (by kernel_rfl) ?_)
        repeat (first
         | refine v_skip (hl:=?_)
         | refine v_move (hl:=?_)
         | refine v_assign (hl:=?_)
         | refine v_load (hl:=?_)
         | refine v_store (hl:=?_)
         | refine v_alloc (hl:=?_)
         | refine v_extract (hl:=?_)
         | refine v_bin (hl:=?_)
         | refine v_not (hl:=?_)
         | refine v_pickT (hl:=?_)
         | refine v_pickF (hl:=?_)
         | refine v_eqBool (hl:=?_)
         | refine v_callE hA (hc:=D1) (hl:=?_)
         | refine v_callN hA (hc:=d_roll l) (hl:=?_)
         | refine v_callM hA (hc:=N1) (hl:=?_)
         | refine v_callE hA (hc:=R1) (hl:=?_)
         | refine v_callE hA (hc:=R2) (hl:=?_)
         | (refine v_callE hA (hc:=s_round ?_ ?_) (hl:=?_);omega;omega)
         | (refine v_callE hA (hc:=t_round ?_ ?_) (hl:=?_);omega;omega)
         | refine v_callE hA (hc:=t_sameT) (hl:=?_)
         | refine v_callE hA (hc:=awake3) (hl:=?_))
        apply RunK.nil;try refine And.intro (by kernel_rfl) ?_)
     | refine aw_skip ?_ | refine aw_exit ?_)
    refine aw_ret (And.intro (Or.inr rfl) ?_)
    exact f_one
 ·have D1:=light' (decide_eq_false hL)
  refine ctr_body Tryz.func4 rfl rfl rfl rfl rfl rfl ?_
  intro W0 base D μ0 hA
  repeat (first
   | refine aw_seq ?_ | refine aw_block ?_ | refine aw_condT rfl ?_ | refine aw_condF rfl ?_
   | ((first | refine aw_plainK (by kernel_rfl) ?_ | refine aw_drawK (by kernel_rfl) (by kernel_rfl) (by kernel_rfl) ?_)
      repeat (first
       | refine v_skip (hl:=?_)
       | refine v_move (hl:=?_)
       | refine v_assign (hl:=?_)
       | refine v_load (hl:=?_)
       | refine v_store (hl:=?_)
       | refine v_alloc (hl:=?_)
       | refine v_extract (hl:=?_)
       | refine v_bin (hl:=?_)
       | refine v_not (hl:=?_)
       | refine v_pickT (hl:=?_)
       | refine v_pickF (hl:=?_)
       | refine v_eqBool (hl:=?_)
       | refine v_callE hA (hc:=D1) (hl:=?_)
       | refine v_callE hA (hc:=awake3) (hl:=?_)
       | (apply u_skipU;(case hg=>exact rfl)))
      apply RunK.nil;try refine And.intro (by kernel_rfl) ?_)
   | refine aw_skip ?_ | refine aw_exit ?_)
  refine aw_ret (And.intro (Or.inr rfl) ?_)
  exact f_one
end roots
end Go.Proofs.YtemmbphdcgdboaaGreatDoor
