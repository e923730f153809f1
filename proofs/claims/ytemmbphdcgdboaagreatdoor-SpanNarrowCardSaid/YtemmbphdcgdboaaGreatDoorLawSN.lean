/-
  SpanNarrow, by contracts.
-/
import Derived.Test.YtemmbphdcgdboaaGreatDoorHc
import Derived.Test.YtemmbphdcgdboaaGreatDoorGf
namespace Go.Proofs.YtemmbphdcgdboaaGreatDoor
open Go.RowKit
set_option linter.unusedVariables false
set_option linter.unusedSimpArgs false
set_option maxRecDepth 20000
set_option maxHeartbeats 8000000
namespace narrow
theorem light' {l:List Int} {b:Bool} (h:decide ((l.length:Int)≤500)=b):Ctr Tryz.prog Amb 9 [.one (.ints l)] (.one (.v (.bool b))):=h▸d_light l
theorem law {l:List Int} {i j:Int} (hb: ∀x∈l,-9223372036854775808≤x∧x<9223372036854775808) (n1: -9223372036854775808≤i) (n2:i<9223372036854775808) (d1: -9223372036854775808≤j) (d2:j<9223372036854775808):
  Ctr Tryz.prog Amb 7 [.one (.ints l),.one (.v (.int .i64 i)),.one (.v (.int .i64 j))] (.one (.v (.bool true))):=by
 by_cases hL:(l.length:Int)≤500
 ·have hl:l.length≤1000000:=by omega
  have D1:=light' (decide_eq_true hL)
  have N1:=d_span (k:=20) hb hl (Nat.zero_le _)
  have N2:=d_span (k:=20) hb hl (spanD_bd l 0 (Nat.zero_le _))
  have le1:=spanD_le l 0
  have le2:=spanD_le l (spanD l 0).2.2
  generalize (spanD l 0).1=a at*
  generalize (spanD l 0).2.1=b at*
  generalize (spanD l (spanD l 0).2.2).1=c at*
  generalize (spanD l (spanD l 0).2.2).2.1=e at*
  have le1:a≤b:=by grind
  have le2:c≤e:=by grind
  have W1:=d_within (j1:=5) (j2:=5) (a:=a) (b:=b) n1 n2 (by decide) (by decide)
  have W2:=d_within (j1:=5) (j2:=5) (a:=a) (b:=b) d1 d2 (by decide) (by decide)
  obtain ⟨x1,x2⟩:=within le1 (partR_bd i).1 (partR_bd i).2
  obtain ⟨y1,y2⟩:=within le1 (partR_bd j).1 (partR_bd j).2
  generalize a+partR i*(b-a)=x at*
  generalize a+partR j*(b-a)=y at*
  have O1:=s_of (j1:=25) (j2:=25) (a:=x) (b:=y) (by decide) (by decide)
  have u1:a≤mn x y:=by rcases mn_cases x y with ⟨h,_⟩ | ⟨h,_⟩<;>rw [h]<;>assumption
  have u3:mx x y≤b:=by rcases mx_cases x y with ⟨h,_⟩ | ⟨h,_⟩<;>rw [h]<;>assumption
  have u2:mn x y≤mx x y:=by rcases mn_cases x y with ⟨h,_⟩ | ⟨h,_⟩<;>rcases mx_cases x y with ⟨h2,_⟩ | ⟨h2,_⟩<;>rw [h,h2]<;>grind
  generalize mn x y=u at*
  generalize mx x y=v at*
  clear x1 x2 y1 y2
  have a1:u+c≥a+c:=by grind
  have a2:v+e≤b+e:=by grind
  obtain ⟨m1,m2⟩:=mulS_in u1 u2 u3 (Rat.le_refl (a:=c)) le2 (Rat.le_refl (a:=e))
  obtain ⟨q1,q2⟩:=sqrS_in u1 u2 u3
  have r1:=down_mono (scaleQ 2) u1
  have r2:=up_mono (scaleQ 2) u3
  by_cases h0:c≤0∧0≤e
  ·refine ctr_body Tryz.func7 rfl rfl rfl rfl rfl rfl ?_
   intro W0 base D μ0 hA
   repeat (first
    | refine aw_seq ?_ | refine aw_block ?_ | refine aw_condT rfl ?_ | refine aw_condF rfl ?_
    | ((first | refine aw_plainK (by kernel_rfl) ?_ | refine aw_drawK (by kernel_rfl) (by kernel_rfl) (by kernel_rfl) ?_)
       repeat (first
        | refine v_skip (hl:=?_)
        | refine v_move (hl:=?_)
        | refine v_assign (hl:=?_)
        | refine v_load (hl:=?_)
        | refine v_store (hl:=?_)
        | refine v_alloc (hl:=?_)
        | refine v_extract (hl:=?_)
        | refine v_bin (hl:=?_)
        | refine v_not (hl:=?_)
        | refine v_pickT (hl:=?_)
        | refine v_pickF (hl:=?_)
        | refine v_eqBool (hl:=?_)
        | refine v_callE hA (hc:=D1) (hl:=?_)
        | refine v_callN hA (hc:=d_roll l) (hl:=?_)
        | refine v_callM hA (hc:=N1) (hl:=?_)
        | refine v_callM hA (hc:=N2) (hl:=?_)
        | refine v_callE hA (hc:=W1) (hl:=?_)
        | refine v_callE hA (hc:=W2) (hl:=?_)
        | refine v_callE hA (hc:=O1) (hl:=?_)
        | (refine v_callE hA (hc:=s_quoZ h0 ?_ ?_) (hl:=?_);omega;omega)
        | (refine v_callE hA (hc:=s_add ?_ ?_ ?_ ?_) (hl:=?_);omega;omega;omega;omega)
        | (refine v_callE hA (hc:=s_mul ?_ ?_ ?_ ?_) (hl:=?_);omega;omega;omega;omega)
        | (refine v_callE hA (hc:=s_sqr ?_ ?_) (hl:=?_);omega;omega)
        | (refine v_callE hA (hc:=s_round ?_ ?_) (hl:=?_);omega;omega)
        | (refine v_callE hA (hc:=s_insideT a1 a2 ?_ ?_ ?_ ?_) (hl:=?_);omega;omega;omega;omega)
        | (refine v_callE hA (hc:=s_insideT m1 m2 ?_ ?_ ?_ ?_) (hl:=?_);omega;omega;omega;omega)
        | (refine v_callE hA (hc:=s_insideT q1 q2 ?_ ?_ ?_ ?_) (hl:=?_);omega;omega;omega;omega)
        | (refine v_callE hA (hc:=s_insideT r1 r2 ?_ ?_ ?_ ?_) (hl:=?_);omega;omega;omega;omega)
        | refine v_callE hA (hc:=awake3) (hl:=?_))
       apply RunK.nil;try refine And.intro (by kernel_rfl) ?_)
    | refine aw_skip ?_ | refine aw_exit ?_)
   refine aw_ret (And.intro (Or.inr rfl) ?_)
   exact f_one
  ·obtain ⟨i1,_,_⟩:=inv_le le2 h0
   obtain ⟨p1,p2⟩:=mulS_in u1 u2 u3 (Rat.le_refl (a:=1/e)) i1 (Rat.le_refl (a:=1/c))
   refine ctr_body Tryz.func7 rfl rfl rfl rfl rfl rfl ?_
   intro W0 base D μ0 hA
   repeat (first
    | refine aw_seq ?_ | refine aw_block ?_ | refine aw_condT rfl ?_ | refine aw_condF rfl ?_
    | ((first | refine aw_plainK (by kernel_rfl) ?_ | refine aw_drawK (by kernel_rfl) (by kernel_rfl) (by kernel_rfl) ?_)
       repeat (first
        | refine v_skip (hl:=?_)
        | refine v_move (hl:=?_)
        | refine v_assign (hl:=?_)
        | refine v_load (hl:=?_)
        | refine v_store (hl:=?_)
        | refine v_alloc (hl:=?_)
        | refine v_extract (hl:=?_)
        | refine v_bin (hl:=?_)
        | refine v_not (hl:=?_)
        | refine v_pickT (hl:=?_)
        | refine v_pickF (hl:=?_)
        | refine v_eqBool (hl:=?_)
        | refine v_callE hA (hc:=D1) (hl:=?_)
        | refine v_callN hA (hc:=d_roll l) (hl:=?_)
        | refine v_callM hA (hc:=N1) (hl:=?_)
        | refine v_callM hA (hc:=N2) (hl:=?_)
        | refine v_callE hA (hc:=W1) (hl:=?_)
        | refine v_callE hA (hc:=W2) (hl:=?_)
        | refine v_callE hA (hc:=O1) (hl:=?_)
        | (refine v_callE hA (hc:=s_quoN h0 le2 ?_ ?_ ?_ ?_) (hl:=?_);omega;omega;omega;omega)
        | (refine v_callE hA (hc:=s_add ?_ ?_ ?_ ?_) (hl:=?_);omega;omega;omega;omega)
        | (refine v_callE hA (hc:=s_mul ?_ ?_ ?_ ?_) (hl:=?_);omega;omega;omega;omega)
        | (refine v_callE hA (hc:=s_sqr ?_ ?_) (hl:=?_);omega;omega)
        | (refine v_callE hA (hc:=s_round ?_ ?_) (hl:=?_);omega;omega)
        | (refine v_callE hA (hc:=s_insideT p1 p2 ?_ ?_ ?_ ?_) (hl:=?_);omega;omega;omega;omega)
        | (refine v_callE hA (hc:=s_insideT a1 a2 ?_ ?_ ?_ ?_) (hl:=?_);omega;omega;omega;omega)
        | (refine v_callE hA (hc:=s_insideT m1 m2 ?_ ?_ ?_ ?_) (hl:=?_);omega;omega;omega;omega)
        | (refine v_callE hA (hc:=s_insideT q1 q2 ?_ ?_ ?_ ?_) (hl:=?_);omega;omega;omega;omega)
        | (refine v_callE hA (hc:=s_insideT r1 r2 ?_ ?_ ?_ ?_) (hl:=?_);omega;omega;omega;omega)
        | refine v_callE hA (hc:=awake3) (hl:=?_))
       apply RunK.nil;try refine And.intro (by kernel_rfl) ?_)
    | refine aw_skip ?_ | refine aw_exit ?_)
   refine aw_ret (And.intro (Or.inr rfl) ?_)
   exact f_one
 ·have D1:=light' (decide_eq_false hL)
  refine ctr_body Tryz.func7 rfl rfl rfl rfl rfl rfl ?_
  intro W0 base D μ0 hA
  repeat (first
   | refine aw_seq ?_ | refine aw_block ?_ | refine aw_condT rfl ?_ | refine aw_condF rfl ?_
   | ((first | refine aw_plainK (by kernel_rfl) ?_ | refine aw_drawK (by kernel_rfl) (by kernel_rfl) (by kernel_rfl) ?_)
      repeat (first
       | refine v_skip (hl:=?_)
       | refine v_move (hl:=?_)
       | refine v_assign (hl:=?_)
       | refine v_load (hl:=?_)
       | refine v_store (hl:=?_)
       | refine v_alloc (hl:=?_)
       | refine v_extract (hl:=?_)
       | refine v_bin (hl:=?_)
       | refine v_not (hl:=?_)
       | refine v_pickT (hl:=?_)
       | refine v_pickF (hl:=?_)
       | refine v_eqBool (hl:=?_)
       | refine v_callE hA (hc:=D1) (hl:=?_)
       | refine v_callE hA (hc:=awake3) (hl:=?_))
      apply RunK.nil;try refine And.intro (by kernel_rfl) ?_)
   | refine aw_skip ?_ | refine aw_exit ?_)
  refine aw_ret (And.intro (Or.inr rfl) ?_)
  exact f_one
end narrow
end Go.Proofs.YtemmbphdcgdboaaGreatDoor
