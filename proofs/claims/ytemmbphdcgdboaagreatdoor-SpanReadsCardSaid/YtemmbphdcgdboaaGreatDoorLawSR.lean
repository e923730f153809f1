/-
  SpanReads, by contracts.
-/
import Derived.Test.YtemmbphdcgdboaaGreatDoorHb
import Derived.Test.YtemmbphdcgdboaaGreatDoorGf
namespace Go.Proofs.YtemmbphdcgdboaaGreatDoor
open Go.RowKit
set_option linter.unusedVariables false
set_option linter.unusedSimpArgs false
set_option maxRecDepth 20000
set_option maxHeartbeats 8000000
theorem light' {l:List Int} {b:Bool} (h:decide ((l.length:Int)≤500)=b):Ctr Tryz.prog Amb 9 [.one (.ints l)] (.one (.v (.bool b))):=h▸d_light l
theorem meet_eq {a b c d:Rat} (h1:a≤b) (h2:c≤d):decide (cmpR (mx a c) (mn b d)>0)=(decide (cmpR a d>0) || decide (cmpR c b>0)):=by
 have e:cmpR (mx a c) (mn b d)>0↔(cmpR a d>0∨cmpR c b>0):=by
  show 0<_↔(0<_∨0<_)
  rw [cmp_pos,cmp_pos,cmp_pos]
  rcases mx_cases a c with ⟨e1,g1⟩ | ⟨e1,g1⟩<;>rcases mn_cases b d with ⟨e2,g2⟩ | ⟨e2,g2⟩<;>rw [e1,e2]<;>constructor<;>grind
 rw [decide_eq_decide.2 e,Bool.decide_or]
theorem inside_eq {a b c d:Rat} (h1:a≤b):((decide (cmpR c a≤0)&&decide (cmpR b d≤0))==((decide (cmpR c a≤0)&&decide (cmpR a d≤0))&&(decide (cmpR c b≤0)&&decide (cmpR b d≤0))))=true:=by
 simp only [decide_eq_decide.2 cmp_le0]
 by_cases p:c≤a
 ·by_cases q:b≤d
  ·rw [decide_eq_true p,decide_eq_true q,decide_eq_true (show a≤d by grind),decide_eq_true (show c≤b by grind)];rfl
  ·rw [decide_eq_false q];simp
 ·rw [decide_eq_false p];simp
namespace reads
theorem law {l:List Int} {n d:Int} (hb: ∀x∈l,-9223372036854775808≤x∧x<9223372036854775808) (n1: -9223372036854775808≤n) (n2:n<9223372036854775808) (d1: -9223372036854775808≤d) (d2:d<9223372036854775808):
  Ctr Tryz.prog Amb 3 [.one (.ints l),.one (.v (.int .i64 n)),.one (.v (.int .i64 d))] (.one (.v (.bool true))):=by
 by_cases hL:(l.length:Int)≤500
 ·have hl:l.length≤1000000:=by omega
  have D1:=light' (decide_eq_true hL)
  have N1:=d_span (k:=28) hb hl (Nat.zero_le _)
  have N2:=d_span (k:=28) hb hl (spanD_bd l 0 (Nat.zero_le _))
  have R1:=d_rat n1 n2 d1 d2
  have le1:=spanD_le l 0
  have le2:=spanD_le l (spanD l 0).2.2
  generalize (spanD l 0).1=a at*
  generalize (spanD l 0).2.1=b at*
  generalize (spanD l (spanD l 0).2.2).1=c at*
  generalize (spanD l (spanD l 0).2.2).2.1=e at*
  generalize ratM n d=r at*
  have le1:a≤b:=by grind
  have le2:c≤e:=by grind
  have I1:=r_int (n:=1) rfl
  rw [show ((1:Int):Rat)=1 from rfl] at I1
  have V1:=s_valid (j1:=5) (j2:=5) (a:=a) (b:=b) (decide_eq_true (cmp_le0.2 le1)) (by decide) (by decide)
  have V2:=s_valid (j1:=2) (j2:=0) (a:=1) (b:=0) (p:=false) (by decide+kernel) (by decide) (by decide)
  have S1:=s_sign (j1:=5) (j2:=5) (a:=a) (b:=b)
  have S2:=t_sign (j1:=5) (j2:=5) (a:=a) (b:=b)
  generalize sgI a b=si at*
  generalize sgB a b=sb at*
  have hs:binR .eql .i64 si si=some (.bool true):=by show some (Value.bool (si==si))=_;simp
  have A1:=s_same (j1:=5) (j2:=5) (j3:=5) (j4:=5) (a:=a) (b:=b) (c:=c) (d:=e) rfl rfl
  have A2:=t_same (j1:=5) (j2:=5) (j3:=5) (j4:=5) (a:=a) (b:=b) (c:=c) (d:=e) rfl rfl
  have H1:=s_has (j1:=5) (j2:=5) (j3:=2) (a:=a) (b:=b) (x:=r) rfl rfl (by decide) (by decide) (by decide)
  have H2:=t_has (j1:=5) (j2:=5) (j3:=2) (a:=a) (b:=b) (x:=r) rfl rfl (by decide) (by decide) (by decide)
  have G1:=s_inside (j1:=5) (j2:=5) (j3:=5) (j4:=5) (a:=a) (b:=b) (c:=c) (d:=e) rfl rfl (by decide) (by decide) (by decide) (by decide)
  have G2:=t_inside (j1:=5) (j2:=5) (j3:=5) (j4:=5) (a:=a) (b:=b) (c:=c) (d:=e) rfl rfl rfl rfl (by decide) (by decide) (by decide) (by decide)
  have hin:=inside_eq (a:=a) (b:=b) (c:=c) (d:=e) le1
  have M1:=s_meet (j1:=5) (j2:=5) (j3:=5) (j4:=5) (a:=a) (b:=b) (c:=c) (d:=e) rfl rfl (by decide) (by decide) (by decide) (by decide)
  have M2:=t_meet (j1:=5) (j2:=5) (j3:=5) (j4:=5) (a:=a) (b:=b) (c:=c) (d:=e) (meet_eq le1 le2) (by decide) (by decide) (by decide) (by decide)
  generalize (decide (a=c)&&decide (b=e))=p1 at*
  generalize (decide (cmpR a r≤0)&&decide (cmpR r b≤0))=p2 at*
  generalize (decide (cmpR c a≤0)&&decide (cmpR b e≤0))=p3 at*
  generalize ((decide (cmpR c a≤0)&&decide (cmpR a e≤0))&&(decide (cmpR c b≤0)&&decide (cmpR b e≤0)))=p4 at*
  generalize (decide (cmpR a e>0) || decide (cmpR c b>0))=p5 at*
  cases p5
  ·rw [if_neg (by decide)] at M1 M2
   refine ctr_body Tryz.func3 rfl rfl rfl rfl rfl rfl ?_
   intro W0 base D μ0 hA
   repeat (first
    | refine aw_seq ?_ | refine aw_block ?_ | refine aw_condT rfl ?_ | refine aw_condF rfl ?_
    | ((first | refine aw_plainK (by kernel_rfl) ?_ | refine aw_drawK (by kernel_rfl) (by kernel_rfl) (by kernel_rfl) ?_)
       repeat (first
        | refine v_skip (hl:=?_)
        | refine v_move (hl:=?_)
        | refine v_assign (hl:=?_)
        | refine v_load (hl:=?_)
        | refine v_fieldAddr (hl:=?_)
        | refine v_store (hl:=?_)
        | refine v_alloc (hl:=?_)
        | refine v_buildS (hl:=?_)
        | refine v_buildA (hl:=?_)
        | refine v_extract (hl:=?_)
        | refine v_bin (hl:=?_)
        | refine v_not (hl:=?_)
        | refine v_pickT (hl:=?_)
        | refine v_pickF (hl:=?_)
        | refine v_eqB (hl:=?_)
        | refine v_callE hA (hc:=D1) (hl:=?_)
        | refine v_callN hA (hc:=d_roll l) (hl:=?_)
        | refine v_callM hA (hc:=N1) (hl:=?_)
        | refine v_callM hA (hc:=N2) (hl:=?_)
        | refine v_callE hA (hc:=R1) (hl:=?_)
        | refine v_callE hA (hc:=M1) (hl:=?_)
        | refine v_callE hA (hc:=M2) (hl:=?_)
        | refine v_callE hA (hc:=S1) (hl:=?_)
        | refine v_callE hA (hc:=S2) (hl:=?_)
        | refine v_callE hA (hc:=V1) (hl:=?_)
        | refine v_call hA (hc:=V2) (hl:=?_)
        | refine v_callE hA (hc:=I1) (hl:=?_)
        | refine v_callE hA (hc:=A1) (hl:=?_)
        | refine v_callE hA (hc:=A2) (hl:=?_)
        | refine v_callE hA (hc:=H1) (hl:=?_)
        | refine v_callE hA (hc:=H2) (hl:=?_)
        | refine v_callE hA (hc:=G1) (hl:=?_)
        | refine v_callE hA (hc:=G2) (hl:=?_)
        | (refine v_callE hA (hc:=s_halves ?_ ?_) (hl:=?_);omega;omega)
        | (refine v_callE hA (hc:=t_halves ?_ ?_) (hl:=?_);omega;omega)
        | (refine v_callE hA (hc:=s_hull ?_ ?_ ?_ ?_) (hl:=?_);omega;omega;omega;omega)
        | (refine v_callE hA (hc:=t_hull ?_ ?_ ?_ ?_) (hl:=?_);omega;omega;omega;omega)
        | (refine v_callE hA (hc:=s_width ?_ ?_) (hl:=?_);omega;omega)
        | (refine v_callE hA (hc:=t_width ?_ ?_) (hl:=?_);omega;omega)
        | (refine v_callE hA (hc:=s_mid ?_ ?_) (hl:=?_);omega;omega)
        | (refine v_callE hA (hc:=t_mid ?_ ?_) (hl:=?_);omega;omega)
        | (refine v_callE hA (hc:=s_of ?_ ?_) (hl:=?_);omega;omega)
        | (refine v_callE hA (hc:=t_of ?_ ?_) (hl:=?_);omega;omega)
        | (refine v_callE hA (hc:=s_point ?_) (hl:=?_);omega)
        | (refine v_callE hA (hc:=t_point ?_) (hl:=?_);omega)
        | refine v_callE hA (hc:=t_sameT) (hl:=?_)
        | refine v_callE hA (hc:=r_sameT) (hl:=?_)
        | refine v_callE hA (hc:=awake3) (hl:=?_))
       apply RunK.nil;try refine And.intro (by kernel_rfl) ?_)
    | refine aw_skip ?_ | refine aw_exit ?_)
   refine aw_ret (And.intro (Or.inr rfl) ?_)
   exact f_one
  ·rw [if_pos rfl] at M1 M2
   refine ctr_body Tryz.func3 rfl rfl rfl rfl rfl rfl ?_
   intro W0 base D μ0 hA
   repeat (first
    | refine aw_seq ?_ | refine aw_block ?_ | refine aw_condT rfl ?_ | refine aw_condF rfl ?_
    | ((first | refine aw_plainK (by kernel_rfl) ?_ | refine aw_drawK (by kernel_rfl) (by kernel_rfl) (by kernel_rfl) ?_)
       repeat (first
        | refine v_skip (hl:=?_)
        | refine v_move (hl:=?_)
        | refine v_assign (hl:=?_)
        | refine v_load (hl:=?_)
        | refine v_fieldAddr (hl:=?_)
        | refine v_store (hl:=?_)
        | refine v_alloc (hl:=?_)
        | refine v_buildS (hl:=?_)
        | refine v_buildA (hl:=?_)
        | refine v_extract (hl:=?_)
        | refine v_bin (hl:=?_)
        | refine v_not (hl:=?_)
        | refine v_pickT (hl:=?_)
        | refine v_pickF (hl:=?_)
        | refine v_eqB (hl:=?_)
        | refine v_callE hA (hc:=D1) (hl:=?_)
        | refine v_callN hA (hc:=d_roll l) (hl:=?_)
        | refine v_callM hA (hc:=N1) (hl:=?_)
        | refine v_callM hA (hc:=N2) (hl:=?_)
        | refine v_callE hA (hc:=R1) (hl:=?_)
        | refine v_callE hA (hc:=M1) (hl:=?_)
        | refine v_callE hA (hc:=M2) (hl:=?_)
        | refine v_callE hA (hc:=S1) (hl:=?_)
        | refine v_callE hA (hc:=S2) (hl:=?_)
        | refine v_callE hA (hc:=V1) (hl:=?_)
        | refine v_call hA (hc:=V2) (hl:=?_)
        | refine v_callE hA (hc:=I1) (hl:=?_)
        | refine v_callE hA (hc:=A1) (hl:=?_)
        | refine v_callE hA (hc:=A2) (hl:=?_)
        | refine v_callE hA (hc:=H1) (hl:=?_)
        | refine v_callE hA (hc:=H2) (hl:=?_)
        | refine v_callE hA (hc:=G1) (hl:=?_)
        | refine v_callE hA (hc:=G2) (hl:=?_)
        | (refine v_callE hA (hc:=s_halves ?_ ?_) (hl:=?_);omega;omega)
        | (refine v_callE hA (hc:=t_halves ?_ ?_) (hl:=?_);omega;omega)
        | (refine v_callE hA (hc:=s_hull ?_ ?_ ?_ ?_) (hl:=?_);omega;omega;omega;omega)
        | (refine v_callE hA (hc:=t_hull ?_ ?_ ?_ ?_) (hl:=?_);omega;omega;omega;omega)
        | (refine v_callE hA (hc:=s_width ?_ ?_) (hl:=?_);omega;omega)
        | (refine v_callE hA (hc:=t_width ?_ ?_) (hl:=?_);omega;omega)
        | (refine v_callE hA (hc:=s_mid ?_ ?_) (hl:=?_);omega;omega)
        | (refine v_callE hA (hc:=t_mid ?_ ?_) (hl:=?_);omega;omega)
        | (refine v_callE hA (hc:=s_of ?_ ?_) (hl:=?_);omega;omega)
        | (refine v_callE hA (hc:=t_of ?_ ?_) (hl:=?_);omega;omega)
        | (refine v_callE hA (hc:=s_point ?_) (hl:=?_);omega)
        | (refine v_callE hA (hc:=t_point ?_) (hl:=?_);omega)
        | refine v_callE hA (hc:=t_sameT) (hl:=?_)
        | refine v_callE hA (hc:=r_sameT) (hl:=?_)
        | refine v_callE hA (hc:=awake3) (hl:=?_))
       apply RunK.nil;try refine And.intro (by kernel_rfl) ?_)
    | refine aw_skip ?_ | refine aw_exit ?_)
   refine aw_ret (And.intro (Or.inr rfl) ?_)
   exact f_one
 ·have D1:=light' (decide_eq_false hL)
  refine ctr_body Tryz.func3 rfl rfl rfl rfl rfl rfl ?_
  intro W0 base D μ0 hA
  repeat (first
   | refine aw_seq ?_ | refine aw_block ?_ | refine aw_condT rfl ?_ | refine aw_condF rfl ?_
   | (refine aw_plainK (by kernel_rfl) ?_
      repeat (first
       | refine v_skip (hl:=?_)
       | refine v_move (hl:=?_)
       | refine v_assign (hl:=?_)
       | refine v_load (hl:=?_)
       | refine v_fieldAddr (hl:=?_)
       | refine v_store (hl:=?_)
       | refine v_alloc (hl:=?_)
       | refine v_buildS (hl:=?_)
       | refine v_buildA (hl:=?_)
       | refine v_extract (hl:=?_)
       | refine v_bin (hl:=?_)
       | refine v_not (hl:=?_)
       | refine v_pickT (hl:=?_)
       | refine v_pickF (hl:=?_)
       | refine v_eqBool (hl:=?_)
       | refine v_callE hA (hc:=D1) (hl:=?_)
       | refine v_callE hA (hc:=awake3) (hl:=?_))
      apply RunK.nil)
   | refine aw_skip ?_ | refine aw_exit ?_)
  refine aw_ret (And.intro (Or.inr rfl) ?_)
  exact f_one
end reads
end Go.Proofs.YtemmbphdcgdboaaGreatDoor
