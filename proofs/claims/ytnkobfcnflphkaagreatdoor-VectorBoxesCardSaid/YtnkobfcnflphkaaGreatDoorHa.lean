/-
  Several texts in one: Ss, Sb.
-/
import Derived.Test.YtnkobfcnflphkaaGreatDoorGs
namespace Go.Proofs.YtnkobfcnflphkaaGreatDoor
open Go.RowKit
set_option linter.unusedVariables false
set_option linter.unusedSimpArgs false
set_option maxRecDepth 20000
set_option maxHeartbeats 4000000
abbrev sp (j:Nat) (x:Rat) (k:Nat) (y:Rat):AV:= .agg [.q x j 0,.q x j 1,.q x j 2,.q y k 0,.q y k 1,.q y k 2]
def spanD (l:List Int) (n:Nat):Rat×Rat×Nat:=(mn (numb l n).1 (numb l (numb l n).2).1,mx (numb l n).1 (numb l (numb l n).2).1,(numb l (numb l n).2).2)
theorem d_span0 {l:List Int} {n:Nat} (hb: ∀x∈l,-9223372036854775808≤x∧x<9223372036854775808) (hl:l.length≤1000000) (hn:n≤l.length):
  CtrM Tryz.prog Amb 15 [.one (.ptr 900 0)] [(900,diceC l n,diceC l (spanD l n).2.2)] (sp 5 (spanD l n).1 5 (spanD l n).2.1):=by
 have N1:=d_number (k:=900) hb hl hn
 have N2:=d_number (k:=900) hb hl (numb_bd l n hn)
 apply ctr_body Tryz.func15 rfl rfl rfl rfl rfl
 case hin=>simp [inA,inC]
 intro W0 base D μ0 hA hD
 repeat (first
  | refine aw_seq ?_ | refine aw_block ?_ | refine aw_condT rfl ?_ | refine aw_condF rfl ?_
  | ((first | refine aw_plainK (by kernel_rfl) ?_ | refine aw_drawK (by kernel_rfl) (by kernel_rfl) (by kernel_rfl) ?_)
     repeat (first
      | refine v_move (hl:=?_)
      | refine v_load (hl:=?_)
      | refine v_store (hl:=?_)
      | refine v_alloc (hl:=?_)
      | refine v_buildS (hl:=?_)
      | refine v_buildA (hl:=?_)
      | refine v_callM hA (hc:=N1) (hl:=?_)
      | refine v_callM hA (hc:=N2) (hl:=?_)
      | (refine v_call hA (hc:=r_min ?_ ?_) (hl:=?_);omega;omega)
      | (refine v_call hA (hc:=r_max ?_ ?_) (hl:=?_);omega;omega))
     apply RunK.nil;try refine And.intro (by kernel_rfl) ?_)
  | refine aw_skip ?_ | refine aw_exit ?_)
 refine aw_ret (And.intro (Or.inr rfl) ?_)
 exact f_oneM
theorem d_span {l:List Int} {n k:Nat} (hb: ∀x∈l,-9223372036854775808≤x∧x<9223372036854775808) (hl:l.length≤1000000) (hn:n≤l.length):
  CtrM Tryz.prog Amb 15 [.one (.ptr k 0)] [(k,diceC l n,diceC l (spanD l n).2.2)] (sp 5 (spanD l n).1 5 (spanD l n).2.1):=
 (d_span0 hb hl hn).at1 k rfl rfl
theorem spanD_bd (l:List Int) (n:Nat) (h:n≤l.length):(spanD l n).2.2≤l.length:=numb_bd l _ (numb_bd l n h)
theorem mn_le_mx (x y:Rat):0≤mx x y-mn x y:=by
 unfold mx mn
 by_cases hxy:x<y
 ·have e:cmpR x y= -1:=by unfold cmpR;rw [if_pos hxy]
  rw [e,if_neg (by decide),if_pos (by decide)];grind
 ·by_cases hyx:y<x
  ·have e:cmpR x y=1:=by unfold cmpR;rw [if_neg hxy,if_pos hyx]
   rw [e,if_pos (by decide),if_neg (by decide)];grind
  ·have e:cmpR x y=0:=by unfold cmpR;rw [if_neg hxy,if_neg hyx]
   rw [e,if_pos (by decide)];grind
theorem spanD_le (l:List Int) (n:Nat):0≤(spanD l n).2.1-(spanD l n).1:=mn_le_mx _ _
end Go.Proofs.YtnkobfcnflphkaaGreatDoor
namespace Go.Proofs.YtnkobfcnflphkaaGreatDoor
open Go.RowKit
set_option linter.unusedVariables false
set_option linter.unusedSimpArgs false
set_option maxRecDepth 20000
set_option maxHeartbeats 4000000
theorem r_same' {j k:Nat} {x y:Rat} {b:Bool} (h:decide (x=y)=b):Ctr Tryz.prog Amb 19 [nm j x,nm k y] (.one (.v (.bool b))):=h▸r_same
section
variable {j1 j2 j3 j4:Nat} {a b c d x:Rat}
theorem t_point (h1:j1≤1000000):Ctr Tryz.prog Amb 77 [nm j1 a] (sp j1 a j1 a):=by
 refine ctr_body Tryz.func77 rfl rfl rfl rfl rfl rfl ?_
 intro W0 base D μ0 hA hD
 repeat (first
  | refine aw_seq ?_ | refine aw_block ?_ | refine aw_condT rfl ?_ | refine aw_condF rfl ?_
  | (refine aw_plainK (by kernel_rfl) ?_
     repeat (first
      | refine v_load (hl:=?_)
      | refine v_store (hl:=?_)
      | refine v_box (hl:=?_)
      | refine v_alloc (hl:=?_)
      | refine v_buildS (hl:=?_)
      | refine v_buildA (hl:=?_))
     apply RunK.nil)
  | refine aw_skip ?_ | refine aw_exit ?_)
 refine aw_ret (And.intro (Or.inr rfl) ?_)
 exact f_one
theorem s_of (h1:j1≤1000000) (h2:j2≤1000000):Ctr Tryz.prog Amb 72 [nm j1 a,nm j2 b] (sp (j1+j2+1) (mn a b) (j1+j2+1) (mx a b)):=by
 refine ctr_body Tryz.func72 rfl rfl rfl rfl rfl rfl ?_
 intro W0 base D μ0 hA hD
 repeat (first
  | refine aw_seq ?_ | refine aw_block ?_ | refine aw_condT rfl ?_ | refine aw_condF rfl ?_
  | ((first | refine aw_plainK (by kernel_rfl) ?_ | refine aw_drawK (by kernel_rfl) (by kernel_rfl) (by kernel_rfl) ?_)
     repeat (first
      | refine v_load (hl:=?_)
      | refine v_store (hl:=?_)
      | refine v_box (hl:=?_)
      | refine v_alloc (hl:=?_)
      | refine v_buildS (hl:=?_)
      | refine v_buildA (hl:=?_)
      | (refine v_call hA (hc:=c_min ?_ ?_) (hl:=?_);omega;omega)
      | (refine v_call hA (hc:=c_max ?_ ?_) (hl:=?_);omega;omega))
     apply RunK.nil;try refine And.intro (by kernel_rfl) ?_)
  | refine aw_skip ?_ | refine aw_exit ?_)
 refine aw_ret (And.intro (Or.inr rfl) ?_)
 exact f_one
theorem t_same {p q:Bool} (hp:decide (a=c)=p) (hq:decide (b=d)=q):Ctr Tryz.prog Amb 27 [sp j1 a j2 b,sp j3 c j4 d] (.one (.v (.bool (p&&q)))):=by
 refine ctr_body Tryz.func27 rfl rfl rfl rfl rfl rfl ?_
 intro W0 base D μ0 hA hD
 cases p
 ·repeat (first
   | refine aw_seq ?_ | refine aw_block ?_ | refine aw_condT rfl ?_ | refine aw_condF rfl ?_
   | (refine aw_plainK (by kernel_rfl) ?_
      repeat (first
       | refine v_skip (hl:=?_)
       | refine v_move (hl:=?_)
       | refine v_assign (hl:=?_)
       | refine v_load (hl:=?_)
       | refine v_fieldAddr (hl:=?_)
       | refine v_box (hl:=?_)
       | refine v_pickT (hl:=?_)
       | refine v_pickF (hl:=?_)
       | refine v_call hA (hc:=r_same' hp) (hl:=?_)
       | refine v_call hA (hc:=r_same' hq) (hl:=?_))
      apply RunK.nil)
   | refine aw_skip ?_ | refine aw_exit ?_)
  refine aw_ret (And.intro (Or.inr rfl) ?_)
  exact f_one
 ·repeat (first
   | refine aw_seq ?_ | refine aw_block ?_ | refine aw_condT rfl ?_ | refine aw_condF rfl ?_
   | (refine aw_plainK (by kernel_rfl) ?_
      repeat (first
       | refine v_skip (hl:=?_)
       | refine v_move (hl:=?_)
       | refine v_assign (hl:=?_)
       | refine v_load (hl:=?_)
       | refine v_fieldAddr (hl:=?_)
       | refine v_box (hl:=?_)
       | refine v_pickT (hl:=?_)
       | refine v_pickF (hl:=?_)
       | refine v_call hA (hc:=r_same' hp) (hl:=?_)
       | refine v_call hA (hc:=r_same' hq) (hl:=?_))
      apply RunK.nil)
   | refine aw_skip ?_ | refine aw_exit ?_)
  refine aw_ret (And.intro (Or.inr rfl) ?_)
  exact f_one
theorem t_hull (h1:j1≤1000000) (h2:j2≤1000000) (h3:j3≤1000000) (h4:j4≤1000000):Ctr Tryz.prog Amb 76 [sp j1 a j2 b,sp j3 c j4 d] (sp (j1+j3+1) (mn a c) (j2+j4+1) (mx b d)):=by
 refine ctr_body Tryz.func76 rfl rfl rfl rfl rfl rfl ?_
 intro W0 base D μ0 hA hD
 repeat (first
  | refine aw_seq ?_ | refine aw_block ?_ | refine aw_condT rfl ?_ | refine aw_condF rfl ?_
  | ((first | refine aw_plainK (by kernel_rfl) ?_ | refine aw_drawK (by kernel_rfl) (by kernel_rfl) (by kernel_rfl) ?_)
     repeat (first
      | refine v_load (hl:=?_)
      | refine v_fieldAddr (hl:=?_)
      | refine v_store (hl:=?_)
      | refine v_box (hl:=?_)
      | refine v_alloc (hl:=?_)
      | refine v_buildS (hl:=?_)
      | refine v_buildA (hl:=?_)
      | (refine v_call hA (hc:=r_min ?_ ?_) (hl:=?_);omega;omega)
      | (refine v_call hA (hc:=r_max ?_ ?_) (hl:=?_);omega;omega))
     apply RunK.nil;try refine And.intro (by kernel_rfl) ?_)
  | refine aw_skip ?_ | refine aw_exit ?_)
 refine aw_ret (And.intro (Or.inr rfl) ?_)
 exact f_one
end
end Go.Proofs.YtnkobfcnflphkaaGreatDoor
