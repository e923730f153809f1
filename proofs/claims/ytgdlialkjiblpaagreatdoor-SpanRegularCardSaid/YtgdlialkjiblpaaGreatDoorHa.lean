/-
  Several texts in one: Ss, Sb, Sc, Sd.
-/
import Derived.Test.YtgdlialkjiblpaaGreatDoorGs
namespace Go.Proofs.YtgdlialkjiblpaaGreatDoor
open Go.RowKit
set_option linter.unusedVariables false
set_option linter.unusedSimpArgs false
set_option maxRecDepth 20000
set_option maxHeartbeats 4000000
abbrev sp (j:Nat) (x:Rat) (k:Nat) (y:Rat):AV:= .agg [.q x j 0,.q x j 1,.q x j 2,.q y k 0,.q y k 1,.q y k 2]
def spanD (l:List Int) (n:Nat):Rat×Rat×Nat:=(mn (numb l n).1 (numb l (numb l n).2).1,mx (numb l n).1 (numb l (numb l n).2).1,(numb l (numb l n).2).2)
theorem d_span0 {l:List Int} {n:Nat} (hb: ∀x∈l,-9223372036854775808≤x∧x<9223372036854775808) (hl:l.length≤1000000) (hn:n≤l.length):
  CtrM Tryz.prog Amb 55 [.one (.ptr 900 0)] [(900,diceC l n,diceC l (spanD l n).2.2)] (sp 5 (spanD l n).1 5 (spanD l n).2.1):=by
 have N1:=d_number (k:=900) hb hl hn
 have N2:=d_number (k:=900) hb hl (numb_bd l n hn)
 apply ctr_body Tryz.func55 rfl rfl rfl rfl rfl
 case hin=>simp [inA,inC]
 intro W0 base D μ0 hA hD
 repeat (first
  | refine aw_seq ?_ | refine aw_block ?_ | refine aw_condT rfl ?_ | refine aw_condF rfl ?_
  | ((first | refine aw_plainK (by kernel_rfl) ?_ | refine aw_drawK (by kernel_rfl) (by kernel_rfl) (by kernel_rfl) ?_)
     repeat (first
      | refine v_move (hl:=?_)
      | refine v_load (hl:=?_)
      | refine v_store (hl:=?_)
      | refine v_alloc (hl:=?_)
      | refine v_buildS (hl:=?_)
      | refine v_buildA (hl:=?_)
      | refine v_callM hA (hc:=N1) (hl:=?_)
      | refine v_callM hA (hc:=N2) (hl:=?_)
      | (refine v_call hA (hc:=r_min ?_ ?_) (hl:=?_);omega;omega)
      | (refine v_call hA (hc:=r_max ?_ ?_) (hl:=?_);omega;omega))
     apply RunK.nil;try refine And.intro (by kernel_rfl) ?_)
  | refine aw_skip ?_ | refine aw_exit ?_)
 refine aw_ret (And.intro (Or.inr rfl) ?_)
 exact f_oneM
theorem d_span {l:List Int} {n k:Nat} (hb: ∀x∈l,-9223372036854775808≤x∧x<9223372036854775808) (hl:l.length≤1000000) (hn:n≤l.length):
  CtrM Tryz.prog Amb 55 [.one (.ptr k 0)] [(k,diceC l n,diceC l (spanD l n).2.2)] (sp 5 (spanD l n).1 5 (spanD l n).2.1):=
 (d_span0 hb hl hn).at1 k rfl rfl
theorem spanD_bd (l:List Int) (n:Nat) (h:n≤l.length):(spanD l n).2.2≤l.length:=numb_bd l _ (numb_bd l n h)
theorem mn_le_mx (x y:Rat):0≤mx x y-mn x y:=by
 unfold mx mn
 by_cases hxy:x<y
 ·have e:cmpR x y= -1:=by unfold cmpR;rw [if_pos hxy]
  rw [e,if_neg (by decide),if_pos (by decide)];grind
 ·by_cases hyx:y<x
  ·have e:cmpR x y=1:=by unfold cmpR;rw [if_neg hxy,if_pos hyx]
   rw [e,if_pos (by decide),if_neg (by decide)];grind
  ·have e:cmpR x y=0:=by unfold cmpR;rw [if_neg hxy,if_neg hyx]
   rw [e,if_pos (by decide)];grind
theorem spanD_le (l:List Int) (n:Nat):0≤(spanD l n).2.1-(spanD l n).1:=mn_le_mx _ _
end Go.Proofs.YtgdlialkjiblpaaGreatDoor
namespace Go.Proofs.YtgdlialkjiblpaaGreatDoor
open Go.RowKit
set_option linter.unusedVariables false
set_option linter.unusedSimpArgs false
set_option maxRecDepth 20000
set_option maxHeartbeats 4000000
theorem mx_self (x:Rat):mx x x=x:=by unfold mx;split<;>rfl
theorem c_same' {j k:Nat} {x y:Rat} {b:Bool} (h:decide (x=y)=b):Ctr Tryz.prog Amb 74 [nm j x,nm k y] (.one (.v (.bool b))):=h▸c_same
theorem r_same' {j k:Nat} {x y:Rat} {b:Bool} (h:decide (x=y)=b):Ctr Tryz.prog Amb 48 [nm j x,nm k y] (.one (.v (.bool b))):=h▸r_same
section
variable {j1 j2 j3 j4:Nat} {a b c d x:Rat}
theorem s_copied (h1:j1≤50000000):Ctr Tryz.prog Amb 99 [nm j1 a] (nm (j1+j1+1) a):=by
 have M:=c_max (x:=a) (y:=a) (j:=j1) (k:=j1) (by omega) (by omega)
 rw [mx_self] at M
 refine ctr_body Tryz.func99 rfl rfl rfl rfl rfl rfl ?_
 intro W0 base D μ0 hA hD
 repeat (first
  | refine aw_seq ?_ | refine aw_block ?_ | refine aw_condT rfl ?_ | refine aw_condF rfl ?_
  | (refine aw_plainK (by kernel_rfl) ?_
     repeat (first
      | refine v_load (hl:=?_)
      | refine v_store (hl:=?_)
      | refine v_box (hl:=?_)
      | refine v_alloc (hl:=?_)
      | refine v_call hA (hc:=M) (hl:=?_))
     apply RunK.nil)
  | refine aw_skip ?_ | refine aw_exit ?_)
 refine aw_ret (And.intro (Or.inr rfl) ?_)
 exact f_one
theorem s_point (h1:j1≤50000000):Ctr Tryz.prog Amb 51 [nm j1 a] (sp (j1+j1+1) a (j1+j1+1) a):=by
 refine ctr_body Tryz.func51 rfl rfl rfl rfl rfl rfl ?_
 intro W0 base D μ0 hA hD
 repeat (first
  | refine aw_seq ?_ | refine aw_block ?_ | refine aw_condT rfl ?_ | refine aw_condF rfl ?_
  | ((first | refine aw_plainK (by kernel_rfl) ?_ | refine aw_drawK (by kernel_rfl) (by kernel_rfl) (by kernel_rfl) ?_)
     repeat (first
      | refine v_load (hl:=?_)
      | refine v_store (hl:=?_)
      | refine v_box (hl:=?_)
      | refine v_alloc (hl:=?_)
      | refine v_buildS (hl:=?_)
      | refine v_buildA (hl:=?_)
      | (refine v_call hA (hc:=s_copied ?_) (hl:=?_);omega))
     apply RunK.nil;try refine And.intro (by kernel_rfl) ?_)
  | refine aw_skip ?_ | refine aw_exit ?_)
 refine aw_ret (And.intro (Or.inr rfl) ?_)
 exact f_one
theorem t_point (h1:j1≤1000000):Ctr Tryz.prog Amb 110 [nm j1 a] (sp j1 a j1 a):=by
 refine ctr_body Tryz.func110 rfl rfl rfl rfl rfl rfl ?_
 intro W0 base D μ0 hA hD
 repeat (first
  | refine aw_seq ?_ | refine aw_block ?_ | refine aw_condT rfl ?_ | refine aw_condF rfl ?_
  | (refine aw_plainK (by kernel_rfl) ?_
     repeat (first
      | refine v_load (hl:=?_)
      | refine v_store (hl:=?_)
      | refine v_box (hl:=?_)
      | refine v_alloc (hl:=?_)
      | refine v_buildS (hl:=?_)
      | refine v_buildA (hl:=?_))
     apply RunK.nil)
  | refine aw_skip ?_ | refine aw_exit ?_)
 refine aw_ret (And.intro (Or.inr rfl) ?_)
 exact f_one
theorem s_of (h1:j1≤1000000) (h2:j2≤1000000):Ctr Tryz.prog Amb 49 [nm j1 a,nm j2 b] (sp (j1+j2+1) (mn a b) (j1+j2+1) (mx a b)):=by
 refine ctr_body Tryz.func49 rfl rfl rfl rfl rfl rfl ?_
 intro W0 base D μ0 hA hD
 repeat (first
  | refine aw_seq ?_ | refine aw_block ?_ | refine aw_condT rfl ?_ | refine aw_condF rfl ?_
  | ((first | refine aw_plainK (by kernel_rfl) ?_ | refine aw_drawK (by kernel_rfl) (by kernel_rfl) (by kernel_rfl) ?_)
     repeat (first
      | refine v_load (hl:=?_)
      | refine v_store (hl:=?_)
      | refine v_box (hl:=?_)
      | refine v_alloc (hl:=?_)
      | refine v_buildS (hl:=?_)
      | refine v_buildA (hl:=?_)
      | (refine v_call hA (hc:=c_min ?_ ?_) (hl:=?_);omega;omega)
      | (refine v_call hA (hc:=c_max ?_ ?_) (hl:=?_);omega;omega))
     apply RunK.nil;try refine And.intro (by kernel_rfl) ?_)
  | refine aw_skip ?_ | refine aw_exit ?_)
 refine aw_ret (And.intro (Or.inr rfl) ?_)
 exact f_one
theorem t_same {p q:Bool} (hp:decide (a=c)=p) (hq:decide (b=d)=q):Ctr Tryz.prog Amb 13 [sp j1 a j2 b,sp j3 c j4 d] (.one (.v (.bool (p&&q)))):=by
 refine ctr_body Tryz.func13 rfl rfl rfl rfl rfl rfl ?_
 intro W0 base D μ0 hA hD
 cases p
 ·repeat (first
   | refine aw_seq ?_ | refine aw_block ?_ | refine aw_condT rfl ?_ | refine aw_condF rfl ?_
   | (refine aw_plainK (by kernel_rfl) ?_
      repeat (first
       | refine v_skip (hl:=?_)
       | refine v_move (hl:=?_)
       | refine v_assign (hl:=?_)
       | refine v_load (hl:=?_)
       | refine v_fieldAddr (hl:=?_)
       | refine v_box (hl:=?_)
       | refine v_pickT (hl:=?_)
       | refine v_pickF (hl:=?_)
       | refine v_call hA (hc:=r_same' hp) (hl:=?_)
       | refine v_call hA (hc:=r_same' hq) (hl:=?_))
      apply RunK.nil)
   | refine aw_skip ?_ | refine aw_exit ?_)
  refine aw_ret (And.intro (Or.inr rfl) ?_)
  exact f_one
 ·repeat (first
   | refine aw_seq ?_ | refine aw_block ?_ | refine aw_condT rfl ?_ | refine aw_condF rfl ?_
   | (refine aw_plainK (by kernel_rfl) ?_
      repeat (first
       | refine v_skip (hl:=?_)
       | refine v_move (hl:=?_)
       | refine v_assign (hl:=?_)
       | refine v_load (hl:=?_)
       | refine v_fieldAddr (hl:=?_)
       | refine v_box (hl:=?_)
       | refine v_pickT (hl:=?_)
       | refine v_pickF (hl:=?_)
       | refine v_call hA (hc:=r_same' hp) (hl:=?_)
       | refine v_call hA (hc:=r_same' hq) (hl:=?_))
      apply RunK.nil)
   | refine aw_skip ?_ | refine aw_exit ?_)
  refine aw_ret (And.intro (Or.inr rfl) ?_)
  exact f_one
theorem t_hull (h1:j1≤1000000) (h2:j2≤1000000) (h3:j3≤1000000) (h4:j4≤1000000):Ctr Tryz.prog Amb 111 [sp j1 a j2 b,sp j3 c j4 d] (sp (j1+j3+1) (mn a c) (j2+j4+1) (mx b d)):=by
 refine ctr_body Tryz.func111 rfl rfl rfl rfl rfl rfl ?_
 intro W0 base D μ0 hA hD
 repeat (first
  | refine aw_seq ?_ | refine aw_block ?_ | refine aw_condT rfl ?_ | refine aw_condF rfl ?_
  | ((first | refine aw_plainK (by kernel_rfl) ?_ | refine aw_drawK (by kernel_rfl) (by kernel_rfl) (by kernel_rfl) ?_)
     repeat (first
      | refine v_load (hl:=?_)
      | refine v_fieldAddr (hl:=?_)
      | refine v_store (hl:=?_)
      | refine v_box (hl:=?_)
      | refine v_alloc (hl:=?_)
      | refine v_buildS (hl:=?_)
      | refine v_buildA (hl:=?_)
      | (refine v_call hA (hc:=r_min ?_ ?_) (hl:=?_);omega;omega)
      | (refine v_call hA (hc:=r_max ?_ ?_) (hl:=?_);omega;omega))
     apply RunK.nil;try refine And.intro (by kernel_rfl) ?_)
  | refine aw_skip ?_ | refine aw_exit ?_)
 refine aw_ret (And.intro (Or.inr rfl) ?_)
 exact f_one
theorem s_has {p q:Bool} (hp:decide (cmpR a x≤0)=p) (hq:decide (cmpR x b≤0)=q) (h1:j1≤1000000) (h2:j2≤1000000) (h3:j3≤1000000):Ctr Tryz.prog Amb 21 [sp j1 a j2 b,nm j3 x] (.one (.v (.bool (p&&q)))):=by
 have bp:=binLe (k:= .i64) hp
 have bq:=binLe (k:= .i64) hq
 refine ctr_body Tryz.func21 rfl rfl rfl rfl rfl rfl ?_
 intro W0 base D μ0 hA hD
 cases p
 ·repeat (first
   | refine aw_seq ?_ | refine aw_block ?_ | refine aw_condT rfl ?_ | refine aw_condF rfl ?_
   | (refine aw_plainK (by kernel_rfl) ?_
      repeat (first
       | refine v_skip (hl:=?_)
       | refine v_move (hl:=?_)
       | refine v_assign (hl:=?_)
       | refine v_load (hl:=?_)
       | refine v_fieldAddr (hl:=?_)
       | refine v_box (hl:=?_)
       | refine v_bin (hl:=?_)
       | refine v_pickT (hl:=?_)
       | refine v_pickF (hl:=?_)
       | (refine v_call hA (hc:=c_cmp ?_ ?_) (hl:=?_);omega;omega))
      apply RunK.nil)
   | refine aw_skip ?_ | refine aw_exit ?_)
  refine aw_ret (And.intro (Or.inr rfl) ?_)
  exact f_one
 ·repeat (first
   | refine aw_seq ?_ | refine aw_block ?_ | refine aw_condT rfl ?_ | refine aw_condF rfl ?_
   | (refine aw_plainK (by kernel_rfl) ?_
      repeat (first
       | refine v_skip (hl:=?_)
       | refine v_move (hl:=?_)
       | refine v_assign (hl:=?_)
       | refine v_load (hl:=?_)
       | refine v_fieldAddr (hl:=?_)
       | refine v_box (hl:=?_)
       | refine v_bin (hl:=?_)
       | refine v_pickT (hl:=?_)
       | refine v_pickF (hl:=?_)
       | (refine v_call hA (hc:=c_cmp ?_ ?_) (hl:=?_);omega;omega))
      apply RunK.nil)
   | refine aw_skip ?_ | refine aw_exit ?_)
  refine aw_ret (And.intro (Or.inr rfl) ?_)
  exact f_one
theorem s_add (h1:j1≤1000000) (h2:j2≤1000000) (h3:j3≤1000000) (h4:j4≤1000000):Ctr Tryz.prog Amb 57 [sp j1 a j2 b,sp j3 c j4 d] (sp (j1+j3+3) (a+c) (j2+j4+3) (b+d)):=by
 refine ctr_body Tryz.func57 rfl rfl rfl rfl rfl rfl ?_
 intro W0 base D μ0 hA hD
 repeat (first
  | refine aw_seq ?_ | refine aw_block ?_ | refine aw_condT rfl ?_ | refine aw_condF rfl ?_
  | ((first | refine aw_plainK (by kernel_rfl) ?_ | refine aw_drawK (by kernel_rfl) (by kernel_rfl) (by kernel_rfl) ?_)
     repeat (first
      | refine v_load (hl:=?_)
      | refine v_fieldAddr (hl:=?_)
      | refine v_store (hl:=?_)
      | refine v_box (hl:=?_)
      | refine v_alloc (hl:=?_)
      | refine v_buildS (hl:=?_)
      | refine v_buildA (hl:=?_)
      | (refine v_call hA (hc:=c_add ?_ ?_) (hl:=?_);omega;omega))
     apply RunK.nil;try refine And.intro (by kernel_rfl) ?_)
  | refine aw_skip ?_ | refine aw_exit ?_)
 refine aw_ret (And.intro (Or.inr rfl) ?_)
 exact f_one
theorem t_add (h1:j1≤20000000) (h2:j2≤20000000) (h3:j3≤20000000) (h4:j4≤20000000):Ctr Tryz.prog Amb 59 [sp j1 a j2 b,sp j3 c j4 d] (sp (j1+j3+3) (a+c) (j2+j4+3) (b+d)):=by
 refine ctr_body Tryz.func59 rfl rfl rfl rfl rfl rfl ?_
 intro W0 base D μ0 hA hD
 repeat (first
  | refine aw_seq ?_ | refine aw_block ?_ | refine aw_condT rfl ?_ | refine aw_condF rfl ?_
  | ((first | refine aw_plainK (by kernel_rfl) ?_ | refine aw_drawK (by kernel_rfl) (by kernel_rfl) (by kernel_rfl) ?_)
     repeat (first
      | refine v_load (hl:=?_)
      | refine v_fieldAddr (hl:=?_)
      | refine v_store (hl:=?_)
      | refine v_box (hl:=?_)
      | refine v_alloc (hl:=?_)
      | refine v_buildS (hl:=?_)
      | refine v_buildA (hl:=?_)
      | (refine v_call hA (hc:=r_add ?_ ?_) (hl:=?_);omega;omega))
     apply RunK.nil;try refine And.intro (by kernel_rfl) ?_)
  | refine aw_skip ?_ | refine aw_exit ?_)
 refine aw_ret (And.intro (Or.inr rfl) ?_)
 exact f_one
theorem s_sub (h1:j1≤1000000) (h2:j2≤1000000) (h3:j3≤1000000) (h4:j4≤1000000):Ctr Tryz.prog Amb 58 [sp j1 a j2 b,sp j3 c j4 d] (sp (j1+j4+3) (a-d) (j2+j3+3) (b-c)):=by
 refine ctr_body Tryz.func58 rfl rfl rfl rfl rfl rfl ?_
 intro W0 base D μ0 hA hD
 repeat (first
  | refine aw_seq ?_ | refine aw_block ?_ | refine aw_condT rfl ?_ | refine aw_condF rfl ?_
  | ((first | refine aw_plainK (by kernel_rfl) ?_ | refine aw_drawK (by kernel_rfl) (by kernel_rfl) (by kernel_rfl) ?_)
     repeat (first
      | refine v_load (hl:=?_)
      | refine v_fieldAddr (hl:=?_)
      | refine v_store (hl:=?_)
      | refine v_box (hl:=?_)
      | refine v_alloc (hl:=?_)
      | refine v_buildS (hl:=?_)
      | refine v_buildA (hl:=?_)
      | (refine v_call hA (hc:=c_sub ?_ ?_) (hl:=?_);omega;omega))
     apply RunK.nil;try refine And.intro (by kernel_rfl) ?_)
  | refine aw_skip ?_ | refine aw_exit ?_)
 refine aw_ret (And.intro (Or.inr rfl) ?_)
 exact f_one
theorem t_neg:Ctr Tryz.prog Amb 109 [sp j1 a j2 b] (sp (j2+1) (-b) (j1+1) (-a)):=by
 refine ctr_body Tryz.func109 rfl rfl rfl rfl rfl rfl ?_
 intro W0 base D μ0 hA hD
 repeat (first
  | refine aw_seq ?_ | refine aw_block ?_ | refine aw_condT rfl ?_ | refine aw_condF rfl ?_
  | ((first | refine aw_plainK (by kernel_rfl) ?_ | refine aw_drawK (by kernel_rfl) (by kernel_rfl) (by kernel_rfl) ?_)
     repeat (first
      | refine v_load (hl:=?_)
      | refine v_fieldAddr (hl:=?_)
      | refine v_store (hl:=?_)
      | refine v_box (hl:=?_)
      | refine v_alloc (hl:=?_)
      | refine v_buildS (hl:=?_)
      | refine v_buildA (hl:=?_)
      | refine v_call hA (hc:=r_neg) (hl:=?_))
     apply RunK.nil;try refine And.intro (by kernel_rfl) ?_)
  | refine aw_skip ?_ | refine aw_exit ?_)
 refine aw_ret (And.intro (Or.inr rfl) ?_)
 exact f_one
theorem t_sub (h1:j1≤1000000) (h2:j2≤1000000) (h3:j3≤1000000) (h4:j4≤1000000):Ctr Tryz.prog Amb 60 [sp j1 a j2 b,sp j3 c j4 d] (sp (j1+(j4+1)+3) (a+ -d) (j2+(j3+1)+3) (b+ -c)):=by
 refine ctr_body Tryz.func60 rfl rfl rfl rfl rfl rfl ?_
 intro W0 base D μ0 hA hD
 repeat (first
  | refine aw_seq ?_ | refine aw_block ?_ | refine aw_condT rfl ?_ | refine aw_condF rfl ?_
  | ((first | refine aw_plainK (by kernel_rfl) ?_ | refine aw_drawK (by kernel_rfl) (by kernel_rfl) (by kernel_rfl) ?_)
     repeat (first
      | refine v_load (hl:=?_)
      | refine v_store (hl:=?_)
      | refine v_box (hl:=?_)
      | refine v_alloc (hl:=?_)
      | refine v_call hA (hc:=t_neg) (hl:=?_)
      | (refine v_call hA (hc:=t_add ?_ ?_ ?_ ?_) (hl:=?_);omega;omega;omega;omega))
     apply RunK.nil;try refine And.intro (by kernel_rfl) ?_)
  | refine aw_skip ?_ | refine aw_exit ?_)
 refine aw_ret (And.intro (Or.inr rfl) ?_)
 exact f_one
end
end Go.Proofs.YtgdlialkjiblpaaGreatDoor
namespace Go.Proofs.YtgdlialkjiblpaaGreatDoor
open Go.RowKit
set_option linter.unusedVariables false
set_option linter.unusedSimpArgs false
set_option maxRecDepth 20000
set_option maxHeartbeats 4000000
def Lp (a b y:Rat):Rat:=if sgnR y<0 then b*y else a*y
def Gp (a b y:Rat):Rat:=if sgnR y<0 then a*y else b*y
def mul1 (a b c d:Rat):Rat×Rat:=
 if 0≤sgnR a then (Lp a b c,Gp a b d) else if sgnR b≤0 then (Lp a b d,Gp a b c) else (mn (Lp a b c) (Lp a b d),mx (Gp a b c) (Gp a b d))
def mulS (a b c d:Rat):Rat×Rat:=if 0≤sgnR a∨sgnR b≤0 then mul1 a b c d else mul1 c d a b
section
variable {j1 j2 j3 j4:Nat} {a b c d x:Rat}
theorem s_lesser {p:Bool} (hp:decide (sgnR a<0)=p):Ctr Tryz.prog Amb 104 [nm j1 a] (.one (.v (.int .i64 (if p then 1 else 0)))):=by
 have bp:=binLt (k:= .i64) hp
 refine ctr_body Tryz.func104 rfl rfl rfl rfl rfl rfl ?_
 intro W0 base D μ0 hA hD
 cases p
 ·repeat (first
   | refine aw_seq ?_ | refine aw_block ?_ | refine aw_condT rfl ?_ | refine aw_condF rfl ?_
   | (refine aw_plainK (by kernel_rfl) ?_
      repeat (first
       | refine v_assign (hl:=?_)
       | refine v_load (hl:=?_)
       | refine v_box (hl:=?_)
       | refine v_bin (hl:=?_)
       | refine v_call hA (hc:=c_sign) (hl:=?_))
      apply RunK.nil)
   | refine aw_skip ?_ | refine aw_exit ?_)
  refine aw_ret (And.intro (Or.inr rfl) ?_)
  exact f_one
 ·repeat (first
   | refine aw_seq ?_ | refine aw_block ?_ | refine aw_condT rfl ?_ | refine aw_condF rfl ?_
   | (refine aw_plainK (by kernel_rfl) ?_
      repeat (first
       | refine v_assign (hl:=?_)
       | refine v_load (hl:=?_)
       | refine v_box (hl:=?_)
       | refine v_bin (hl:=?_)
       | refine v_call hA (hc:=c_sign) (hl:=?_))
      apply RunK.nil)
   | refine aw_skip ?_ | refine aw_exit ?_)
  refine aw_ret (And.intro (Or.inr rfl) ?_)
  exact f_one
theorem s_side {p q:Bool} (hp:decide (sgnR a≥0)=p) (hq:decide (sgnR b≤0)=q):Ctr Tryz.prog Amb 102 [sp j1 a j2 b] (.one (.v (.int .i64 (if p then 1 else if q then-1 else 0)))):=by
 have bp:=binGe (k:= .i64) hp
 have bq:=binLe (k:= .i64) hq
 refine ctr_body Tryz.func102 rfl rfl rfl rfl rfl rfl ?_
 intro W0 base D μ0 hA hD
 cases p
 ·cases q
  ·repeat (first
    | refine aw_seq ?_ | refine aw_block ?_ | refine aw_condT rfl ?_ | refine aw_condF rfl ?_
    | (refine aw_plainK (by kernel_rfl) ?_
       repeat (first
        | refine v_assign (hl:=?_)
        | refine v_load (hl:=?_)
        | refine v_fieldAddr (hl:=?_)
        | refine v_box (hl:=?_)
        | refine v_bin (hl:=?_)
        | refine v_call hA (hc:=c_sign) (hl:=?_))
       apply RunK.nil)
    | refine aw_skip ?_ | refine aw_exit ?_)
   refine aw_ret (And.intro (Or.inr rfl) ?_)
   exact f_one
  ·repeat (first
    | refine aw_seq ?_ | refine aw_block ?_ | refine aw_condT rfl ?_ | refine aw_condF rfl ?_
    | (refine aw_plainK (by kernel_rfl) ?_
       repeat (first
        | refine v_assign (hl:=?_)
        | refine v_load (hl:=?_)
        | refine v_fieldAddr (hl:=?_)
        | refine v_box (hl:=?_)
        | refine v_bin (hl:=?_)
        | refine v_call hA (hc:=c_sign) (hl:=?_))
       apply RunK.nil)
    | refine aw_skip ?_ | refine aw_exit ?_)
   refine aw_ret (And.intro (Or.inr rfl) ?_)
   exact f_one
 ·repeat (first
   | refine aw_seq ?_ | refine aw_block ?_ | refine aw_condT rfl ?_ | refine aw_condF rfl ?_
   | (refine aw_plainK (by kernel_rfl) ?_
      repeat (first
       | refine v_assign (hl:=?_)
       | refine v_load (hl:=?_)
       | refine v_fieldAddr (hl:=?_)
       | refine v_box (hl:=?_)
       | refine v_bin (hl:=?_)
       | refine v_call hA (hc:=c_sign) (hl:=?_))
      apply RunK.nil)
   | refine aw_skip ?_ | refine aw_exit ?_)
  refine aw_ret (And.intro (Or.inr rfl) ?_)
  exact f_one
theorem m_least0 (h1:j1≤1000000) (h2:j2≤1000000) (h3:j3≤1000000) (h4:j4≤1000000):CtrM Tryz.prog Amb 103 [.one (.v (.int .i64 0)),.one (.ptr 5 0),.one (.ptr 6 0)] [(5,nmC j1 a++nmC j2 b,nmC j1 a++nmC j2 b),(6,nmC j3 c++nmC j4 d,nmC j3 c++nmC j4 d)] (nm (j1+j2+j3+j4+2) (Lp a b c)):=by
 apply ctr_body Tryz.func103 rfl rfl rfl rfl rfl
 case hin=>simp [inA,inC]
 intro W0 base D μ0 hA hD
 unfold Lp
 by_cases h:sgnR c<0
 ·have L:=s_lesser (j1:=j3) (decide_eq_true h)
  simp only [h,if_true]
  repeat (first
   | refine aw_seq ?_ | refine aw_block ?_ | refine aw_condT rfl ?_ | refine aw_condF rfl ?_
   | ((first | refine aw_plainK (by kernel_rfl) ?_ | refine aw_drawK (by kernel_rfl) (by kernel_rfl) (by kernel_rfl) ?_)
      repeat (first
       | refine v_move (hl:=?_)
       | refine v_load (hl:=?_)
       | refine v_store (hl:=?_)
       | refine v_alloc (hl:=?_)
       | refine v_indexAddr (hl:=?_)
       | refine v_call hA (hc:=L) (hl:=?_)
       | (refine v_call hA (hc:=c_mul ?_ ?_) (hl:=?_);omega;omega))
      apply RunK.nil;try refine And.intro (by kernel_rfl) ?_)
   | refine aw_skip ?_ | refine aw_exit ?_)
  refine aw_ret (And.intro (Or.inr rfl) ?_)
  exact f_ro
 ·have L:=s_lesser (j1:=j3) (decide_eq_false h)
  simp only [h,if_false]
  repeat (first
   | refine aw_seq ?_ | refine aw_block ?_ | refine aw_condT rfl ?_ | refine aw_condF rfl ?_
   | ((first | refine aw_plainK (by kernel_rfl) ?_ | refine aw_drawK (by kernel_rfl) (by kernel_rfl) (by kernel_rfl) ?_)
      repeat (first
       | refine v_move (hl:=?_)
       | refine v_load (hl:=?_)
       | refine v_store (hl:=?_)
       | refine v_alloc (hl:=?_)
       | refine v_indexAddr (hl:=?_)
       | refine v_call hA (hc:=L) (hl:=?_)
       | (refine v_call hA (hc:=c_mul ?_ ?_) (hl:=?_);omega;omega))
      apply RunK.nil;try refine And.intro (by kernel_rfl) ?_)
   | refine aw_skip ?_ | refine aw_exit ?_)
  refine aw_ret (And.intro (Or.inr rfl) ?_)
  exact f_ro
theorem m_least1 (h1:j1≤1000000) (h2:j2≤1000000) (h3:j3≤1000000) (h4:j4≤1000000):CtrM Tryz.prog Amb 103 [.one (.v (.int .i64 1)),.one (.ptr 5 0),.one (.ptr 6 0)] [(5,nmC j1 a++nmC j2 b,nmC j1 a++nmC j2 b),(6,nmC j3 c++nmC j4 d,nmC j3 c++nmC j4 d)] (nm (j1+j2+j3+j4+2) (Lp a b d)):=by
 apply ctr_body Tryz.func103 rfl rfl rfl rfl rfl
 case hin=>simp [inA,inC]
 intro W0 base D μ0 hA hD
 unfold Lp
 by_cases h:sgnR d<0
 ·have L:=s_lesser (j1:=j4) (decide_eq_true h)
  simp only [h,if_true]
  repeat (first
   | refine aw_seq ?_ | refine aw_block ?_ | refine aw_condT rfl ?_ | refine aw_condF rfl ?_
   | ((first | refine aw_plainK (by kernel_rfl) ?_ | refine aw_drawK (by kernel_rfl) (by kernel_rfl) (by kernel_rfl) ?_)
      repeat (first
       | refine v_move (hl:=?_)
       | refine v_load (hl:=?_)
       | refine v_store (hl:=?_)
       | refine v_alloc (hl:=?_)
       | refine v_indexAddr (hl:=?_)
       | refine v_call hA (hc:=L) (hl:=?_)
       | (refine v_call hA (hc:=c_mul ?_ ?_) (hl:=?_);omega;omega))
      apply RunK.nil;try refine And.intro (by kernel_rfl) ?_)
   | refine aw_skip ?_ | refine aw_exit ?_)
  refine aw_ret (And.intro (Or.inr rfl) ?_)
  exact f_ro
 ·have L:=s_lesser (j1:=j4) (decide_eq_false h)
  simp only [h,if_false]
  repeat (first
   | refine aw_seq ?_ | refine aw_block ?_ | refine aw_condT rfl ?_ | refine aw_condF rfl ?_
   | ((first | refine aw_plainK (by kernel_rfl) ?_ | refine aw_drawK (by kernel_rfl) (by kernel_rfl) (by kernel_rfl) ?_)
      repeat (first
       | refine v_move (hl:=?_)
       | refine v_load (hl:=?_)
       | refine v_store (hl:=?_)
       | refine v_alloc (hl:=?_)
       | refine v_indexAddr (hl:=?_)
       | refine v_call hA (hc:=L) (hl:=?_)
       | (refine v_call hA (hc:=c_mul ?_ ?_) (hl:=?_);omega;omega))
      apply RunK.nil;try refine And.intro (by kernel_rfl) ?_)
   | refine aw_skip ?_ | refine aw_exit ?_)
  refine aw_ret (And.intro (Or.inr rfl) ?_)
  exact f_ro
theorem m_great0 (h1:j1≤1000000) (h2:j2≤1000000) (h3:j3≤1000000) (h4:j4≤1000000):CtrM Tryz.prog Amb 105 [.one (.v (.int .i64 0)),.one (.ptr 5 0),.one (.ptr 6 0)] [(5,nmC j1 a++nmC j2 b,nmC j1 a++nmC j2 b),(6,nmC j3 c++nmC j4 d,nmC j3 c++nmC j4 d)] (nm (j1+j2+j3+j4+2) (Gp a b c)):=by
 apply ctr_body Tryz.func105 rfl rfl rfl rfl rfl
 case hin=>simp [inA,inC]
 intro W0 base D μ0 hA hD
 unfold Gp
 by_cases h:sgnR c<0
 ·have L:=s_lesser (j1:=j3) (decide_eq_true h)
  simp only [h,if_true]
  repeat (first
   | refine aw_seq ?_ | refine aw_block ?_ | refine aw_condT rfl ?_ | refine aw_condF rfl ?_
   | ((first | refine aw_plainK (by kernel_rfl) ?_ | refine aw_drawK (by kernel_rfl) (by kernel_rfl) (by kernel_rfl) ?_)
      repeat (first
       | refine v_move (hl:=?_)
       | refine v_load (hl:=?_)
       | refine v_store (hl:=?_)
       | refine v_alloc (hl:=?_)
       | refine v_bin (hl:=?_)
       | refine v_indexAddr (hl:=?_)
       | refine v_call hA (hc:=L) (hl:=?_)
       | (refine v_call hA (hc:=c_mul ?_ ?_) (hl:=?_);omega;omega))
      apply RunK.nil;try refine And.intro (by kernel_rfl) ?_)
   | refine aw_skip ?_ | refine aw_exit ?_)
  refine aw_ret (And.intro (Or.inr rfl) ?_)
  exact f_ro
 ·have L:=s_lesser (j1:=j3) (decide_eq_false h)
  simp only [h,if_false]
  repeat (first
   | refine aw_seq ?_ | refine aw_block ?_ | refine aw_condT rfl ?_ | refine aw_condF rfl ?_
   | ((first | refine aw_plainK (by kernel_rfl) ?_ | refine aw_drawK (by kernel_rfl) (by kernel_rfl) (by kernel_rfl) ?_)
      repeat (first
       | refine v_move (hl:=?_)
       | refine v_load (hl:=?_)
       | refine v_store (hl:=?_)
       | refine v_alloc (hl:=?_)
       | refine v_bin (hl:=?_)
       | refine v_indexAddr (hl:=?_)
       | refine v_call hA (hc:=L) (hl:=?_)
       | (refine v_call hA (hc:=c_mul ?_ ?_) (hl:=?_);omega;omega))
      apply RunK.nil;try refine And.intro (by kernel_rfl) ?_)
   | refine aw_skip ?_ | refine aw_exit ?_)
  refine aw_ret (And.intro (Or.inr rfl) ?_)
  exact f_ro
theorem m_great1 (h1:j1≤1000000) (h2:j2≤1000000) (h3:j3≤1000000) (h4:j4≤1000000):CtrM Tryz.prog Amb 105 [.one (.v (.int .i64 1)),.one (.ptr 5 0),.one (.ptr 6 0)] [(5,nmC j1 a++nmC j2 b,nmC j1 a++nmC j2 b),(6,nmC j3 c++nmC j4 d,nmC j3 c++nmC j4 d)] (nm (j1+j2+j3+j4+2) (Gp a b d)):=by
 apply ctr_body Tryz.func105 rfl rfl rfl rfl rfl
 case hin=>simp [inA,inC]
 intro W0 base D μ0 hA hD
 unfold Gp
 by_cases h:sgnR d<0
 ·have L:=s_lesser (j1:=j4) (decide_eq_true h)
  simp only [h,if_true]
  repeat (first
   | refine aw_seq ?_ | refine aw_block ?_ | refine aw_condT rfl ?_ | refine aw_condF rfl ?_
   | ((first | refine aw_plainK (by kernel_rfl) ?_ | refine aw_drawK (by kernel_rfl) (by kernel_rfl) (by kernel_rfl) ?_)
      repeat (first
       | refine v_move (hl:=?_)
       | refine v_load (hl:=?_)
       | refine v_store (hl:=?_)
       | refine v_alloc (hl:=?_)
       | refine v_bin (hl:=?_)
       | refine v_indexAddr (hl:=?_)
       | refine v_call hA (hc:=L) (hl:=?_)
       | (refine v_call hA (hc:=c_mul ?_ ?_) (hl:=?_);omega;omega))
      apply RunK.nil;try refine And.intro (by kernel_rfl) ?_)
   | refine aw_skip ?_ | refine aw_exit ?_)
  refine aw_ret (And.intro (Or.inr rfl) ?_)
  exact f_ro
 ·have L:=s_lesser (j1:=j4) (decide_eq_false h)
  simp only [h,if_false]
  repeat (first
   | refine aw_seq ?_ | refine aw_block ?_ | refine aw_condT rfl ?_ | refine aw_condF rfl ?_
   | ((first | refine aw_plainK (by kernel_rfl) ?_ | refine aw_drawK (by kernel_rfl) (by kernel_rfl) (by kernel_rfl) ?_)
      repeat (first
       | refine v_move (hl:=?_)
       | refine v_load (hl:=?_)
       | refine v_store (hl:=?_)
       | refine v_alloc (hl:=?_)
       | refine v_bin (hl:=?_)
       | refine v_indexAddr (hl:=?_)
       | refine v_call hA (hc:=L) (hl:=?_)
       | (refine v_call hA (hc:=c_mul ?_ ?_) (hl:=?_);omega;omega))
      apply RunK.nil;try refine And.intro (by kernel_rfl) ?_)
   | refine aw_skip ?_ | refine aw_exit ?_)
  refine aw_ret (And.intro (Or.inr rfl) ?_)
  exact f_ro
theorem s_mul (h1:j1≤100000) (h2:j2≤100000) (h3:j3≤100000) (h4:j4≤100000):Ctr Tryz.prog Amb 53 [sp j1 a j2 b,sp j3 c j4 d] (sp (2*(j1+j2+j3+j4)+5) (mulS a b c d).1 (2*(j1+j2+j3+j4)+5) (mulS a b c d).2):=by
 refine ctr_body Tryz.func53 rfl rfl rfl rfl rfl rfl ?_
 intro W0 base D μ0 hA hD
 unfold mulS
 by_cases ha:0≤sgnR a
 ·have S:=s_side (j1:=j1) (j2:=j2) (decide_eq_true ha) (q:=decide (sgnR b≤0)) rfl
  have L0:=m_least0 (a:=a) (b:=b) (c:=c) (d:=d) (j1:=j1) (j2:=j2) (j3:=j3) (j4:=j4) (by omega) (by omega) (by omega) (by omega)
  have G1:=m_great1 (a:=a) (b:=b) (c:=c) (d:=d) (j1:=j1) (j2:=j2) (j3:=j3) (j4:=j4) (by omega) (by omega) (by omega) (by omega)
  rw [if_pos (.inl ha)]
  unfold mul1
  rw [if_pos ha]
  repeat (first
   | refine aw_seq ?_ | refine aw_block ?_ | refine aw_condT rfl ?_ | refine aw_condF rfl ?_
   | ((first | refine aw_plainK (by kernel_rfl) ?_ | refine aw_drawK (by kernel_rfl) (by kernel_rfl) (by kernel_rfl) ?_)
      repeat (first
       | refine v_move (hl:=?_)
       | refine v_assign (hl:=?_)
       | refine v_load (hl:=?_)
       | refine v_fieldAddr (hl:=?_)
       | refine v_store (hl:=?_)
       | refine v_box (hl:=?_)
       | refine v_alloc (hl:=?_)
       | refine v_buildS (hl:=?_)
       | refine v_buildA (hl:=?_)
       | refine v_bin (hl:=?_)
       | refine v_makeFunc' (hl:=?_)
       | refine v_eqBool (hl:=?_)
       | refine v_call hA (hc:=S) (hl:=?_)
       | (apply u_callM hA (ro:= [(_,_),(_,_)]) (rw:= []) (hc:=L0);(case hg=>(first | exact trivial | exact rfl));(case hd=>exact rfl);(case hcl=>exact rfl);(case has=>(first | exact Ents.of_eq rfl | ((repeat (first | exact Ents.nil' rfl | (refine Ents.cons' rfl ?_ ?_;focus (first | exact Ent.of_eq rfl | (refine Ent.agg' rfl ?_;(repeat (first | exact EntL.nil' rfl | (refine EntL.cons' rfl ?_ ?_;focus (first | exact EntC.of_eq rfl | (refine EntC.q rfl ?_;omega) | exact Z0 _ | exact Z2 _ | exact EntC.z0 (k:=0) | exact EntC.z1 (k:=0) | exact EntC.z2 (k:=0) | exact EntC.z0 | exact EntC.z1 | exact EntC.z2))));done) | (refine Ent.one' rfl ?_;(first | exact EntC.of_eq rfl | (refine EntC.q rfl ?_;omega) | exact Z0 _ | exact Z2 _ | exact EntC.z0 (k:=0) | exact EntC.z1 (k:=0) | exact EntC.z2 (k:=0) | exact EntC.z0 | exact EntC.z1 | exact EntC.z2))))));done)));(case hro=>exact fun p hp=>by simp only [List.mem_cons,List.not_mem_nil,or_false] at hp;rcases hp with rfl | rfl<;>rfl);(case hrw=>exact fun p hp=>by cases hp);(case hb=>exact rfl);(case hnd=>simp))
       | (apply u_callM hA (ro:= [(_,_),(_,_)]) (rw:= []) (hc:=G1);(case hg=>(first | exact trivial | exact rfl));(case hd=>exact rfl);(case hcl=>exact rfl);(case has=>(first | exact Ents.of_eq rfl | ((repeat (first | exact Ents.nil' rfl | (refine Ents.cons' rfl ?_ ?_;focus (first | exact Ent.of_eq rfl | (refine Ent.agg' rfl ?_;(repeat (first | exact EntL.nil' rfl | (refine EntL.cons' rfl ?_ ?_;focus (first | exact EntC.of_eq rfl | (refine EntC.q rfl ?_;omega) | exact Z0 _ | exact Z2 _ | exact EntC.z0 (k:=0) | exact EntC.z1 (k:=0) | exact EntC.z2 (k:=0) | exact EntC.z0 | exact EntC.z1 | exact EntC.z2))));done) | (refine Ent.one' rfl ?_;(first | exact EntC.of_eq rfl | (refine EntC.q rfl ?_;omega) | exact Z0 _ | exact Z2 _ | exact EntC.z0 (k:=0) | exact EntC.z1 (k:=0) | exact EntC.z2 (k:=0) | exact EntC.z0 | exact EntC.z1 | exact EntC.z2))))));done)));(case hro=>exact fun p hp=>by simp only [List.mem_cons,List.not_mem_nil,or_false] at hp;rcases hp with rfl | rfl<;>rfl);(case hrw=>exact fun p hp=>by cases hp);(case hb=>exact rfl);(case hnd=>simp)))
      apply RunK.nil;try refine And.intro (by kernel_rfl) ?_)
   | refine aw_skip ?_ | refine aw_exit ?_)
  refine aw_ret (And.intro (Or.inr rfl) ?_)
  exact f_one
 ·by_cases hb:sgnR b≤0
  ·have S:=s_side (j1:=j1) (j2:=j2) (decide_eq_false ha) (decide_eq_true hb)
   have L1:=m_least1 (a:=a) (b:=b) (c:=c) (d:=d) (j1:=j1) (j2:=j2) (j3:=j3) (j4:=j4) (by omega) (by omega) (by omega) (by omega)
   have G0:=m_great0 (a:=a) (b:=b) (c:=c) (d:=d) (j1:=j1) (j2:=j2) (j3:=j3) (j4:=j4) (by omega) (by omega) (by omega) (by omega)
   rw [if_pos (.inr hb)]
   unfold mul1
   rw [if_neg ha,if_pos hb]
   repeat (first
    | refine aw_seq ?_ | refine aw_block ?_ | refine aw_condT rfl ?_ | refine aw_condF rfl ?_
    | ((first | refine aw_plainK (by kernel_rfl) ?_ | refine aw_drawK (by kernel_rfl) (by kernel_rfl) (by kernel_rfl) ?_)
       repeat (first
        | refine v_move (hl:=?_)
        | refine v_assign (hl:=?_)
        | refine v_load (hl:=?_)
        | refine v_fieldAddr (hl:=?_)
        | refine v_store (hl:=?_)
        | refine v_box (hl:=?_)
        | refine v_alloc (hl:=?_)
        | refine v_buildS (hl:=?_)
        | refine v_buildA (hl:=?_)
        | refine v_bin (hl:=?_)
        | refine v_makeFunc' (hl:=?_)
        | refine v_eqBool (hl:=?_)
        | refine v_call hA (hc:=S) (hl:=?_)
        | (apply u_callM hA (ro:= [(_,_),(_,_)]) (rw:= []) (hc:=L1);(case hg=>(first | exact trivial | exact rfl));(case hd=>exact rfl);(case hcl=>exact rfl);(case has=>(first | exact Ents.of_eq rfl | ((repeat (first | exact Ents.nil' rfl | (refine Ents.cons' rfl ?_ ?_;focus (first | exact Ent.of_eq rfl | (refine Ent.agg' rfl ?_;(repeat (first | exact EntL.nil' rfl | (refine EntL.cons' rfl ?_ ?_;focus (first | exact EntC.of_eq rfl | (refine EntC.q rfl ?_;omega) | exact Z0 _ | exact Z2 _ | exact EntC.z0 (k:=0) | exact EntC.z1 (k:=0) | exact EntC.z2 (k:=0) | exact EntC.z0 | exact EntC.z1 | exact EntC.z2))));done) | (refine Ent.one' rfl ?_;(first | exact EntC.of_eq rfl | (refine EntC.q rfl ?_;omega) | exact Z0 _ | exact Z2 _ | exact EntC.z0 (k:=0) | exact EntC.z1 (k:=0) | exact EntC.z2 (k:=0) | exact EntC.z0 | exact EntC.z1 | exact EntC.z2))))));done)));(case hro=>exact fun p hp=>by simp only [List.mem_cons,List.not_mem_nil,or_false] at hp;rcases hp with rfl | rfl<;>rfl);(case hrw=>exact fun p hp=>by cases hp);(case hb=>exact rfl);(case hnd=>simp))
        | (apply u_callM hA (ro:= [(_,_),(_,_)]) (rw:= []) (hc:=G0);(case hg=>(first | exact trivial | exact rfl));(case hd=>exact rfl);(case hcl=>exact rfl);(case has=>(first | exact Ents.of_eq rfl | ((repeat (first | exact Ents.nil' rfl | (refine Ents.cons' rfl ?_ ?_;focus (first | exact Ent.of_eq rfl | (refine Ent.agg' rfl ?_;(repeat (first | exact EntL.nil' rfl | (refine EntL.cons' rfl ?_ ?_;focus (first | exact EntC.of_eq rfl | (refine EntC.q rfl ?_;omega) | exact Z0 _ | exact Z2 _ | exact EntC.z0 (k:=0) | exact EntC.z1 (k:=0) | exact EntC.z2 (k:=0) | exact EntC.z0 | exact EntC.z1 | exact EntC.z2))));done) | (refine Ent.one' rfl ?_;(first | exact EntC.of_eq rfl | (refine EntC.q rfl ?_;omega) | exact Z0 _ | exact Z2 _ | exact EntC.z0 (k:=0) | exact EntC.z1 (k:=0) | exact EntC.z2 (k:=0) | exact EntC.z0 | exact EntC.z1 | exact EntC.z2))))));done)));(case hro=>exact fun p hp=>by simp only [List.mem_cons,List.not_mem_nil,or_false] at hp;rcases hp with rfl | rfl<;>rfl);(case hrw=>exact fun p hp=>by cases hp);(case hb=>exact rfl);(case hnd=>simp)))
       apply RunK.nil;try refine And.intro (by kernel_rfl) ?_)
    | refine aw_skip ?_ | refine aw_exit ?_)
   refine aw_ret (And.intro (Or.inr rfl) ?_)
   exact f_one
  ·have S:=s_side (j1:=j1) (j2:=j2) (decide_eq_false ha) (decide_eq_false hb)
   have L0:=m_least0 (a:=c) (b:=d) (c:=a) (d:=b) (j1:=j3) (j2:=j4) (j3:=j1) (j4:=j2) (by omega) (by omega) (by omega) (by omega)
   have L1:=m_least1 (a:=c) (b:=d) (c:=a) (d:=b) (j1:=j3) (j2:=j4) (j3:=j1) (j4:=j2) (by omega) (by omega) (by omega) (by omega)
   have G0:=m_great0 (a:=c) (b:=d) (c:=a) (d:=b) (j1:=j3) (j2:=j4) (j3:=j1) (j4:=j2) (by omega) (by omega) (by omega) (by omega)
   have G1:=m_great1 (a:=c) (b:=d) (c:=a) (d:=b) (j1:=j3) (j2:=j4) (j3:=j1) (j4:=j2) (by omega) (by omega) (by omega) (by omega)
   rw [if_neg (fun h=>h.elim ha hb)]
   unfold mul1
   by_cases hc:0≤sgnR c
   ·have T:=s_side (j1:=j3) (j2:=j4) (decide_eq_true hc) (q:=decide (sgnR d≤0)) rfl
    rw [if_pos hc]
    repeat (first
     | refine aw_seq ?_ | refine aw_block ?_ | refine aw_condT rfl ?_ | refine aw_condF rfl ?_
     | ((first | refine aw_plainK (by kernel_rfl) ?_ | refine aw_drawK (by kernel_rfl) (by kernel_rfl) (by kernel_rfl) ?_)
        repeat (first
         | refine v_move (hl:=?_)
         | refine v_assign (hl:=?_)
         | refine v_load (hl:=?_)
         | refine v_fieldAddr (hl:=?_)
         | refine v_store (hl:=?_)
         | refine v_box (hl:=?_)
         | refine v_alloc (hl:=?_)
         | refine v_buildS (hl:=?_)
         | refine v_buildA (hl:=?_)
         | refine v_bin (hl:=?_)
         | refine v_makeFunc' (hl:=?_)
         | refine v_eqBool (hl:=?_)
         | refine v_call hA (hc:=S) (hl:=?_)
         | refine v_call hA (hc:=T) (hl:=?_)
         | (apply u_callM hA (ro:= [(_,_),(_,_)]) (rw:= []) (hc:=L0);(case hg=>(first | exact trivial | exact rfl));(case hd=>exact rfl);(case hcl=>exact rfl);(case has=>(first | exact Ents.of_eq rfl | ((repeat (first | exact Ents.nil' rfl | (refine Ents.cons' rfl ?_ ?_;focus (first | exact Ent.of_eq rfl | (refine Ent.agg' rfl ?_;(repeat (first | exact EntL.nil' rfl | (refine EntL.cons' rfl ?_ ?_;focus (first | exact EntC.of_eq rfl | (refine EntC.q rfl ?_;omega) | exact Z0 _ | exact Z2 _ | exact EntC.z0 (k:=0) | exact EntC.z1 (k:=0) | exact EntC.z2 (k:=0) | exact EntC.z0 | exact EntC.z1 | exact EntC.z2))));done) | (refine Ent.one' rfl ?_;(first | exact EntC.of_eq rfl | (refine EntC.q rfl ?_;omega) | exact Z0 _ | exact Z2 _ | exact EntC.z0 (k:=0) | exact EntC.z1 (k:=0) | exact EntC.z2 (k:=0) | exact EntC.z0 | exact EntC.z1 | exact EntC.z2))))));done)));(case hro=>exact fun p hp=>by simp only [List.mem_cons,List.not_mem_nil,or_false] at hp;rcases hp with rfl | rfl<;>rfl);(case hrw=>exact fun p hp=>by cases hp);(case hb=>exact rfl);(case hnd=>simp))
         | (apply u_callM hA (ro:= [(_,_),(_,_)]) (rw:= []) (hc:=G1);(case hg=>(first | exact trivial | exact rfl));(case hd=>exact rfl);(case hcl=>exact rfl);(case has=>(first | exact Ents.of_eq rfl | ((repeat (first | exact Ents.nil' rfl | (refine Ents.cons' rfl ?_ ?_;focus (first | exact Ent.of_eq rfl | (refine Ent.agg' rfl ?_;(repeat (first | exact EntL.nil' rfl | (refine EntL.cons' rfl ?_ ?_;focus (first | exact EntC.of_eq rfl | (refine EntC.q rfl ?_;omega) | exact Z0 _ | exact Z2 _ | exact EntC.z0 (k:=0) | exact EntC.z1 (k:=0) | exact EntC.z2 (k:=0) | exact EntC.z0 | exact EntC.z1 | exact EntC.z2))));done) | (refine Ent.one' rfl ?_;(first | exact EntC.of_eq rfl | (refine EntC.q rfl ?_;omega) | exact Z0 _ | exact Z2 _ | exact EntC.z0 (k:=0) | exact EntC.z1 (k:=0) | exact EntC.z2 (k:=0) | exact EntC.z0 | exact EntC.z1 | exact EntC.z2))))));done)));(case hro=>exact fun p hp=>by simp only [List.mem_cons,List.not_mem_nil,or_false] at hp;rcases hp with rfl | rfl<;>rfl);(case hrw=>exact fun p hp=>by cases hp);(case hb=>exact rfl);(case hnd=>simp)))
        apply RunK.nil;try refine And.intro (by kernel_rfl) ?_)
     | refine aw_skip ?_ | refine aw_exit ?_)
    refine aw_ret (And.intro (Or.inr rfl) ?_)
    exact f_one
   ·by_cases hd:sgnR d≤0
    ·have T:=s_side (j1:=j3) (j2:=j4) (decide_eq_false hc) (decide_eq_true hd)
     rw [if_neg hc,if_pos hd]
     repeat (first
      | refine aw_seq ?_ | refine aw_block ?_ | refine aw_condT rfl ?_ | refine aw_condF rfl ?_
      | ((first | refine aw_plainK (by kernel_rfl) ?_ | refine aw_drawK (by kernel_rfl) (by kernel_rfl) (by kernel_rfl) ?_)
         repeat (first
          | refine v_move (hl:=?_)
          | refine v_assign (hl:=?_)
          | refine v_load (hl:=?_)
          | refine v_fieldAddr (hl:=?_)
          | refine v_store (hl:=?_)
          | refine v_box (hl:=?_)
          | refine v_alloc (hl:=?_)
          | refine v_buildS (hl:=?_)
          | refine v_buildA (hl:=?_)
          | refine v_bin (hl:=?_)
          | refine v_makeFunc' (hl:=?_)
          | refine v_eqBool (hl:=?_)
          | refine v_call hA (hc:=S) (hl:=?_)
          | refine v_call hA (hc:=T) (hl:=?_)
          | (apply u_callM hA (ro:= [(_,_),(_,_)]) (rw:= []) (hc:=L1);(case hg=>(first | exact trivial | exact rfl));(case hd=>exact rfl);(case hcl=>exact rfl);(case has=>(first | exact Ents.of_eq rfl | ((repeat (first | exact Ents.nil' rfl | (refine Ents.cons' rfl ?_ ?_;focus (first | exact Ent.of_eq rfl | (refine Ent.agg' rfl ?_;(repeat (first | exact EntL.nil' rfl | (refine EntL.cons' rfl ?_ ?_;focus (first | exact EntC.of_eq rfl | (refine EntC.q rfl ?_;omega) | exact Z0 _ | exact Z2 _ | exact EntC.z0 (k:=0) | exact EntC.z1 (k:=0) | exact EntC.z2 (k:=0) | exact EntC.z0 | exact EntC.z1 | exact EntC.z2))));done) | (refine Ent.one' rfl ?_;(first | exact EntC.of_eq rfl | (refine EntC.q rfl ?_;omega) | exact Z0 _ | exact Z2 _ | exact EntC.z0 (k:=0) | exact EntC.z1 (k:=0) | exact EntC.z2 (k:=0) | exact EntC.z0 | exact EntC.z1 | exact EntC.z2))))));done)));(case hro=>exact fun p hp=>by simp only [List.mem_cons,List.not_mem_nil,or_false] at hp;rcases hp with rfl | rfl<;>rfl);(case hrw=>exact fun p hp=>by cases hp);(case hb=>exact rfl);(case hnd=>simp))
          | (apply u_callM hA (ro:= [(_,_),(_,_)]) (rw:= []) (hc:=G0);(case hg=>(first | exact trivial | exact rfl));(case hd=>exact rfl);(case hcl=>exact rfl);(case has=>(first | exact Ents.of_eq rfl | ((repeat (first | exact Ents.nil' rfl | (refine Ents.cons' rfl ?_ ?_;focus (first | exact Ent.of_eq rfl | (refine Ent.agg' rfl ?_;(repeat (first | exact EntL.nil' rfl | (refine EntL.cons' rfl ?_ ?_;focus (first | exact EntC.of_eq rfl | (refine EntC.q rfl ?_;omega) | exact Z0 _ | exact Z2 _ | exact EntC.z0 (k:=0) | exact EntC.z1 (k:=0) | exact EntC.z2 (k:=0) | exact EntC.z0 | exact EntC.z1 | exact EntC.z2))));done) | (refine Ent.one' rfl ?_;(first | exact EntC.of_eq rfl | (refine EntC.q rfl ?_;omega) | exact Z0 _ | exact Z2 _ | exact EntC.z0 (k:=0) | exact EntC.z1 (k:=0) | exact EntC.z2 (k:=0) | exact EntC.z0 | exact EntC.z1 | exact EntC.z2))))));done)));(case hro=>exact fun p hp=>by simp only [List.mem_cons,List.not_mem_nil,or_false] at hp;rcases hp with rfl | rfl<;>rfl);(case hrw=>exact fun p hp=>by cases hp);(case hb=>exact rfl);(case hnd=>simp)))
         apply RunK.nil;try refine And.intro (by kernel_rfl) ?_)
      | refine aw_skip ?_ | refine aw_exit ?_)
     refine aw_ret (And.intro (Or.inr rfl) ?_)
     exact f_one
    ·have T:=s_side (j1:=j3) (j2:=j4) (decide_eq_false hc) (decide_eq_false hd)
     rw [if_neg hc,if_neg hd]
     repeat (first
      | refine aw_seq ?_ | refine aw_block ?_ | refine aw_condT rfl ?_ | refine aw_condF rfl ?_
      | ((first | refine aw_plainK (by kernel_rfl) ?_ | refine aw_drawK (by kernel_rfl) (by kernel_rfl) (by kernel_rfl) ?_)
         repeat (first
          | refine v_move (hl:=?_)
          | refine v_assign (hl:=?_)
          | refine v_load (hl:=?_)
          | refine v_fieldAddr (hl:=?_)
          | refine v_store (hl:=?_)
          | refine v_box (hl:=?_)
          | refine v_alloc (hl:=?_)
          | refine v_buildS (hl:=?_)
          | refine v_buildA (hl:=?_)
          | refine v_bin (hl:=?_)
          | refine v_makeFunc' (hl:=?_)
          | refine v_eqBool (hl:=?_)
          | refine v_call hA (hc:=S) (hl:=?_)
          | refine v_call hA (hc:=T) (hl:=?_)
          | (apply u_callM hA (ro:= [(_,_),(_,_)]) (rw:= []) (hc:=L0);(case hg=>(first | exact trivial | exact rfl));(case hd=>exact rfl);(case hcl=>exact rfl);(case has=>(first | exact Ents.of_eq rfl | ((repeat (first | exact Ents.nil' rfl | (refine Ents.cons' rfl ?_ ?_;focus (first | exact Ent.of_eq rfl | (refine Ent.agg' rfl ?_;(repeat (first | exact EntL.nil' rfl | (refine EntL.cons' rfl ?_ ?_;focus (first | exact EntC.of_eq rfl | (refine EntC.q rfl ?_;omega) | exact Z0 _ | exact Z2 _ | exact EntC.z0 (k:=0) | exact EntC.z1 (k:=0) | exact EntC.z2 (k:=0) | exact EntC.z0 | exact EntC.z1 | exact EntC.z2))));done) | (refine Ent.one' rfl ?_;(first | exact EntC.of_eq rfl | (refine EntC.q rfl ?_;omega) | exact Z0 _ | exact Z2 _ | exact EntC.z0 (k:=0) | exact EntC.z1 (k:=0) | exact EntC.z2 (k:=0) | exact EntC.z0 | exact EntC.z1 | exact EntC.z2))))));done)));(case hro=>exact fun p hp=>by simp only [List.mem_cons,List.not_mem_nil,or_false] at hp;rcases hp with rfl | rfl<;>rfl);(case hrw=>exact fun p hp=>by cases hp);(case hb=>exact rfl);(case hnd=>simp))
          | (apply u_callM hA (ro:= [(_,_),(_,_)]) (rw:= []) (hc:=L1);(case hg=>(first | exact trivial | exact rfl));(case hd=>exact rfl);(case hcl=>exact rfl);(case has=>(first | exact Ents.of_eq rfl | ((repeat (first | exact Ents.nil' rfl | (refine Ents.cons' rfl ?_ ?_;focus (first | exact Ent.of_eq rfl | (refine Ent.agg' rfl ?_;(repeat (first | exact EntL.nil' rfl | (refine EntL.cons' rfl ?_ ?_;focus (first | exact EntC.of_eq rfl | (refine EntC.q rfl ?_;omega) | exact Z0 _ | exact Z2 _ | exact EntC.z0 (k:=0) | exact EntC.z1 (k:=0) | exact EntC.z2 (k:=0) | exact EntC.z0 | exact EntC.z1 | exact EntC.z2))));done) | (refine Ent.one' rfl ?_;(first | exact EntC.of_eq rfl | (refine EntC.q rfl ?_;omega) | exact Z0 _ | exact Z2 _ | exact EntC.z0 (k:=0) | exact EntC.z1 (k:=0) | exact EntC.z2 (k:=0) | exact EntC.z0 | exact EntC.z1 | exact EntC.z2))))));done)));(case hro=>exact fun p hp=>by simp only [List.mem_cons,List.not_mem_nil,or_false] at hp;rcases hp with rfl | rfl<;>rfl);(case hrw=>exact fun p hp=>by cases hp);(case hb=>exact rfl);(case hnd=>simp))
          | (apply u_callM hA (ro:= [(_,_),(_,_)]) (rw:= []) (hc:=G0);(case hg=>(first | exact trivial | exact rfl));(case hd=>exact rfl);(case hcl=>exact rfl);(case has=>(first | exact Ents.of_eq rfl | ((repeat (first | exact Ents.nil' rfl | (refine Ents.cons' rfl ?_ ?_;focus (first | exact Ent.of_eq rfl | (refine Ent.agg' rfl ?_;(repeat (first | exact EntL.nil' rfl | (refine EntL.cons' rfl ?_ ?_;focus (first | exact EntC.of_eq rfl | (refine EntC.q rfl ?_;omega) | exact Z0 _ | exact Z2 _ | exact EntC.z0 (k:=0) | exact EntC.z1 (k:=0) | exact EntC.z2 (k:=0) | exact EntC.z0 | exact EntC.z1 | exact EntC.z2))));done) | (refine Ent.one' rfl ?_;(first | exact EntC.of_eq rfl | (refine EntC.q rfl ?_;omega) | exact Z0 _ | exact Z2 _ | exact EntC.z0 (k:=0) | exact EntC.z1 (k:=0) | exact EntC.z2 (k:=0) | exact EntC.z0 | exact EntC.z1 | exact EntC.z2))))));done)));(case hro=>exact fun p hp=>by simp only [List.mem_cons,List.not_mem_nil,or_false] at hp;rcases hp with rfl | rfl<;>rfl);(case hrw=>exact fun p hp=>by cases hp);(case hb=>exact rfl);(case hnd=>simp))
          | (apply u_callM hA (ro:= [(_,_),(_,_)]) (rw:= []) (hc:=G1);(case hg=>(first | exact trivial | exact rfl));(case hd=>exact rfl);(case hcl=>exact rfl);(case has=>(first | exact Ents.of_eq rfl | ((repeat (first | exact Ents.nil' rfl | (refine Ents.cons' rfl ?_ ?_;focus (first | exact Ent.of_eq rfl | (refine Ent.agg' rfl ?_;(repeat (first | exact EntL.nil' rfl | (refine EntL.cons' rfl ?_ ?_;focus (first | exact EntC.of_eq rfl | (refine EntC.q rfl ?_;omega) | exact Z0 _ | exact Z2 _ | exact EntC.z0 (k:=0) | exact EntC.z1 (k:=0) | exact EntC.z2 (k:=0) | exact EntC.z0 | exact EntC.z1 | exact EntC.z2))));done) | (refine Ent.one' rfl ?_;(first | exact EntC.of_eq rfl | (refine EntC.q rfl ?_;omega) | exact Z0 _ | exact Z2 _ | exact EntC.z0 (k:=0) | exact EntC.z1 (k:=0) | exact EntC.z2 (k:=0) | exact EntC.z0 | exact EntC.z1 | exact EntC.z2))))));done)));(case hro=>exact fun p hp=>by simp only [List.mem_cons,List.not_mem_nil,or_false] at hp;rcases hp with rfl | rfl<;>rfl);(case hrw=>exact fun p hp=>by cases hp);(case hb=>exact rfl);(case hnd=>simp))
          | (refine v_call hA (hc:=c_min ?_ ?_) (hl:=?_);omega;omega)
          | (refine v_call hA (hc:=c_max ?_ ?_) (hl:=?_);omega;omega))
         apply RunK.nil;try refine And.intro (by kernel_rfl) ?_)
      | refine aw_skip ?_ | refine aw_exit ?_)
     refine aw_ret (And.intro (Or.inr rfl) ?_)
     exact f_one
end
end Go.Proofs.YtgdlialkjiblpaaGreatDoor
namespace Go.Proofs.YtgdlialkjiblpaaGreatDoor
open Go.RowKit
set_option linter.unusedVariables false
set_option linter.unusedSimpArgs false
set_option maxRecDepth 20000
set_option maxHeartbeats 4000000
section
variable {j1 j2 j3 j4:Nat} {a b c d x:Rat}
def mulT (a b c d:Rat):Rat×Rat:=(mn (mn (mn (a*c) (a*d)) (b*c)) (b*d),mx (mx (mx (a*c) (a*d)) (b*c)) (b*d))
theorem t_mul (h1:j1≤100000) (h2:j2≤100000) (h3:j3≤100000) (h4:j4≤100000):Ctr Tryz.prog Amb 61 [sp j1 a j2 b,sp j3 c j4 d] (sp (2*(j1+j2+j3+j4)+11) (mulT a b c d).1 (2*(j1+j2+j3+j4)+11) (mulT a b c d).2):=by
 refine ctr_body Tryz.func61 rfl rfl rfl rfl rfl rfl ?_
 intro W0 base D μ0 hA hD
 repeat (first
  | refine aw_seq ?_ | refine aw_block ?_ | refine aw_condT rfl ?_ | refine aw_condF rfl ?_
  | ((first | refine aw_plainK (by kernel_rfl) ?_ | refine aw_drawK (by kernel_rfl) (by kernel_rfl) (by kernel_rfl) ?_)
     repeat (first
      | refine v_load (hl:=?_)
      | refine v_fieldAddr (hl:=?_)
      | refine v_store (hl:=?_)
      | refine v_box (hl:=?_)
      | refine v_alloc (hl:=?_)
      | (refine v_call hA (hc:=r_mul ?_ ?_) (hl:=?_);omega;omega)
      | (refine v_call hA (hc:=t_point ?_) (hl:=?_);omega)
      | (refine v_call hA (hc:=t_hull ?_ ?_ ?_ ?_) (hl:=?_);omega;omega;omega;omega))
     apply RunK.nil;try refine And.intro (by kernel_rfl) ?_)
  | refine aw_skip ?_ | refine aw_exit ?_)
 refine aw_ret (And.intro (Or.inr rfl) ?_)
 exact f_one
def sqrS (a b:Rat):Rat×Rat:=if 0≤sgnR a then (a*a,b*b) else if sgnR b≤0 then (b*b,a*a) else (0,mx (a*a) (b*b))
theorem s_sqr (h1:j1≤100000) (h2:j2≤100000):Ctr Tryz.prog Amb 54 [sp j1 a j2 b] (sp (2*(j1+j2)+5) (sqrS a b).1 (2*(j1+j2)+5) (sqrS a b).2):=by
 refine ctr_body Tryz.func54 rfl rfl rfl rfl rfl rfl ?_
 intro W0 base D μ0 hA hD
 unfold sqrS
 by_cases ha:0≤sgnR a
 ·have S:=s_side (j1:=j1) (j2:=j2) (decide_eq_true ha) (q:=decide (sgnR b≤0)) rfl
  rw [if_pos ha]
  repeat (first
   | refine aw_seq ?_ | refine aw_block ?_ | refine aw_condT rfl ?_ | refine aw_condF rfl ?_
   | ((first | refine aw_plainK (by kernel_rfl) ?_ | refine aw_drawK (by kernel_rfl) (by kernel_rfl) (by kernel_rfl) ?_)
      repeat (first
       | refine v_assign (hl:=?_)
       | refine v_load (hl:=?_)
       | refine v_fieldAddr (hl:=?_)
       | refine v_store (hl:=?_)
       | refine v_box (hl:=?_)
       | refine v_alloc (hl:=?_)
       | refine v_buildS (hl:=?_)
       | refine v_buildA (hl:=?_)
       | refine v_bin (hl:=?_)
       | refine v_eqBool (hl:=?_)
       | refine v_call hA (hc:=S) (hl:=?_)
       | (refine v_call hA (hc:=c_mul ?_ ?_) (hl:=?_);omega;omega))
      apply RunK.nil;try refine And.intro (by kernel_rfl) ?_)
   | refine aw_skip ?_ | refine aw_exit ?_)
  refine aw_ret (And.intro (Or.inr rfl) ?_)
  exact f_one
 ·by_cases hb:sgnR b≤0
  ·have S:=s_side (j1:=j1) (j2:=j2) (decide_eq_false ha) (decide_eq_true hb)
   rw [if_neg ha,if_pos hb]
   repeat (first
    | refine aw_seq ?_ | refine aw_block ?_ | refine aw_condT rfl ?_ | refine aw_condF rfl ?_
    | ((first | refine aw_plainK (by kernel_rfl) ?_ | refine aw_drawK (by kernel_rfl) (by kernel_rfl) (by kernel_rfl) ?_)
       repeat (first
        | refine v_assign (hl:=?_)
        | refine v_load (hl:=?_)
        | refine v_fieldAddr (hl:=?_)
        | refine v_store (hl:=?_)
        | refine v_box (hl:=?_)
        | refine v_alloc (hl:=?_)
        | refine v_buildS (hl:=?_)
        | refine v_buildA (hl:=?_)
        | refine v_bin (hl:=?_)
        | refine v_eqBool (hl:=?_)
        | refine v_call hA (hc:=S) (hl:=?_)
        | (refine v_call hA (hc:=c_mul ?_ ?_) (hl:=?_);omega;omega))
       apply RunK.nil;try refine And.intro (by kernel_rfl) ?_)
    | refine aw_skip ?_ | refine aw_exit ?_)
   refine aw_ret (And.intro (Or.inr rfl) ?_)
   exact f_one
  ·have S:=s_side (j1:=j1) (j2:=j2) (decide_eq_false ha) (decide_eq_false hb)
   rw [if_neg ha,if_neg hb]
   repeat (first
    | refine aw_seq ?_ | refine aw_block ?_ | refine aw_condT rfl ?_ | refine aw_condF rfl ?_
    | ((first | refine aw_plainK (by kernel_rfl) ?_ | refine aw_drawK (by kernel_rfl) (by kernel_rfl) (by kernel_rfl) ?_)
       repeat (first
        | refine v_assign (hl:=?_)
        | refine v_load (hl:=?_)
        | refine v_fieldAddr (hl:=?_)
        | refine v_store (hl:=?_)
        | refine v_box (hl:=?_)
        | refine v_alloc (hl:=?_)
        | refine v_buildS (hl:=?_)
        | refine v_buildA (hl:=?_)
        | refine v_bin (hl:=?_)
        | refine v_eqBool (hl:=?_)
        | refine v_call hA (hc:=S) (hl:=?_)
        | (refine v_call hA (hc:=c_mul ?_ ?_) (hl:=?_);omega;omega)
        | (refine v_call hA (hc:=c_max ?_ ?_) (hl:=?_);omega;omega))
       apply RunK.nil;try refine And.intro (by kernel_rfl) ?_)
    | refine aw_skip ?_ | refine aw_exit ?_)
   refine aw_ret (And.intro (Or.inr rfl) ?_)
   exact f_one
end
end Go.Proofs.YtgdlialkjiblpaaGreatDoor
