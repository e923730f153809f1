/-
  Several texts in one: Ss, Sb.
-/
import Derived.Test.YtnkobfcnflphkaaGreatDoorGs
namespace Go.Proofs.YtnkobfcnflphkaaGreatDoor
open Go.RowKit
set_option linter.unusedVariables false
set_option linter.unusedSimpArgs false
set_option maxRecDepth 20000
set_option maxHeartbeats 4000000
abbrev sp (j:Nat) (x:Rat) (k:Nat) (y:Rat):AV:= .agg [.q x j 0,.q x j 1,.q x j 2,.q y k 0,.q y k 1,.q y k 2]
end Go.Proofs.YtnkobfcnflphkaaGreatDoor
namespace Go.Proofs.YtnkobfcnflphkaaGreatDoor
open Go.RowKit
set_option linter.unusedVariables false
set_option linter.unusedSimpArgs false
set_option maxRecDepth 20000
set_option maxHeartbeats 4000000
section
variable {j1 j2 j3 j4:Nat} {a b c d x:Rat}
theorem s_of (h1:j1≤1000000) (h2:j2≤1000000):Ctr Tryz.prog Amb 72 [nm j1 a,nm j2 b] (sp (j1+j2+1) (mn a b) (j1+j2+1) (mx a b)):=by
 refine ctr_body Tryz.func72 rfl rfl rfl rfl rfl rfl ?_
 intro W0 base D μ0 hA hD
 repeat (first
  | refine aw_seq ?_ | refine aw_block ?_ | refine aw_condT rfl ?_ | refine aw_condF rfl ?_
  | ((first | refine aw_plainK (by kernel_rfl) ?_ | refine aw_drawK (by kernel_rfl) (by kernel_rfl) (by kernel_rfl) ?_)
     repeat (first
      | refine v_load (hl:=?_)
      | refine v_store (hl:=?_)
      | refine v_box (hl:=?_)
      | refine v_alloc (hl:=?_)
      | refine v_buildS (hl:=?_)
      | refine v_buildA (hl:=?_)
      | (refine v_call hA (hc:=c_min ?_ ?_) (hl:=?_);omega;omega)
      | (refine v_call hA (hc:=c_max ?_ ?_) (hl:=?_);omega;omega))
     apply RunK.nil;try refine And.intro (by kernel_rfl) ?_)
  | refine aw_skip ?_ | refine aw_exit ?_)
 refine aw_ret (And.intro (Or.inr rfl) ?_)
 exact f_one
theorem t_has {p q:Bool} (hp:decide (cmpR a x≤0)=p) (hq:decide (cmpR x b≤0)=q) (h1:j1≤1000000) (h2:j2≤1000000) (h3:j3≤1000000):Ctr Tryz.prog Amb 56 [sp j1 a j2 b,nm j3 x] (.one (.v (.bool (p&&q)))):=by
 have bp:=binLe (k:= .i64) hp
 have bq:=binLe (k:= .i64) hq
 refine ctr_body Tryz.func56 rfl rfl rfl rfl rfl rfl ?_
 intro W0 base D μ0 hA hD
 cases p
 ·repeat (first
   | refine aw_seq ?_ | refine aw_block ?_ | refine aw_condT rfl ?_ | refine aw_condF rfl ?_
   | (refine aw_plainK (by kernel_rfl) ?_
      repeat (first
       | refine v_skip (hl:=?_)
       | refine v_move (hl:=?_)
       | refine v_assign (hl:=?_)
       | refine v_load (hl:=?_)
       | refine v_fieldAddr (hl:=?_)
       | refine v_box (hl:=?_)
       | refine v_bin (hl:=?_)
       | refine v_pickT (hl:=?_)
       | refine v_pickF (hl:=?_)
       | (refine v_call hA (hc:=r_cmp ?_ ?_) (hl:=?_);omega;omega))
      apply RunK.nil)
   | refine aw_skip ?_ | refine aw_exit ?_)
  refine aw_ret (And.intro (Or.inr rfl) ?_)
  exact f_one
 ·repeat (first
   | refine aw_seq ?_ | refine aw_block ?_ | refine aw_condT rfl ?_ | refine aw_condF rfl ?_
   | (refine aw_plainK (by kernel_rfl) ?_
      repeat (first
       | refine v_skip (hl:=?_)
       | refine v_move (hl:=?_)
       | refine v_assign (hl:=?_)
       | refine v_load (hl:=?_)
       | refine v_fieldAddr (hl:=?_)
       | refine v_box (hl:=?_)
       | refine v_bin (hl:=?_)
       | refine v_pickT (hl:=?_)
       | refine v_pickF (hl:=?_)
       | (refine v_call hA (hc:=r_cmp ?_ ?_) (hl:=?_);omega;omega))
      apply RunK.nil)
   | refine aw_skip ?_ | refine aw_exit ?_)
  refine aw_ret (And.intro (Or.inr rfl) ?_)
  exact f_one
theorem t_inside {p q r s:Bool} (hp:decide (cmpR c a≤0)=p) (hq:decide (cmpR a d≤0)=q) (hr:decide (cmpR c b≤0)=r) (hs:decide (cmpR b d≤0)=s) (h1:j1≤1000000) (h2:j2≤1000000) (h3:j3≤1000000) (h4:j4≤1000000):
  Ctr Tryz.prog Amb 57 [sp j1 a j2 b,sp j3 c j4 d] (.one (.v (.bool ((p&&q)&&(r&&s))))):=by
 have H1:=t_has (x:=a) (j3:=j1) hp hq h3 h4 h1
 have H2:=t_has (x:=b) (j3:=j2) hr hs h3 h4 h2
 refine ctr_body Tryz.func57 rfl rfl rfl rfl rfl rfl ?_
 intro W0 base D μ0 hA hD
 obtain ⟨pq,hpq⟩: ∃pq,pq=(p&&q):=⟨_,rfl⟩
 rw [←hpq] at H1⊢
 cases pq
 ·repeat (first
   | refine aw_seq ?_ | refine aw_block ?_ | refine aw_condT rfl ?_ | refine aw_condF rfl ?_
   | (refine aw_plainK (by kernel_rfl) ?_
      repeat (first
       | refine v_skip (hl:=?_)
       | refine v_move (hl:=?_)
       | refine v_assign (hl:=?_)
       | refine v_load (hl:=?_)
       | refine v_fieldAddr (hl:=?_)
       | refine v_box (hl:=?_)
       | refine v_pickT (hl:=?_)
       | refine v_pickF (hl:=?_)
       | refine v_call hA (hc:=H1) (hl:=?_)
       | refine v_call hA (hc:=H2) (hl:=?_))
      apply RunK.nil)
   | refine aw_skip ?_ | refine aw_exit ?_)
  refine aw_ret (And.intro (Or.inr rfl) ?_)
  exact f_one
 ·repeat (first
   | refine aw_seq ?_ | refine aw_block ?_ | refine aw_condT rfl ?_ | refine aw_condF rfl ?_
   | (refine aw_plainK (by kernel_rfl) ?_
      repeat (first
       | refine v_skip (hl:=?_)
       | refine v_move (hl:=?_)
       | refine v_assign (hl:=?_)
       | refine v_load (hl:=?_)
       | refine v_fieldAddr (hl:=?_)
       | refine v_box (hl:=?_)
       | refine v_pickT (hl:=?_)
       | refine v_pickF (hl:=?_)
       | refine v_call hA (hc:=H1) (hl:=?_)
       | refine v_call hA (hc:=H2) (hl:=?_))
      apply RunK.nil)
   | refine aw_skip ?_ | refine aw_exit ?_)
  refine aw_ret (And.intro (Or.inr rfl) ?_)
  exact f_one
end
end Go.Proofs.YtnkobfcnflphkaaGreatDoor
