/-
  Several texts in one: Ta.
-/
import Derived.Test.YtnkobfcnflphkaaGreatDoorHa
import Derived.Test.YtnkobfcnflphkaaGreatDoorGs
namespace Go.Proofs.YtnkobfcnflphkaaGreatDoor
open Go.RowKit
set_option linter.unusedVariables false
set_option linter.unusedSimpArgs false
set_option maxRecDepth 20000
set_option maxHeartbeats 4000000
section
variable {P:Program} {X:Ctx} {ops l:List Oper} {σ:St} {K:List Eff→St→Prop} {dst:Option Tmp} {ty:TypeId} {pos:String} {af:Array Edge} {gd:Option (Nat×Bool)}
end
theorem cmp_pos {x y:Rat} :0<cmpR x y↔y<x:=by
 unfold cmpR
 by_cases h1:x<y
 ·rw [if_pos h1];constructor
  ·intro h;omega
  ·intro h;grind
 ·rw [if_neg h1]
  by_cases h2:y<x
  ·rw [if_pos h2];simp [h2]
  ·rw [if_neg h2];simp [h2]
theorem cmp_le0 {x y:Rat} :cmpR x y≤0↔x≤y:=by
 have h:=cmp_pos (x:=x) (y:=y)
 constructor
 ·intro h1;have: ¬y<x:=fun h2=>by have:=h.2 h2;omega
  grind
 ·intro h1;have: ¬0<cmpR x y:=fun h2=>by have:=h.1 h2;grind
  omega
theorem mn_cases (x y:Rat):(mn x y=x∧x≤y)∨(mn x y=y∧y≤x):=by
 unfold mn
 split
 ·rename_i h;exact .inl ⟨rfl,cmp_le0.1 h⟩
 ·rename_i h;exact .inr ⟨rfl,by have:=cmp_pos.1 (show 0<cmpR x y by omega);grind⟩
theorem mx_cases (x y:Rat):(mx x y=x∧y≤x)∨(mx x y=y∧x≤y):=by
 unfold mx
 split
 ·rename_i h;exact .inl ⟨rfl,by rw [ord_neg] at h;exact cmp_le0.1 (by omega)⟩
 ·rename_i h;exact .inr ⟨rfl,cmp_le0.1 (by omega)⟩
section
variable {j1 j2 j3 j4:Nat} {a b c d x:Rat}
theorem s_meet {p q:Bool} (hp:decide (cmpR a d>0)=p) (hq:decide (cmpR c b>0)=q) (h1:j1≤1000000) (h2:j2≤1000000) (h3:j3≤1000000) (h4:j4≤1000000):
  Ctr Tryz.prog Amb 80 [sp j1 a j2 b,sp j3 c j4 d] (.tup [if (p || q)=true then sp 0 0 0 0 else sp (j1+j3+1) (mx a c) (j2+j4+1) (mn b d),.one (.v (.bool (!(p || q))))]):=by
 have bp:=binGt (k:= .i64) hp
 have bq:=binGt (k:= .i64) hq
 cases p
 ·cases q
  ·refine ctr_body Tryz.func80 rfl rfl rfl rfl rfl rfl ?_
   intro W0 base D μ0 hA hD
   repeat (first
    | refine aw_seq ?_ | refine aw_block ?_ | refine aw_condT rfl ?_ | refine aw_condF rfl ?_
    | ((first | refine aw_plainK (by kernel_rfl) ?_ | refine aw_drawK (by kernel_rfl) (by kernel_rfl) (by kernel_rfl) ?_)
       repeat (first
        | refine v_skip (hl:=?_)
        | refine v_move (hl:=?_)
        | refine v_assign (hl:=?_)
        | refine v_load (hl:=?_)
        | refine v_fieldAddr (hl:=?_)
        | refine v_store (hl:=?_)
        | refine v_box (hl:=?_)
        | refine v_alloc (hl:=?_)
        | refine v_buildS (hl:=?_)
        | refine v_buildA (hl:=?_)
        | refine v_bin (hl:=?_)
        | refine v_pickT (hl:=?_)
        | refine v_pickF (hl:=?_)
        | (refine v_call hA (hc:=c_cmp ?_ ?_) (hl:=?_);omega;omega)
        | (refine v_call hA (hc:=c_max ?_ ?_) (hl:=?_);omega;omega)
        | (refine v_call hA (hc:=c_min ?_ ?_) (hl:=?_);omega;omega))
       apply RunK.nil;try refine And.intro (by kernel_rfl) ?_)
    | refine aw_skip ?_ | refine aw_exit ?_)
   refine aw_ret (And.intro (Or.inr rfl) ?_)
   exact f_two
  ·refine ctr_body Tryz.func80 rfl rfl rfl rfl rfl rfl ?_
   intro W0 base D μ0 hA hD
   repeat (first
    | refine aw_seq ?_ | refine aw_block ?_ | refine aw_condT rfl ?_ | refine aw_condF rfl ?_
    | ((first | refine aw_plainK (by kernel_rfl) ?_ | refine aw_drawK (by kernel_rfl) (by kernel_rfl) (by kernel_rfl) ?_)
       repeat (first
        | refine v_skip (hl:=?_)
        | refine v_move (hl:=?_)
        | refine v_assign (hl:=?_)
        | refine v_load (hl:=?_)
        | refine v_fieldAddr (hl:=?_)
        | refine v_store (hl:=?_)
        | refine v_box (hl:=?_)
        | refine v_alloc (hl:=?_)
        | refine v_buildS (hl:=?_)
        | refine v_buildA (hl:=?_)
        | refine v_bin (hl:=?_)
        | refine v_pickT (hl:=?_)
        | refine v_pickF (hl:=?_)
        | (refine v_call hA (hc:=c_cmp ?_ ?_) (hl:=?_);omega;omega))
       apply RunK.nil;try refine And.intro (by kernel_rfl) ?_)
    | refine aw_skip ?_ | refine aw_exit ?_)
   refine aw_ret (And.intro (Or.inr rfl) ?_)
   exact f_two
 ·refine ctr_body Tryz.func80 rfl rfl rfl rfl rfl rfl ?_
  intro W0 base D μ0 hA hD
  repeat (first
   | refine aw_seq ?_ | refine aw_block ?_ | refine aw_condT rfl ?_ | refine aw_condF rfl ?_
   | ((first | refine aw_plainK (by kernel_rfl) ?_ | refine aw_drawK (by kernel_rfl) (by kernel_rfl) (by kernel_rfl) ?_)
      repeat (first
       | refine v_skip (hl:=?_)
       | refine v_move (hl:=?_)
       | refine v_assign (hl:=?_)
       | refine v_load (hl:=?_)
       | refine v_fieldAddr (hl:=?_)
       | refine v_store (hl:=?_)
       | refine v_box (hl:=?_)
       | refine v_alloc (hl:=?_)
       | refine v_buildS (hl:=?_)
       | refine v_buildA (hl:=?_)
       | refine v_bin (hl:=?_)
       | refine v_pickT (hl:=?_)
       | refine v_pickF (hl:=?_)
       | (refine v_call hA (hc:=c_cmp ?_ ?_) (hl:=?_);omega;omega))
      apply RunK.nil;try refine And.intro (by kernel_rfl) ?_)
   | refine aw_skip ?_ | refine aw_exit ?_)
  refine aw_ret (And.intro (Or.inr rfl) ?_)
  exact f_two
theorem t_meet {p:Bool} (hp:decide (cmpR (mx a c) (mn b d)>0)=p) (h1:j1≤1000000) (h2:j2≤1000000) (h3:j3≤1000000) (h4:j4≤1000000):
  Ctr Tryz.prog Amb 81 [sp j1 a j2 b,sp j3 c j4 d] (.tup [if p=true then sp 0 0 0 0 else sp (j1+j3+1) (mx a c) (j2+j4+1) (mn b d),.one (.v (.bool (!p)))]):=by
 have bp:=binGt (k:= .i64) hp
 cases p
 ·refine ctr_body Tryz.func81 rfl rfl rfl rfl rfl rfl ?_
  intro W0 base D μ0 hA hD
  repeat (first
   | refine aw_seq ?_ | refine aw_block ?_ | refine aw_condT rfl ?_ | refine aw_condF rfl ?_
   | ((first | refine aw_plainK (by kernel_rfl) ?_ | refine aw_drawK (by kernel_rfl) (by kernel_rfl) (by kernel_rfl) ?_)
      repeat (first
       | refine v_assign (hl:=?_)
       | refine v_load (hl:=?_)
       | refine v_fieldAddr (hl:=?_)
       | refine v_store (hl:=?_)
       | refine v_box (hl:=?_)
       | refine v_alloc (hl:=?_)
       | refine v_buildS (hl:=?_)
       | refine v_buildA (hl:=?_)
       | refine v_bin (hl:=?_)
       | (refine v_call hA (hc:=r_max ?_ ?_) (hl:=?_);omega;omega)
       | (refine v_call hA (hc:=r_min ?_ ?_) (hl:=?_);omega;omega)
       | (refine v_call hA (hc:=r_cmp ?_ ?_) (hl:=?_);omega;omega))
      apply RunK.nil;try refine And.intro (by kernel_rfl) ?_)
   | refine aw_skip ?_ | refine aw_exit ?_)
  refine aw_ret (And.intro (Or.inr rfl) ?_)
  exact f_two
 ·refine ctr_body Tryz.func81 rfl rfl rfl rfl rfl rfl ?_
  intro W0 base D μ0 hA hD
  repeat (first
   | refine aw_seq ?_ | refine aw_block ?_ | refine aw_condT rfl ?_ | refine aw_condF rfl ?_
   | ((first | refine aw_plainK (by kernel_rfl) ?_ | refine aw_drawK (by kernel_rfl) (by kernel_rfl) (by kernel_rfl) ?_)
      repeat (first
       | refine v_assign (hl:=?_)
       | refine v_load (hl:=?_)
       | refine v_fieldAddr (hl:=?_)
       | refine v_store (hl:=?_)
       | refine v_box (hl:=?_)
       | refine v_alloc (hl:=?_)
       | refine v_buildS (hl:=?_)
       | refine v_buildA (hl:=?_)
       | refine v_bin (hl:=?_)
       | (refine v_call hA (hc:=r_max ?_ ?_) (hl:=?_);omega;omega)
       | (refine v_call hA (hc:=r_min ?_ ?_) (hl:=?_);omega;omega)
       | (refine v_call hA (hc:=r_cmp ?_ ?_) (hl:=?_);omega;omega))
      apply RunK.nil;try refine And.intro (by kernel_rfl) ?_)
   | refine aw_skip ?_ | refine aw_exit ?_)
  refine aw_ret (And.intro (Or.inr rfl) ?_)
  exact f_two
end
end Go.Proofs.YtnkobfcnflphkaaGreatDoor
