/-
  Several texts in one: Nw, Nx.
-/
import Derived.Test.YtkmalkcgkcpcmaaGreatDoorIb
import Derived.Test.YtkmalkcgkcpcmaaGreatDoorIc
namespace Go.Proofs.YtkmalkcgkcpcmaaGreatDoor
open Go.RowKit
set_option linter.unusedVariables false
set_option linter.unusedSimpArgs false
set_option maxRecDepth 20000
set_option maxHeartbeats 4000000
theorem s_permittedG {p:Int} (hp:p<1∨6<p):Ctr Tryz.prog Amb 53 [errV p] (.one (.v (.bool false))):=by
 by_cases h1:p<1
 ·have b1:=binGe (k:= .i64) (decide_eq_false (show ¬p≥1 by omega))
  refine ctr_body Tryz.func53 rfl rfl rfl rfl rfl rfl ?_
  intro W0 base D μ0 hA hD
  repeat (first | refine aw_seq ?_ | refine aw_block ?_ | refine aw_condT rfl ?_ | refine aw_condF rfl ?_ | refine aw_pa ?_ | refine aw_da ?_ | refine aw_skip ?_ | refine aw_exit ?_)
  refine aw_ret (And.intro (Or.inr rfl) ?_)
  exact f_one
 ·have b1:=binGe (k:= .i64) (decide_eq_true (show p≥1 by omega))
  have b2:=binLe (k:= .i64) (decide_eq_false (show ¬p≤6 by omega))
  refine ctr_body Tryz.func53 rfl rfl rfl rfl rfl rfl ?_
  intro W0 base D μ0 hA hD
  repeat (first | refine aw_seq ?_ | refine aw_block ?_ | refine aw_condT rfl ?_ | refine aw_condF rfl ?_ | refine aw_pa ?_ | refine aw_da ?_ | refine aw_skip ?_ | refine aw_exit ?_)
  refine aw_ret (And.intro (Or.inr rfl) ?_)
  exact f_one
theorem s_checkG {j:Nat} {p:Int} {l:List Rat} (hp:p<1∨6<p):Ctr Tryz.prog Amb 13 [.one (rats j l),errV p] (errV 1):=by
 have P0:=s_permittedG hp
 refine ctr_body Tryz.func13 rfl rfl rfl rfl rfl rfl ?_
 intro W0 base D μ0 hA hD
 repeat (first | refine aw_seq ?_ | refine aw_block ?_ | refine aw_condT rfl ?_ | refine aw_condF rfl ?_ | refine aw_pa ?_ | refine aw_da ?_ | refine aw_skip ?_ | refine aw_exit ?_)
 refine aw_ret (And.intro (Or.inr rfl) ?_)
 exact f_one
theorem t_checkG {j:Nat} {p:Int} {l:List Rat} (hp:p<1∨6<p):Ctr Tryz.prog Amb 16 [.one (rats j l),errV p] (errV 1):=by
 by_cases h1:p<1
 ·have p1:=binLt (k:= .i64) (decide_eq_true (show p<1 by omega))
  refine ctr_body Tryz.func16 rfl rfl rfl rfl rfl rfl ?_
  intro W0 base D μ0 hA hD
  repeat (first | refine aw_seq ?_ | refine aw_block ?_ | refine aw_condT rfl ?_ | refine aw_condF rfl ?_ | refine aw_pa ?_ | refine aw_da ?_ | refine aw_skip ?_ | refine aw_exit ?_)
  refine aw_ret (And.intro (Or.inr rfl) ?_)
  exact f_one
 ·have p1:=binLt (k:= .i64) (decide_eq_false (show ¬p<1 by omega))
  have p2:=binGt (k:= .i64) (decide_eq_true (show p>6 by omega))
  refine ctr_body Tryz.func16 rfl rfl rfl rfl rfl rfl ?_
  intro W0 base D μ0 hA hD
  repeat (first | refine aw_seq ?_ | refine aw_block ?_ | refine aw_condT rfl ?_ | refine aw_condF rfl ?_ | refine aw_pa ?_ | refine aw_da ?_ | refine aw_skip ?_ | refine aw_exit ?_)
  refine aw_ret (And.intro (Or.inr rfl) ?_)
  exact f_one
theorem both_chk {j:Nat} {p:Int} {l:List Rat} (hj:j≤100000) (hl:l.length≤1000000):
  ∃v:Int,Ctr Tryz.prog Amb 13 [.one (rats j l),errV p] (errV v)∧Ctr Tryz.prog Amb 16 [.one (rats j l),errV p] (errV v):=by
 by_cases hp:p<1∨6<p
 ·exact ⟨1,s_checkG hp,t_checkG hp⟩
 ·obtain ⟨q,rfl⟩: ∃q:Nat,p=(q:Int):=⟨p.toNat,by omega⟩
  have hq:1≤q∧q≤6:=by omega
  refine ⟨refC l q,?_,t_checkB hj hl hq⟩
  rw [←chk_eq hq.1]
  exact s_checkB hj hl hq (s_clamped hl (by omega))
end Go.Proofs.YtkmalkcgkcpcmaaGreatDoor
namespace Go.Proofs.YtkmalkcgkcpcmaaGreatDoor
open Go.RowKit
set_option linter.unusedVariables false
set_option linter.unusedSimpArgs false
set_option maxRecDepth 20000
set_option maxHeartbeats 1000000
section
variable {P:Program} {X:Ctx} {ops l:List Oper} {σ:St} {K:List Eff→St→Prop} {s:Nat→AV} {z:Nat→Nat}
variable {dst:Option Tmp} {ty:TypeId} {pos:String} {af:Array Edge} {gd:Option (Nat×Bool)}
end
end Go.Proofs.YtkmalkcgkcpcmaaGreatDoor
