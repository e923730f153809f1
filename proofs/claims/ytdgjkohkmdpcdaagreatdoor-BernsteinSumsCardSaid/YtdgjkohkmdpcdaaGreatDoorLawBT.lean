/-
  What the laws of bernstein share.
-/
import Derived.Test.YtdgjkohkmdpcdaaGreatDoorHv
namespace Go.Proofs.YtdgjkohkmdpcdaaGreatDoor
open Go.RowKit
set_option linter.unusedVariables false
set_option linter.unusedSimpArgs false
set_option maxRecDepth 20000
set_option maxHeartbeats 8000000
theorem same5 {j k:Nat} {l m:List Rat} (h:l=m) (hl:l.length≤1000000):Ctr Tryz.prog Amb 21 [.one (rats j l),.one (rats k m)] (.one (.v (.bool true))):=by
 have S1:=t_sameList (j:=j) (k:=k) (l:=l) (m:=m) (by omega) (by rw [←h];omega)
 rw [decide_eq_true h] at S1
 refine ctr_body Tryz.func21 rfl rfl rfl rfl rfl rfl ?_
 intro W0 base D μ0 hA hD
 repeat (first | refine aw_seq ?_ | refine aw_block ?_ | refine aw_condT rfl ?_ | refine aw_condF rfl ?_ | refine aw_pa ?_ | refine aw_da ?_ | refine aw_skip ?_ | refine aw_exit ?_)
 refine aw_ret (And.intro (Or.inr rfl) ?_)
 exact f_one
namespace evals
theorem light' {l:List Int} {b:Bool} (h:decide ((l.length:Int)≤500)=b):Ctr Tryz.prog Amb 11 [.one (.ints l)] (.one (.v (.bool b))):=h▸d_light l
end evals
end Go.Proofs.YtdgjkohkmdpcdaaGreatDoor
