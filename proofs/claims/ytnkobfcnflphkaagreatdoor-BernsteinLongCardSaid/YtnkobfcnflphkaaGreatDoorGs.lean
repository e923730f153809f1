/-
  Several texts in one: Sn, So.
-/
import Derived.Test.YtnkobfcnflphkaaGreatDoorGk
import Derived.Test.YtnkobfcnflphkaaGreatDoorEw
namespace Go.Proofs.YtnkobfcnflphkaaGreatDoor
open Go.RowKit
set_option linter.unusedVariables false
set_option linter.unusedSimpArgs false
set_option maxRecDepth 20000
set_option maxHeartbeats 4000000
theorem emod_neg {n m:Int} (hm:0<m) (h:n.tmod m<0):n % m=n.tmod m+m:=by
 have h3: -m<n.tmod m:=Int.lt_tmod_of_pos n hm
 have h4:n=m*n.tdiv m+n.tmod m:=(Int.mul_tdiv_add_tmod n m).symm
 have h5:n=(n.tmod m+m)+m*(n.tdiv m-1):=by rw [Int.mul_sub];omega
 rw [h5,Int.add_mul_emod_self_left]
 rw [←h5]
 exact Int.emod_eq_of_lt (by omega) (by omega)
theorem emod_pos {n m:Int} (hm:0<m) (h: ¬n.tmod m<0):n % m=n.tmod m:=by
 have h3:=Int.tmod_lt_of_pos n hm
 have h4:n=n.tmod m+m*n.tdiv m:=by have:=Int.mul_tdiv_add_tmod n m;omega
 rw [h4,Int.add_mul_emod_self_left,←h4]
 exact Int.emod_eq_of_lt (by omega) h3
theorem d_mod {n m:Int} (h1: -9223372036854775808≤n) (h2:n<9223372036854775808) (hm:0<m) (hm2:m<1000000):Ctr Tryz.prog Amb 42 [.one (.v (.int .i64 n)),.one (.v (.int .i64 m))] (.one (.v (.int .i64 (n % m)))):=by
 have hr:(IntKind.i64).wrap (n.tmod m+m)=n.tmod m+m:=by
  have h3:=Int.tmod_lt_of_pos n hm
  have h4: -m<n.tmod m:=Int.lt_tmod_of_pos n hm
  exact IntWalk.i64_in _ (by omega)
 have hs:=binAdd (k:= .i64) hr
 refine ctr_body Tryz.func42 rfl rfl rfl rfl rfl rfl ?_
 intro W0 base D μ0 hA hD
 repeat (first
  | refine aw_seq ?_ | refine aw_block ?_ | refine aw_condT rfl ?_ | refine aw_condF rfl ?_
  | (refine aw_plainK (by kernel_rfl) ?_
     repeat (first
      | refine v_move (hl:=?_)
      | refine v_assign (hl:=?_)
      | refine v_bin (hc:=(binRem (show m≠0 by omega))) (hl:=?_)
      | refine v_bin (hl:=?_))
     apply RunK.nil)
  | refine aw_skip ?_ | refine aw_exit ?_)
 refine aw_cond rfl (fun h=>?_) (fun h=>?_)
 ·repeat (first
   | refine aw_seq ?_ | refine aw_block ?_ | refine aw_condT rfl ?_ | refine aw_condF rfl ?_
   | (refine aw_plainK (by kernel_rfl) ?_
      repeat (first
       | refine v_move (hl:=?_)
       | refine v_assign (hl:=?_)
       | refine v_bin (hl:=?_))
      apply RunK.nil)
   | refine aw_skip ?_ | refine aw_exit ?_)
  refine aw_ret (And.intro (Or.inr rfl) ?_)
  exact f_one (hE:=(Ent.of_eq (by rw [emod_neg hm (of_decide_eq_true h)];rfl)))
 ·repeat (first
   | refine aw_seq ?_ | refine aw_block ?_ | refine aw_condT rfl ?_ | refine aw_condF rfl ?_
   | (refine aw_plainK (by kernel_rfl) ?_
      repeat (first
       | refine v_move (hl:=?_)
       | refine v_assign (hl:=?_)
       | refine v_bin (hl:=?_))
      apply RunK.nil)
   | refine aw_skip ?_ | refine aw_exit ?_)
  refine aw_ret (And.intro (Or.inr rfl) ?_)
  exact f_one (hE:=(Ent.of_eq (by rw [emod_pos hm (of_decide_eq_false h)];rfl)))
end Go.Proofs.YtnkobfcnflphkaaGreatDoor
namespace Go.Proofs.YtnkobfcnflphkaaGreatDoor
open Go.RowKit
set_option linter.unusedVariables false
set_option linter.unusedSimpArgs false
set_option maxRecDepth 20000
set_option maxHeartbeats 4000000
end Go.Proofs.YtnkobfcnflphkaaGreatDoor
