/-
  SpanDets, by contracts.
-/
import Derived.Test.YtgdlialkjiblpaaGreatDoorWe
namespace Go.Proofs.YtgdlialkjiblpaaGreatDoor
open Go.RowKit
set_option linter.unusedVariables false
set_option linter.unusedSimpArgs false
set_option maxRecDepth 20000
set_option maxHeartbeats 8000000
namespace dets
theorem light' {l:List Int} {b:Bool} (h:decide ((l.length:Int)≤500)=b):Ctr Tryz.prog Amb 9 [.one (.ints l)] (.one (.v (.bool b))):=h▸d_light l
theorem law {l:List Int} (hb: ∀x∈l,-9223372036854775808≤x∧x<9223372036854775808):
  Ctr Tryz.prog Amb 3 [.one (.ints l)] (.one (.v (.bool true))):=by
 by_cases hL:(l.length:Int)≤500
 ·have hl:l.length≤1000000:=by omega
  have D1:=light' (decide_eq_true hL)
  have M1:=d_matrix (k:=10) hb hl
  rw [mx_cells] at M1
  have le:=elAB l
  generalize elA l=A at*
  generalize elB l=B at*
  have S3:=s_det3 (j:=5) (a0:=A 0) (b0:=B 0) (a1:=A 1) (b1:=B 1) (a2:=A 2) (b2:=B 2) (a3:=A 3) (b3:=B 3) (a4:=A 4) (b4:=B 4) (a5:=A 5) (b5:=B 5) (a6:=A 6) (b6:=B 6) (a7:=A 7) (b7:=B 7) (a8:=A 8) (b8:=B 8) (by decide)
  have T3:=t_det3 (j:=5) (a0:=A 0) (b0:=B 0) (a1:=A 1) (b1:=B 1) (a2:=A 2) (b2:=B 2) (a3:=A 3) (b3:=B 3) (a4:=A 4) (b4:=B 4) (a5:=A 5) (b5:=B 5) (a6:=A 6) (b6:=B 6) (a7:=A 7) (b7:=B 7) (a8:=A 8) (b8:=B 8) (le 0) (le 1) (le 2) (le 3) (le 4) (le 5) (le 6) (le 7) (le 8) (by decide)
  have S2:=s_det2 (j:=5) (a0:=A 0) (b0:=B 0) (a1:=A 1) (b1:=B 1) (a2:=A 3) (b2:=B 3) (a3:=A 4) (b3:=B 4) (by decide)
  have T2:=t_det2 (j:=5) (a0:=A 0) (b0:=B 0) (a1:=A 1) (b1:=B 1) (a2:=A 3) (b2:=B 3) (a3:=A 4) (b3:=B 4) (le 0) (le 1) (le 3) (le 4) (by decide)
  generalize d3 (A 0) (B 0) (A 1) (B 1) (A 2) (B 2) (A 3) (B 3) (A 4) (B 4) (A 5) (B 5) (A 6) (B 6) (A 7) (B 7) (A 8) (B 8)=y at*
  generalize d2 (A 0) (B 0) (A 1) (B 1) (A 3) (B 3) (A 4) (B 4)=z at*
  refine ctr_body Tryz.func3 rfl rfl rfl rfl rfl rfl ?_
  intro W0 base D μ0 hA hD
  repeat (first
   | refine aw_seq ?_ | refine aw_block ?_ | refine aw_condT rfl ?_ | refine aw_condF rfl ?_
   | ((first | refine aw_plainK (by kernel_rfl) ?_ | refine aw_drawK (by kernel_rfl) (by kernel_rfl) (by kernel_rfl) ?_)
      repeat (first
       | refine v_skip (hl:=?_)
       | refine v_move (hl:=?_)
       | refine v_assign (hl:=?_)
       | refine v_load (hl:=?_)
       | refine v_store (hl:=?_)
       | refine v_alloc (hl:=?_)
       | refine v_indexAddr (hl:=?_)
       | refine v_not (hl:=?_)
       | refine v_pickT (hl:=?_)
       | refine v_pickF (hl:=?_)
       | refine v_callE hA (hc:=D1) (hl:=?_)
       | refine v_callN hA (hc:=d_roll l) (hl:=?_)
       | refine v_callM hA (hc:=M1) (hl:=?_)
       | refine v_callE hA (hc:=t_sameT) (hl:=?_)
       | refine v_callE hA (hc:=awake3) (hl:=?_)
       | refine v_buildF (hl:=?_)
       | refine v_callK hA (hc:=S3) (dst:=some 28) (hl:=?_)
       | refine v_callK hA (hc:=T3) (dst:=some 30) (hl:=?_)
       | refine v_callK hA (hc:=S2) (dst:=some 34) (hl:=?_)
       | refine v_callK hA (hc:=T2) (dst:=some 36) (hl:=?_))
      apply RunK.nil;try refine And.intro (by kernel_rfl) ?_)
   | refine aw_skip ?_ | refine aw_exit ?_)
  refine aw_ret (And.intro (Or.inr rfl) ?_)
  exact f_one
 ·have D1:=light' (decide_eq_false hL)
  refine ctr_body Tryz.func3 rfl rfl rfl rfl rfl rfl ?_
  intro W0 base D μ0 hA hD
  repeat (first
   | refine aw_seq ?_ | refine aw_block ?_ | refine aw_condT rfl ?_ | refine aw_condF rfl ?_
   | ((first | refine aw_plainK (by kernel_rfl) ?_ | refine aw_drawK (by kernel_rfl) (by kernel_rfl) (by kernel_rfl) ?_)
      repeat (first
       | refine v_skip (hl:=?_)
       | refine v_move (hl:=?_)
       | refine v_assign (hl:=?_)
       | refine v_load (hl:=?_)
       | refine v_store (hl:=?_)
       | refine v_alloc (hl:=?_)
       | refine v_buildS (hl:=?_)
       | refine v_buildA (hl:=?_)
       | refine v_indexAddr (hl:=?_)
       | refine v_not (hl:=?_)
       | refine v_pickT (hl:=?_)
       | refine v_pickF (hl:=?_)
       | refine v_callE hA (hc:=D1) (hl:=?_)
       | refine v_callE hA (hc:=awake3) (hl:=?_))
      apply RunK.nil;try refine And.intro (by kernel_rfl) ?_)
   | refine aw_skip ?_ | refine aw_exit ?_)
  refine aw_ret (And.intro (Or.inr rfl) ?_)
  exact f_one
end dets
end Go.Proofs.YtgdlialkjiblpaaGreatDoor
