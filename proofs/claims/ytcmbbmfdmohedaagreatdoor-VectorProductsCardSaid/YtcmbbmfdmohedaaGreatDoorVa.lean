/-
  vector and its reference: points, sums and products, by the engine.
-/
import Derived.Test.YtcmbbmfdmohedaaGreatDoorSa
import Derived.Test.YtcmbbmfdmohedaaGreatDoorEw
namespace Go.Proofs.YtcmbbmfdmohedaaGreatDoor
open Go.RowKit
set_option linter.unusedVariables false
set_option linter.unusedSimpArgs false
set_option maxRecDepth 20000
set_option maxHeartbeats 4000000

/-- A point whose coordinates have at most j limbs. -/
abbrev pt (j : Nat) (x y z : Rat) : AV := .agg [.q x j 0, .q x j 1, .q x j 2, .q y j 0, .q y j 1, .q y j 2, .q z j 0, .q z j 1, .q z j 2]

theorem sgn_zero {x : Rat} (h : x = 0) : sgnR x = 0 := sgnR_eq.2 h
theorem c_sign0 {j : Nat} {x : Rat} (h : x = 0) : Ctr Tryz.prog Amb 74 [nm j x] (.one (.v (.int .i64 0))) := sgn_zero h ▸ c_sign
theorem r_sign0 {j : Nat} {x : Rat} (h : x = 0) : Ctr Tryz.prog Amb 68 [nm j x] (.one (.v (.int .i64 0))) := sgn_zero h ▸ r_sign
theorem c_sign' {j : Nat} {x : Rat} {n : Int} (h : sgnR x = n) : Ctr Tryz.prog Amb 74 [nm j x] (.one (.v (.int .i64 n))) := h ▸ c_sign
theorem r_sign' {j : Nat} {x : Rat} {n : Int} (h : sgnR x = n) : Ctr Tryz.prog Amb 68 [nm j x] (.one (.v (.int .i64 n))) := h ▸ r_sign
theorem c_same' {j k : Nat} {x y : Rat} {b : Bool} (h : decide (x = y) = b) : Ctr Tryz.prog Amb 73 [nm j x, nm k y] (.one (.v (.bool b))) := h ▸ c_same
theorem r_same' {j k : Nat} {x y : Rat} {b : Bool} (h : decide (x = y) = b) : Ctr Tryz.prog Amb 26 [nm j x, nm k y] (.one (.v (.bool b))) := h ▸ r_same
theorem r_sameT {j k : Nat} {x y : Rat} (h : x = y) : Ctr Tryz.prog Amb 26 [nm j x, nm k y] (.one (.v (.bool true))) := r_same' (decide_eq_true h)

section
variable {j k : Nat} {a b c x y z r : Rat}

theorem v_add (h1 : j ≤ 1000000) (h2 : k ≤ 1000000) : Ctr Tryz.prog Amb 20 [pt j a b c, pt k x y z] (pt (j + k + 3) (a + x) (b + y) (c + z)) := by
  refine ctr_body Tryz.func20 rfl rfl rfl rfl rfl rfl ?_
  intro W0 base D μ0 hA
  repeat (first
    | refine aw_seq ?_
    | refine aw_block ?_
    | refine aw_condT rfl ?_
    | refine aw_condF rfl ?_
    | refine aw_loopN 6 ?_
    | (refine aw_plainK (by kernel_rfl) ?_
       repeat (first
         | (apply u_move; (case hg => first | exact trivial | exact rfl); (case hd => exact rfl); (case hx => exact rfl))
         | (apply u_assign; (case hg => first | exact trivial | exact rfl); (case hd => exact rfl); (case hx => exact rfl))
         | (apply u_load; (case hg => first | exact trivial | exact rfl); (case hd => exact rfl); (case hx => exact rfl); (case hz => exact rfl))
         | (apply u_store; (case hg => first | exact trivial | exact rfl); (case hd => exact rfl); (case hx => exact rfl); (case hy => exact rfl); (case hc => kernel_rfl))
         | (apply u_box; (case hg => first | exact trivial | exact rfl); (case hd => exact rfl); (case hx => exact rfl); (case hc => exact rfl))
         | (apply u_alloc; (case hg => first | exact trivial | exact rfl); (case hd => exact rfl); (case hf => exact rfl))
         | (apply u_bin; (case hg => first | exact trivial | exact rfl); (case hd => exact rfl); (case hx => exact rfl); (case hy => exact rfl); (case hc => (first | exact (rfl : _ = some (Value.int _ 1)) | exact (rfl : _ = some (Value.int _ 2)) | exact (rfl : _ = some (Value.int _ 3)) | exact (rfl : _ = some (Value.int _ 0)) | exact (rfl : _ = some (Value.int _ 4)) | exact (rfl : _ = some (Value.int _ 5)) | exact (rfl : _ = some (Value.bool true)) | exact (rfl : _ = some (Value.bool false)) | exact rfl)))
         | (apply u_indexAddrTo 0; (case hg => (first | exact trivial | exact rfl)); (case hd => exact rfl); (case hx => exact rfl); (case hy => exact rfl); (case hc => exact rfl))
         | (apply u_indexAddrTo 3; (case hg => (first | exact trivial | exact rfl)); (case hd => exact rfl); (case hx => exact rfl); (case hy => exact rfl); (case hc => exact rfl))
         | (apply u_indexAddrTo 6; (case hg => (first | exact trivial | exact rfl)); (case hd => exact rfl); (case hx => exact rfl); (case hy => exact rfl); (case hc => exact rfl))
         | (apply u_indexAddr; (case hg => first | exact trivial | exact rfl); (case hd => exact rfl); (case hx => exact rfl); (case hy => exact rfl); (case hc => exact rfl))
         | (apply u_allocAt 1000; (case hg => (first | exact trivial | exact rfl)); (case hd => exact rfl); (case hf => exact rfl))
         | (apply u_boxAt 1000; (case hg => (first | exact trivial | exact rfl)); (case hd => exact rfl); (case hx => exact rfl); (case hc => exact rfl))
         | (apply u_allocAt 2000; (case hg => (first | exact trivial | exact rfl)); (case hd => exact rfl); (case hf => exact rfl))
         | (apply u_boxAt 2000; (case hg => (first | exact trivial | exact rfl)); (case hd => exact rfl); (case hx => exact rfl); (case hc => exact rfl))
         | (apply u_call hA (hc := c_add ?s0 ?s1); (case hg => (first | exact trivial | exact rfl)); (case hd => exact rfl); (case hcl => exact rfl); (case has => (first | exact Ents.of_eq rfl | ((repeat (first | exact Ents.nil' rfl | (refine Ents.cons' rfl ?_ ?_; focus (first | exact Ent.of_eq rfl | (refine Ent.agg' rfl ?_; (repeat (first | exact EntL.nil' rfl | (refine EntL.cons' rfl ?_ ?_; focus (first | exact EntC.of_eq rfl | (refine EntC.q rfl ?_; omega) | exact Z0 _ | exact Z2 _ | exact EntC.z0 (k := 0) | exact EntC.z1 (k := 0) | exact EntC.z2 (k := 0) | exact EntC.z0 | exact EntC.z1 | exact EntC.z2)))); done) | (refine Ent.one' rfl ?_; (first | exact EntC.of_eq rfl | (refine EntC.q rfl ?_; omega) | exact Z0 _ | exact Z2 _ | exact EntC.z0 (k := 0) | exact EntC.z1 (k := 0) | exact EntC.z2 (k := 0) | exact EntC.z0 | exact EntC.z1 | exact EntC.z2)))))); done))); (case s0 => omega); (case s1 => omega)))
       apply RunK.nil)
    | (refine aw_drawK (by kernel_rfl) (by kernel_rfl) (by kernel_rfl) ?_
       repeat (first
         | (apply u_move; (case hg => first | exact trivial | exact rfl); (case hd => exact rfl); (case hx => exact rfl))
         | (apply u_assign; (case hg => first | exact trivial | exact rfl); (case hd => exact rfl); (case hx => exact rfl))
         | (apply u_load; (case hg => first | exact trivial | exact rfl); (case hd => exact rfl); (case hx => exact rfl); (case hz => exact rfl))
         | (apply u_store; (case hg => first | exact trivial | exact rfl); (case hd => exact rfl); (case hx => exact rfl); (case hy => exact rfl); (case hc => kernel_rfl))
         | (apply u_box; (case hg => first | exact trivial | exact rfl); (case hd => exact rfl); (case hx => exact rfl); (case hc => exact rfl))
         | (apply u_alloc; (case hg => first | exact trivial | exact rfl); (case hd => exact rfl); (case hf => exact rfl))
         | (apply u_bin; (case hg => first | exact trivial | exact rfl); (case hd => exact rfl); (case hx => exact rfl); (case hy => exact rfl); (case hc => (first | exact (rfl : _ = some (Value.int _ 1)) | exact (rfl : _ = some (Value.int _ 2)) | exact (rfl : _ = some (Value.int _ 3)) | exact (rfl : _ = some (Value.int _ 0)) | exact (rfl : _ = some (Value.int _ 4)) | exact (rfl : _ = some (Value.int _ 5)) | exact (rfl : _ = some (Value.bool true)) | exact (rfl : _ = some (Value.bool false)) | exact rfl)))
         | (apply u_indexAddrTo 0; (case hg => (first | exact trivial | exact rfl)); (case hd => exact rfl); (case hx => exact rfl); (case hy => exact rfl); (case hc => exact rfl))
         | (apply u_indexAddrTo 3; (case hg => (first | exact trivial | exact rfl)); (case hd => exact rfl); (case hx => exact rfl); (case hy => exact rfl); (case hc => exact rfl))
         | (apply u_indexAddrTo 6; (case hg => (first | exact trivial | exact rfl)); (case hd => exact rfl); (case hx => exact rfl); (case hy => exact rfl); (case hc => exact rfl))
         | (apply u_indexAddr; (case hg => first | exact trivial | exact rfl); (case hd => exact rfl); (case hx => exact rfl); (case hy => exact rfl); (case hc => exact rfl))
         | (apply u_allocAt 1000; (case hg => (first | exact trivial | exact rfl)); (case hd => exact rfl); (case hf => exact rfl))
         | (apply u_boxAt 1000; (case hg => (first | exact trivial | exact rfl)); (case hd => exact rfl); (case hx => exact rfl); (case hc => exact rfl))
         | (apply u_allocAt 2000; (case hg => (first | exact trivial | exact rfl)); (case hd => exact rfl); (case hf => exact rfl))
         | (apply u_boxAt 2000; (case hg => (first | exact trivial | exact rfl)); (case hd => exact rfl); (case hx => exact rfl); (case hc => exact rfl))
         | (apply u_call hA (hc := c_add ?s0 ?s1); (case hg => (first | exact trivial | exact rfl)); (case hd => exact rfl); (case hcl => exact rfl); (case has => (first | exact Ents.of_eq rfl | ((repeat (first | exact Ents.nil' rfl | (refine Ents.cons' rfl ?_ ?_; focus (first | exact Ent.of_eq rfl | (refine Ent.agg' rfl ?_; (repeat (first | exact EntL.nil' rfl | (refine EntL.cons' rfl ?_ ?_; focus (first | exact EntC.of_eq rfl | (refine EntC.q rfl ?_; omega) | exact Z0 _ | exact Z2 _ | exact EntC.z0 (k := 0) | exact EntC.z1 (k := 0) | exact EntC.z2 (k := 0) | exact EntC.z0 | exact EntC.z1 | exact EntC.z2)))); done) | (refine Ent.one' rfl ?_; (first | exact EntC.of_eq rfl | (refine EntC.q rfl ?_; omega) | exact Z0 _ | exact Z2 _ | exact EntC.z0 (k := 0) | exact EntC.z1 (k := 0) | exact EntC.z2 (k := 0) | exact EntC.z0 | exact EntC.z1 | exact EntC.z2)))))); done))); (case s0 => omega); (case s1 => omega)))
       apply RunK.nil
       refine And.intro (by kernel_rfl) ?_)
    | refine aw_skip ?_
    | refine aw_exit ?_)
  refine aw_ret ?_
  refine And.intro (Or.inr rfl) ?_
  refine fin_one (by first | exact ResIs.tmp rfl | exact ResIs.cell inferInstance rfl rfl rfl rfl) (Ent.of_eq (by kernel_rfl))
theorem v_sub (h1 : j ≤ 1000000) (h2 : k ≤ 1000000) : Ctr Tryz.prog Amb 22 [pt j a b c, pt k x y z] (pt (j + k + 3) (a - x) (b - y) (c - z)) := by
  refine ctr_body Tryz.func22 rfl rfl rfl rfl rfl rfl ?_
  intro W0 base D μ0 hA
  repeat (first
    | refine aw_seq ?_
    | refine aw_block ?_
    | refine aw_condT rfl ?_
    | refine aw_condF rfl ?_
    | refine aw_loopN 6 ?_
    | (refine aw_plainK (by kernel_rfl) ?_
       repeat (first
         | (apply u_move; (case hg => first | exact trivial | exact rfl); (case hd => exact rfl); (case hx => exact rfl))
         | (apply u_assign; (case hg => first | exact trivial | exact rfl); (case hd => exact rfl); (case hx => exact rfl))
         | (apply u_load; (case hg => first | exact trivial | exact rfl); (case hd => exact rfl); (case hx => exact rfl); (case hz => exact rfl))
         | (apply u_store; (case hg => first | exact trivial | exact rfl); (case hd => exact rfl); (case hx => exact rfl); (case hy => exact rfl); (case hc => kernel_rfl))
         | (apply u_box; (case hg => first | exact trivial | exact rfl); (case hd => exact rfl); (case hx => exact rfl); (case hc => exact rfl))
         | (apply u_alloc; (case hg => first | exact trivial | exact rfl); (case hd => exact rfl); (case hf => exact rfl))
         | (apply u_bin; (case hg => first | exact trivial | exact rfl); (case hd => exact rfl); (case hx => exact rfl); (case hy => exact rfl); (case hc => (first | exact (rfl : _ = some (Value.int _ 1)) | exact (rfl : _ = some (Value.int _ 2)) | exact (rfl : _ = some (Value.int _ 3)) | exact (rfl : _ = some (Value.int _ 0)) | exact (rfl : _ = some (Value.int _ 4)) | exact (rfl : _ = some (Value.int _ 5)) | exact (rfl : _ = some (Value.bool true)) | exact (rfl : _ = some (Value.bool false)) | exact rfl)))
         | (apply u_indexAddrTo 0; (case hg => (first | exact trivial | exact rfl)); (case hd => exact rfl); (case hx => exact rfl); (case hy => exact rfl); (case hc => exact rfl))
         | (apply u_indexAddrTo 3; (case hg => (first | exact trivial | exact rfl)); (case hd => exact rfl); (case hx => exact rfl); (case hy => exact rfl); (case hc => exact rfl))
         | (apply u_indexAddrTo 6; (case hg => (first | exact trivial | exact rfl)); (case hd => exact rfl); (case hx => exact rfl); (case hy => exact rfl); (case hc => exact rfl))
         | (apply u_indexAddr; (case hg => first | exact trivial | exact rfl); (case hd => exact rfl); (case hx => exact rfl); (case hy => exact rfl); (case hc => exact rfl))
         | (apply u_allocAt 1000; (case hg => (first | exact trivial | exact rfl)); (case hd => exact rfl); (case hf => exact rfl))
         | (apply u_boxAt 1000; (case hg => (first | exact trivial | exact rfl)); (case hd => exact rfl); (case hx => exact rfl); (case hc => exact rfl))
         | (apply u_allocAt 2000; (case hg => (first | exact trivial | exact rfl)); (case hd => exact rfl); (case hf => exact rfl))
         | (apply u_boxAt 2000; (case hg => (first | exact trivial | exact rfl)); (case hd => exact rfl); (case hx => exact rfl); (case hc => exact rfl))
         | (apply u_call hA (hc := c_sub ?s0 ?s1); (case hg => (first | exact trivial | exact rfl)); (case hd => exact rfl); (case hcl => exact rfl); (case has => (first | exact Ents.of_eq rfl | ((repeat (first | exact Ents.nil' rfl | (refine Ents.cons' rfl ?_ ?_; focus (first | exact Ent.of_eq rfl | (refine Ent.agg' rfl ?_; (repeat (first | exact EntL.nil' rfl | (refine EntL.cons' rfl ?_ ?_; focus (first | exact EntC.of_eq rfl | (refine EntC.q rfl ?_; omega) | exact Z0 _ | exact Z2 _ | exact EntC.z0 (k := 0) | exact EntC.z1 (k := 0) | exact EntC.z2 (k := 0) | exact EntC.z0 | exact EntC.z1 | exact EntC.z2)))); done) | (refine Ent.one' rfl ?_; (first | exact EntC.of_eq rfl | (refine EntC.q rfl ?_; omega) | exact Z0 _ | exact Z2 _ | exact EntC.z0 (k := 0) | exact EntC.z1 (k := 0) | exact EntC.z2 (k := 0) | exact EntC.z0 | exact EntC.z1 | exact EntC.z2)))))); done))); (case s0 => omega); (case s1 => omega)))
       apply RunK.nil)
    | (refine aw_drawK (by kernel_rfl) (by kernel_rfl) (by kernel_rfl) ?_
       repeat (first
         | (apply u_move; (case hg => first | exact trivial | exact rfl); (case hd => exact rfl); (case hx => exact rfl))
         | (apply u_assign; (case hg => first | exact trivial | exact rfl); (case hd => exact rfl); (case hx => exact rfl))
         | (apply u_load; (case hg => first | exact trivial | exact rfl); (case hd => exact rfl); (case hx => exact rfl); (case hz => exact rfl))
         | (apply u_store; (case hg => first | exact trivial | exact rfl); (case hd => exact rfl); (case hx => exact rfl); (case hy => exact rfl); (case hc => kernel_rfl))
         | (apply u_box; (case hg => first | exact trivial | exact rfl); (case hd => exact rfl); (case hx => exact rfl); (case hc => exact rfl))
         | (apply u_alloc; (case hg => first | exact trivial | exact rfl); (case hd => exact rfl); (case hf => exact rfl))
         | (apply u_bin; (case hg => first | exact trivial | exact rfl); (case hd => exact rfl); (case hx => exact rfl); (case hy => exact rfl); (case hc => (first | exact (rfl : _ = some (Value.int _ 1)) | exact (rfl : _ = some (Value.int _ 2)) | exact (rfl : _ = some (Value.int _ 3)) | exact (rfl : _ = some (Value.int _ 0)) | exact (rfl : _ = some (Value.int _ 4)) | exact (rfl : _ = some (Value.int _ 5)) | exact (rfl : _ = some (Value.bool true)) | exact (rfl : _ = some (Value.bool false)) | exact rfl)))
         | (apply u_indexAddrTo 0; (case hg => (first | exact trivial | exact rfl)); (case hd => exact rfl); (case hx => exact rfl); (case hy => exact rfl); (case hc => exact rfl))
         | (apply u_indexAddrTo 3; (case hg => (first | exact trivial | exact rfl)); (case hd => exact rfl); (case hx => exact rfl); (case hy => exact rfl); (case hc => exact rfl))
         | (apply u_indexAddrTo 6; (case hg => (first | exact trivial | exact rfl)); (case hd => exact rfl); (case hx => exact rfl); (case hy => exact rfl); (case hc => exact rfl))
         | (apply u_indexAddr; (case hg => first | exact trivial | exact rfl); (case hd => exact rfl); (case hx => exact rfl); (case hy => exact rfl); (case hc => exact rfl))
         | (apply u_allocAt 1000; (case hg => (first | exact trivial | exact rfl)); (case hd => exact rfl); (case hf => exact rfl))
         | (apply u_boxAt 1000; (case hg => (first | exact trivial | exact rfl)); (case hd => exact rfl); (case hx => exact rfl); (case hc => exact rfl))
         | (apply u_allocAt 2000; (case hg => (first | exact trivial | exact rfl)); (case hd => exact rfl); (case hf => exact rfl))
         | (apply u_boxAt 2000; (case hg => (first | exact trivial | exact rfl)); (case hd => exact rfl); (case hx => exact rfl); (case hc => exact rfl))
         | (apply u_call hA (hc := c_sub ?s0 ?s1); (case hg => (first | exact trivial | exact rfl)); (case hd => exact rfl); (case hcl => exact rfl); (case has => (first | exact Ents.of_eq rfl | ((repeat (first | exact Ents.nil' rfl | (refine Ents.cons' rfl ?_ ?_; focus (first | exact Ent.of_eq rfl | (refine Ent.agg' rfl ?_; (repeat (first | exact EntL.nil' rfl | (refine EntL.cons' rfl ?_ ?_; focus (first | exact EntC.of_eq rfl | (refine EntC.q rfl ?_; omega) | exact Z0 _ | exact Z2 _ | exact EntC.z0 (k := 0) | exact EntC.z1 (k := 0) | exact EntC.z2 (k := 0) | exact EntC.z0 | exact EntC.z1 | exact EntC.z2)))); done) | (refine Ent.one' rfl ?_; (first | exact EntC.of_eq rfl | (refine EntC.q rfl ?_; omega) | exact Z0 _ | exact Z2 _ | exact EntC.z0 (k := 0) | exact EntC.z1 (k := 0) | exact EntC.z2 (k := 0) | exact EntC.z0 | exact EntC.z1 | exact EntC.z2)))))); done))); (case s0 => omega); (case s1 => omega)))
       apply RunK.nil
       refine And.intro (by kernel_rfl) ?_)
    | refine aw_skip ?_
    | refine aw_exit ?_)
  refine aw_ret ?_
  refine And.intro (Or.inr rfl) ?_
  refine fin_one (by first | exact ResIs.tmp rfl | exact ResIs.cell inferInstance rfl rfl rfl rfl) (Ent.of_eq (by kernel_rfl))
theorem v_dot (h1 : j ≤ 1000000) (h2 : k ≤ 1000000) : Ctr Tryz.prog Amb 27 [pt j a b c, pt k x y z] (nm (3 * (j + k) + 15) (0 + a * x + b * y + c * z)) := by
  refine ctr_body Tryz.func27 rfl rfl rfl rfl rfl rfl ?_
  intro W0 base D μ0 hA
  repeat (first
    | refine aw_seq ?_
    | refine aw_block ?_
    | refine aw_condT rfl ?_
    | refine aw_condF rfl ?_
    | refine aw_loopN 6 ?_
    | (refine aw_plainK (by kernel_rfl) ?_
       repeat (first
         | (apply u_move; (case hg => first | exact trivial | exact rfl); (case hd => exact rfl); (case hx => exact rfl))
         | (apply u_assign; (case hg => first | exact trivial | exact rfl); (case hd => exact rfl); (case hx => exact rfl))
         | (apply u_load; (case hg => first | exact trivial | exact rfl); (case hd => exact rfl); (case hx => exact rfl); (case hz => exact rfl))
         | (apply u_store; (case hg => first | exact trivial | exact rfl); (case hd => exact rfl); (case hx => exact rfl); (case hy => exact rfl); (case hc => kernel_rfl))
         | (apply u_box; (case hg => first | exact trivial | exact rfl); (case hd => exact rfl); (case hx => exact rfl); (case hc => exact rfl))
         | (apply u_alloc; (case hg => first | exact trivial | exact rfl); (case hd => exact rfl); (case hf => exact rfl))
         | (apply u_bin; (case hg => first | exact trivial | exact rfl); (case hd => exact rfl); (case hx => exact rfl); (case hy => exact rfl); (case hc => (first | exact (rfl : _ = some (Value.int _ 1)) | exact (rfl : _ = some (Value.int _ 2)) | exact (rfl : _ = some (Value.int _ 3)) | exact (rfl : _ = some (Value.int _ 0)) | exact (rfl : _ = some (Value.int _ 4)) | exact (rfl : _ = some (Value.int _ 5)) | exact (rfl : _ = some (Value.bool true)) | exact (rfl : _ = some (Value.bool false)) | exact rfl)))
         | (apply u_indexAddrTo 0; (case hg => (first | exact trivial | exact rfl)); (case hd => exact rfl); (case hx => exact rfl); (case hy => exact rfl); (case hc => exact rfl))
         | (apply u_indexAddrTo 3; (case hg => (first | exact trivial | exact rfl)); (case hd => exact rfl); (case hx => exact rfl); (case hy => exact rfl); (case hc => exact rfl))
         | (apply u_indexAddrTo 6; (case hg => (first | exact trivial | exact rfl)); (case hd => exact rfl); (case hx => exact rfl); (case hy => exact rfl); (case hc => exact rfl))
         | (apply u_indexAddr; (case hg => first | exact trivial | exact rfl); (case hd => exact rfl); (case hx => exact rfl); (case hy => exact rfl); (case hc => exact rfl))
         | (apply u_allocAt 1000; (case hg => (first | exact trivial | exact rfl)); (case hd => exact rfl); (case hf => exact rfl))
         | (apply u_boxAt 1000; (case hg => (first | exact trivial | exact rfl)); (case hd => exact rfl); (case hx => exact rfl); (case hc => exact rfl))
         | (apply u_allocAt 2000; (case hg => (first | exact trivial | exact rfl)); (case hd => exact rfl); (case hf => exact rfl))
         | (apply u_boxAt 2000; (case hg => (first | exact trivial | exact rfl)); (case hd => exact rfl); (case hx => exact rfl); (case hc => exact rfl))
         | (apply u_call hA (hc := c_mul ?s0 ?s1); (case hg => (first | exact trivial | exact rfl)); (case hd => exact rfl); (case hcl => exact rfl); (case has => (first | exact Ents.of_eq rfl | ((repeat (first | exact Ents.nil' rfl | (refine Ents.cons' rfl ?_ ?_; focus (first | exact Ent.of_eq rfl | (refine Ent.agg' rfl ?_; (repeat (first | exact EntL.nil' rfl | (refine EntL.cons' rfl ?_ ?_; focus (first | exact EntC.of_eq rfl | (refine EntC.q rfl ?_; omega) | exact Z0 _ | exact Z2 _ | exact EntC.z0 (k := 0) | exact EntC.z1 (k := 0) | exact EntC.z2 (k := 0) | exact EntC.z0 | exact EntC.z1 | exact EntC.z2)))); done) | (refine Ent.one' rfl ?_; (first | exact EntC.of_eq rfl | (refine EntC.q rfl ?_; omega) | exact Z0 _ | exact Z2 _ | exact EntC.z0 (k := 0) | exact EntC.z1 (k := 0) | exact EntC.z2 (k := 0) | exact EntC.z0 | exact EntC.z1 | exact EntC.z2)))))); done))); (case s0 => omega); (case s1 => omega))
         | (apply u_call hA (hc := c_add ?s0 ?s1); (case hg => (first | exact trivial | exact rfl)); (case hd => exact rfl); (case hcl => exact rfl); (case has => (first | exact Ents.of_eq rfl | ((repeat (first | exact Ents.nil' rfl | (refine Ents.cons' rfl ?_ ?_; focus (first | exact Ent.of_eq rfl | (refine Ent.agg' rfl ?_; (repeat (first | exact EntL.nil' rfl | (refine EntL.cons' rfl ?_ ?_; focus (first | exact EntC.of_eq rfl | (refine EntC.q rfl ?_; omega) | exact Z0 _ | exact Z2 _ | exact EntC.z0 (k := 0) | exact EntC.z1 (k := 0) | exact EntC.z2 (k := 0) | exact EntC.z0 | exact EntC.z1 | exact EntC.z2)))); done) | (refine Ent.one' rfl ?_; (first | exact EntC.of_eq rfl | (refine EntC.q rfl ?_; omega) | exact Z0 _ | exact Z2 _ | exact EntC.z0 (k := 0) | exact EntC.z1 (k := 0) | exact EntC.z2 (k := 0) | exact EntC.z0 | exact EntC.z1 | exact EntC.z2)))))); done))); (case s0 => omega); (case s1 => omega)))
       apply RunK.nil)
    | (refine aw_drawK (by kernel_rfl) (by kernel_rfl) (by kernel_rfl) ?_
       repeat (first
         | (apply u_move; (case hg => first | exact trivial | exact rfl); (case hd => exact rfl); (case hx => exact rfl))
         | (apply u_assign; (case hg => first | exact trivial | exact rfl); (case hd => exact rfl); (case hx => exact rfl))
         | (apply u_load; (case hg => first | exact trivial | exact rfl); (case hd => exact rfl); (case hx => exact rfl); (case hz => exact rfl))
         | (apply u_store; (case hg => first | exact trivial | exact rfl); (case hd => exact rfl); (case hx => exact rfl); (case hy => exact rfl); (case hc => kernel_rfl))
         | (apply u_box; (case hg => first | exact trivial | exact rfl); (case hd => exact rfl); (case hx => exact rfl); (case hc => exact rfl))
         | (apply u_alloc; (case hg => first | exact trivial | exact rfl); (case hd => exact rfl); (case hf => exact rfl))
         | (apply u_bin; (case hg => first | exact trivial | exact rfl); (case hd => exact rfl); (case hx => exact rfl); (case hy => exact rfl); (case hc => (first | exact (rfl : _ = some (Value.int _ 1)) | exact (rfl : _ = some (Value.int _ 2)) | exact (rfl : _ = some (Value.int _ 3)) | exact (rfl : _ = some (Value.int _ 0)) | exact (rfl : _ = some (Value.int _ 4)) | exact (rfl : _ = some (Value.int _ 5)) | exact (rfl : _ = some (Value.bool true)) | exact (rfl : _ = some (Value.bool false)) | exact rfl)))
         | (apply u_indexAddrTo 0; (case hg => (first | exact trivial | exact rfl)); (case hd => exact rfl); (case hx => exact rfl); (case hy => exact rfl); (case hc => exact rfl))
         | (apply u_indexAddrTo 3; (case hg => (first | exact trivial | exact rfl)); (case hd => exact rfl); (case hx => exact rfl); (case hy => exact rfl); (case hc => exact rfl))
         | (apply u_indexAddrTo 6; (case hg => (first | exact trivial | exact rfl)); (case hd => exact rfl); (case hx => exact rfl); (case hy => exact rfl); (case hc => exact rfl))
         | (apply u_indexAddr; (case hg => first | exact trivial | exact rfl); (case hd => exact rfl); (case hx => exact rfl); (case hy => exact rfl); (case hc => exact rfl))
         | (apply u_allocAt 1000; (case hg => (first | exact trivial | exact rfl)); (case hd => exact rfl); (case hf => exact rfl))
         | (apply u_boxAt 1000; (case hg => (first | exact trivial | exact rfl)); (case hd => exact rfl); (case hx => exact rfl); (case hc => exact rfl))
         | (apply u_allocAt 2000; (case hg => (first | exact trivial | exact rfl)); (case hd => exact rfl); (case hf => exact rfl))
         | (apply u_boxAt 2000; (case hg => (first | exact trivial | exact rfl)); (case hd => exact rfl); (case hx => exact rfl); (case hc => exact rfl))
         | (apply u_call hA (hc := c_mul ?s0 ?s1); (case hg => (first | exact trivial | exact rfl)); (case hd => exact rfl); (case hcl => exact rfl); (case has => (first | exact Ents.of_eq rfl | ((repeat (first | exact Ents.nil' rfl | (refine Ents.cons' rfl ?_ ?_; focus (first | exact Ent.of_eq rfl | (refine Ent.agg' rfl ?_; (repeat (first | exact EntL.nil' rfl | (refine EntL.cons' rfl ?_ ?_; focus (first | exact EntC.of_eq rfl | (refine EntC.q rfl ?_; omega) | exact Z0 _ | exact Z2 _ | exact EntC.z0 (k := 0) | exact EntC.z1 (k := 0) | exact EntC.z2 (k := 0) | exact EntC.z0 | exact EntC.z1 | exact EntC.z2)))); done) | (refine Ent.one' rfl ?_; (first | exact EntC.of_eq rfl | (refine EntC.q rfl ?_; omega) | exact Z0 _ | exact Z2 _ | exact EntC.z0 (k := 0) | exact EntC.z1 (k := 0) | exact EntC.z2 (k := 0) | exact EntC.z0 | exact EntC.z1 | exact EntC.z2)))))); done))); (case s0 => omega); (case s1 => omega))
         | (apply u_call hA (hc := c_add ?s0 ?s1); (case hg => (first | exact trivial | exact rfl)); (case hd => exact rfl); (case hcl => exact rfl); (case has => (first | exact Ents.of_eq rfl | ((repeat (first | exact Ents.nil' rfl | (refine Ents.cons' rfl ?_ ?_; focus (first | exact Ent.of_eq rfl | (refine Ent.agg' rfl ?_; (repeat (first | exact EntL.nil' rfl | (refine EntL.cons' rfl ?_ ?_; focus (first | exact EntC.of_eq rfl | (refine EntC.q rfl ?_; omega) | exact Z0 _ | exact Z2 _ | exact EntC.z0 (k := 0) | exact EntC.z1 (k := 0) | exact EntC.z2 (k := 0) | exact EntC.z0 | exact EntC.z1 | exact EntC.z2)))); done) | (refine Ent.one' rfl ?_; (first | exact EntC.of_eq rfl | (refine EntC.q rfl ?_; omega) | exact Z0 _ | exact Z2 _ | exact EntC.z0 (k := 0) | exact EntC.z1 (k := 0) | exact EntC.z2 (k := 0) | exact EntC.z0 | exact EntC.z1 | exact EntC.z2)))))); done))); (case s0 => omega); (case s1 => omega)))
       apply RunK.nil
       refine And.intro (by kernel_rfl) ?_)
    | refine aw_skip ?_
    | refine aw_exit ?_)
  refine aw_ret ?_
  refine And.intro (Or.inr rfl) ?_
  refine fin_one (by first | exact ResIs.tmp rfl | exact ResIs.cell inferInstance rfl rfl rfl rfl) (by (first | exact Ent.of_eq rfl | (refine Ent.agg' rfl ?_; (repeat (first | exact EntL.nil' rfl | (refine EntL.cons' rfl ?_ ?_; focus (first | exact EntC.of_eq rfl | (refine EntC.q rfl ?_; omega) | exact Z0 _ | exact Z2 _ | exact EntC.z0 (k := 0) | exact EntC.z1 (k := 0) | exact EntC.z2 (k := 0) | exact EntC.z0 | exact EntC.z1 | exact EntC.z2)))); done) | (refine Ent.one' rfl ?_; (first | exact EntC.of_eq rfl | (refine EntC.q rfl ?_; omega) | exact Z0 _ | exact Z2 _ | exact EntC.z0 (k := 0) | exact EntC.z1 (k := 0) | exact EntC.z2 (k := 0) | exact EntC.z0 | exact EntC.z1 | exact EntC.z2))))
theorem v_cross (h1 : j ≤ 1000000) (h2 : k ≤ 1000000) : Ctr Tryz.prog Amb 29 [pt j a b c, pt k x y z] (pt (j + k + 2 + (j + k + 2) + 3) (b * z - c * y) (c * x - a * z) (a * y - b * x)) := by
  refine ctr_body Tryz.func29 rfl rfl rfl rfl rfl rfl ?_
  intro W0 base D μ0 hA
  repeat (first
    | refine aw_seq ?_
    | refine aw_block ?_
    | refine aw_condT rfl ?_
    | refine aw_condF rfl ?_
    | refine aw_loopN 6 ?_
    | (refine aw_plainK (by kernel_rfl) ?_
       repeat (first
         | (apply u_move; (case hg => first | exact trivial | exact rfl); (case hd => exact rfl); (case hx => exact rfl))
         | (apply u_assign; (case hg => first | exact trivial | exact rfl); (case hd => exact rfl); (case hx => exact rfl))
         | (apply u_load; (case hg => first | exact trivial | exact rfl); (case hd => exact rfl); (case hx => exact rfl); (case hz => exact rfl))
         | (apply u_store; (case hg => first | exact trivial | exact rfl); (case hd => exact rfl); (case hx => exact rfl); (case hy => exact rfl); (case hc => kernel_rfl))
         | (apply u_box; (case hg => first | exact trivial | exact rfl); (case hd => exact rfl); (case hx => exact rfl); (case hc => exact rfl))
         | (apply u_alloc; (case hg => first | exact trivial | exact rfl); (case hd => exact rfl); (case hf => exact rfl))
         | (apply u_bin; (case hg => first | exact trivial | exact rfl); (case hd => exact rfl); (case hx => exact rfl); (case hy => exact rfl); (case hc => (first | exact (rfl : _ = some (Value.int _ 1)) | exact (rfl : _ = some (Value.int _ 2)) | exact (rfl : _ = some (Value.int _ 3)) | exact (rfl : _ = some (Value.int _ 0)) | exact (rfl : _ = some (Value.int _ 4)) | exact (rfl : _ = some (Value.int _ 5)) | exact (rfl : _ = some (Value.bool true)) | exact (rfl : _ = some (Value.bool false)) | exact rfl)))
         | (apply u_indexAddrTo 0; (case hg => (first | exact trivial | exact rfl)); (case hd => exact rfl); (case hx => exact rfl); (case hy => exact rfl); (case hc => exact rfl))
         | (apply u_indexAddrTo 3; (case hg => (first | exact trivial | exact rfl)); (case hd => exact rfl); (case hx => exact rfl); (case hy => exact rfl); (case hc => exact rfl))
         | (apply u_indexAddrTo 6; (case hg => (first | exact trivial | exact rfl)); (case hd => exact rfl); (case hx => exact rfl); (case hy => exact rfl); (case hc => exact rfl))
         | (apply u_indexAddr; (case hg => first | exact trivial | exact rfl); (case hd => exact rfl); (case hx => exact rfl); (case hy => exact rfl); (case hc => exact rfl))
         | (apply u_allocAt 1000; (case hg => (first | exact trivial | exact rfl)); (case hd => exact rfl); (case hf => exact rfl))
         | (apply u_boxAt 1000; (case hg => (first | exact trivial | exact rfl)); (case hd => exact rfl); (case hx => exact rfl); (case hc => exact rfl))
         | (apply u_allocAt 2000; (case hg => (first | exact trivial | exact rfl)); (case hd => exact rfl); (case hf => exact rfl))
         | (apply u_boxAt 2000; (case hg => (first | exact trivial | exact rfl)); (case hd => exact rfl); (case hx => exact rfl); (case hc => exact rfl))
         | (apply u_call hA (hc := c_mul ?s0 ?s1); (case hg => (first | exact trivial | exact rfl)); (case hd => exact rfl); (case hcl => exact rfl); (case has => (first | exact Ents.of_eq rfl | ((repeat (first | exact Ents.nil' rfl | (refine Ents.cons' rfl ?_ ?_; focus (first | exact Ent.of_eq rfl | (refine Ent.agg' rfl ?_; (repeat (first | exact EntL.nil' rfl | (refine EntL.cons' rfl ?_ ?_; focus (first | exact EntC.of_eq rfl | (refine EntC.q rfl ?_; omega) | exact Z0 _ | exact Z2 _ | exact EntC.z0 (k := 0) | exact EntC.z1 (k := 0) | exact EntC.z2 (k := 0) | exact EntC.z0 | exact EntC.z1 | exact EntC.z2)))); done) | (refine Ent.one' rfl ?_; (first | exact EntC.of_eq rfl | (refine EntC.q rfl ?_; omega) | exact Z0 _ | exact Z2 _ | exact EntC.z0 (k := 0) | exact EntC.z1 (k := 0) | exact EntC.z2 (k := 0) | exact EntC.z0 | exact EntC.z1 | exact EntC.z2)))))); done))); (case s0 => omega); (case s1 => omega))
         | (apply u_call hA (hc := c_sub ?s0 ?s1); (case hg => (first | exact trivial | exact rfl)); (case hd => exact rfl); (case hcl => exact rfl); (case has => (first | exact Ents.of_eq rfl | ((repeat (first | exact Ents.nil' rfl | (refine Ents.cons' rfl ?_ ?_; focus (first | exact Ent.of_eq rfl | (refine Ent.agg' rfl ?_; (repeat (first | exact EntL.nil' rfl | (refine EntL.cons' rfl ?_ ?_; focus (first | exact EntC.of_eq rfl | (refine EntC.q rfl ?_; omega) | exact Z0 _ | exact Z2 _ | exact EntC.z0 (k := 0) | exact EntC.z1 (k := 0) | exact EntC.z2 (k := 0) | exact EntC.z0 | exact EntC.z1 | exact EntC.z2)))); done) | (refine Ent.one' rfl ?_; (first | exact EntC.of_eq rfl | (refine EntC.q rfl ?_; omega) | exact Z0 _ | exact Z2 _ | exact EntC.z0 (k := 0) | exact EntC.z1 (k := 0) | exact EntC.z2 (k := 0) | exact EntC.z0 | exact EntC.z1 | exact EntC.z2)))))); done))); (case s0 => omega); (case s1 => omega)))
       apply RunK.nil)
    | (refine aw_drawK (by kernel_rfl) (by kernel_rfl) (by kernel_rfl) ?_
       repeat (first
         | (apply u_move; (case hg => first | exact trivial | exact rfl); (case hd => exact rfl); (case hx => exact rfl))
         | (apply u_assign; (case hg => first | exact trivial | exact rfl); (case hd => exact rfl); (case hx => exact rfl))
         | (apply u_load; (case hg => first | exact trivial | exact rfl); (case hd => exact rfl); (case hx => exact rfl); (case hz => exact rfl))
         | (apply u_store; (case hg => first | exact trivial | exact rfl); (case hd => exact rfl); (case hx => exact rfl); (case hy => exact rfl); (case hc => kernel_rfl))
         | (apply u_box; (case hg => first | exact trivial | exact rfl); (case hd => exact rfl); (case hx => exact rfl); (case hc => exact rfl))
         | (apply u_alloc; (case hg => first | exact trivial | exact rfl); (case hd => exact rfl); (case hf => exact rfl))
         | (apply u_bin; (case hg => first | exact trivial | exact rfl); (case hd => exact rfl); (case hx => exact rfl); (case hy => exact rfl); (case hc => (first | exact (rfl : _ = some (Value.int _ 1)) | exact (rfl : _ = some (Value.int _ 2)) | exact (rfl : _ = some (Value.int _ 3)) | exact (rfl : _ = some (Value.int _ 0)) | exact (rfl : _ = some (Value.int _ 4)) | exact (rfl : _ = some (Value.int _ 5)) | exact (rfl : _ = some (Value.bool true)) | exact (rfl : _ = some (Value.bool false)) | exact rfl)))
         | (apply u_indexAddrTo 0; (case hg => (first | exact trivial | exact rfl)); (case hd => exact rfl); (case hx => exact rfl); (case hy => exact rfl); (case hc => exact rfl))
         | (apply u_indexAddrTo 3; (case hg => (first | exact trivial | exact rfl)); (case hd => exact rfl); (case hx => exact rfl); (case hy => exact rfl); (case hc => exact rfl))
         | (apply u_indexAddrTo 6; (case hg => (first | exact trivial | exact rfl)); (case hd => exact rfl); (case hx => exact rfl); (case hy => exact rfl); (case hc => exact rfl))
         | (apply u_indexAddr; (case hg => first | exact trivial | exact rfl); (case hd => exact rfl); (case hx => exact rfl); (case hy => exact rfl); (case hc => exact rfl))
         | (apply u_allocAt 1000; (case hg => (first | exact trivial | exact rfl)); (case hd => exact rfl); (case hf => exact rfl))
         | (apply u_boxAt 1000; (case hg => (first | exact trivial | exact rfl)); (case hd => exact rfl); (case hx => exact rfl); (case hc => exact rfl))
         | (apply u_allocAt 2000; (case hg => (first | exact trivial | exact rfl)); (case hd => exact rfl); (case hf => exact rfl))
         | (apply u_boxAt 2000; (case hg => (first | exact trivial | exact rfl)); (case hd => exact rfl); (case hx => exact rfl); (case hc => exact rfl))
         | (apply u_call hA (hc := c_mul ?s0 ?s1); (case hg => (first | exact trivial | exact rfl)); (case hd => exact rfl); (case hcl => exact rfl); (case has => (first | exact Ents.of_eq rfl | ((repeat (first | exact Ents.nil' rfl | (refine Ents.cons' rfl ?_ ?_; focus (first | exact Ent.of_eq rfl | (refine Ent.agg' rfl ?_; (repeat (first | exact EntL.nil' rfl | (refine EntL.cons' rfl ?_ ?_; focus (first | exact EntC.of_eq rfl | (refine EntC.q rfl ?_; omega) | exact Z0 _ | exact Z2 _ | exact EntC.z0 (k := 0) | exact EntC.z1 (k := 0) | exact EntC.z2 (k := 0) | exact EntC.z0 | exact EntC.z1 | exact EntC.z2)))); done) | (refine Ent.one' rfl ?_; (first | exact EntC.of_eq rfl | (refine EntC.q rfl ?_; omega) | exact Z0 _ | exact Z2 _ | exact EntC.z0 (k := 0) | exact EntC.z1 (k := 0) | exact EntC.z2 (k := 0) | exact EntC.z0 | exact EntC.z1 | exact EntC.z2)))))); done))); (case s0 => omega); (case s1 => omega))
         | (apply u_call hA (hc := c_sub ?s0 ?s1); (case hg => (first | exact trivial | exact rfl)); (case hd => exact rfl); (case hcl => exact rfl); (case has => (first | exact Ents.of_eq rfl | ((repeat (first | exact Ents.nil' rfl | (refine Ents.cons' rfl ?_ ?_; focus (first | exact Ent.of_eq rfl | (refine Ent.agg' rfl ?_; (repeat (first | exact EntL.nil' rfl | (refine EntL.cons' rfl ?_ ?_; focus (first | exact EntC.of_eq rfl | (refine EntC.q rfl ?_; omega) | exact Z0 _ | exact Z2 _ | exact EntC.z0 (k := 0) | exact EntC.z1 (k := 0) | exact EntC.z2 (k := 0) | exact EntC.z0 | exact EntC.z1 | exact EntC.z2)))); done) | (refine Ent.one' rfl ?_; (first | exact EntC.of_eq rfl | (refine EntC.q rfl ?_; omega) | exact Z0 _ | exact Z2 _ | exact EntC.z0 (k := 0) | exact EntC.z1 (k := 0) | exact EntC.z2 (k := 0) | exact EntC.z0 | exact EntC.z1 | exact EntC.z2)))))); done))); (case s0 => omega); (case s1 => omega)))
       apply RunK.nil
       refine And.intro (by kernel_rfl) ?_)
    | refine aw_skip ?_
    | refine aw_exit ?_)
  refine aw_ret ?_
  refine And.intro (Or.inr rfl) ?_
  refine fin_one (by first | exact ResIs.tmp rfl | exact ResIs.cell inferInstance rfl rfl rfl rfl) (Ent.of_eq (by kernel_rfl))
theorem w_same {p q s : Bool} (hp : decide (a = x) = p) (hq : decide (b = y) = q) (hs : decide (c = z) = s) : Ctr Tryz.prog Amb 17 [pt j a b c, pt k x y z] (.one (.v (.bool (p && (q && s))))) := by
  refine ctr_body Tryz.func17 rfl rfl rfl rfl rfl rfl ?_
  intro W0 base D μ0 hA
  cases p
  · repeat (first
      | refine aw_seq ?_
      | refine aw_block ?_
      | refine aw_condT rfl ?_
      | refine aw_condF rfl ?_
      | (refine aw_plainK (by kernel_rfl) ?_
         repeat (first
           | (apply u_skip; (case hg => exact rfl))
           | (apply u_move; (case hg => first | exact trivial | exact rfl); (case hd => exact rfl); (case hx => exact rfl))
           | (apply u_assign; (case hg => first | exact trivial | exact rfl); (case hd => exact rfl); (case hx => exact rfl))
           | (apply u_load; (case hg => first | exact trivial | exact rfl); (case hd => exact rfl); (case hx => exact rfl); (case hz => exact rfl))
           | (apply u_box; (case hg => first | exact trivial | exact rfl); (case hd => exact rfl); (case hx => exact rfl); (case hc => exact rfl))
           | (apply u_indexAddr; (case hg => first | exact trivial | exact rfl); (case hd => exact rfl); (case hx => exact rfl); (case hy => exact rfl); (case hc => exact rfl))
           | (apply u_pickT; (case hg => first | exact trivial | exact rfl); (case hd => exact rfl); (case hc => exact rfl); (case hx => exact rfl))
           | (apply u_pickF; (case hg => first | exact trivial | exact rfl); (case hd => exact rfl); (case hc => exact rfl); (case hx => exact rfl))
           | (apply u_call hA (hc := r_same' hp); (case hg => (first | exact trivial | exact rfl)); (case hd => exact rfl); (case hcl => exact rfl); (case has => (first | exact Ents.of_eq rfl | ((repeat (first | exact Ents.nil' rfl | (refine Ents.cons' rfl ?_ ?_; focus (first | exact Ent.of_eq rfl | (refine Ent.agg' rfl ?_; (repeat (first | exact EntL.nil' rfl | (refine EntL.cons' rfl ?_ ?_; focus (first | exact EntC.of_eq rfl | (refine EntC.q rfl ?_; omega) | exact Z0 _ | exact Z2 _ | exact EntC.z0 (k := 0) | exact EntC.z1 (k := 0) | exact EntC.z2 (k := 0) | exact EntC.z0 | exact EntC.z1 | exact EntC.z2)))); done) | (refine Ent.one' rfl ?_; (first | exact EntC.of_eq rfl | (refine EntC.q rfl ?_; omega) | exact Z0 _ | exact Z2 _ | exact EntC.z0 (k := 0) | exact EntC.z1 (k := 0) | exact EntC.z2 (k := 0) | exact EntC.z0 | exact EntC.z1 | exact EntC.z2)))))); done))))
           | (apply u_call hA (hc := r_same' hq); (case hg => (first | exact trivial | exact rfl)); (case hd => exact rfl); (case hcl => exact rfl); (case has => (first | exact Ents.of_eq rfl | ((repeat (first | exact Ents.nil' rfl | (refine Ents.cons' rfl ?_ ?_; focus (first | exact Ent.of_eq rfl | (refine Ent.agg' rfl ?_; (repeat (first | exact EntL.nil' rfl | (refine EntL.cons' rfl ?_ ?_; focus (first | exact EntC.of_eq rfl | (refine EntC.q rfl ?_; omega) | exact Z0 _ | exact Z2 _ | exact EntC.z0 (k := 0) | exact EntC.z1 (k := 0) | exact EntC.z2 (k := 0) | exact EntC.z0 | exact EntC.z1 | exact EntC.z2)))); done) | (refine Ent.one' rfl ?_; (first | exact EntC.of_eq rfl | (refine EntC.q rfl ?_; omega) | exact Z0 _ | exact Z2 _ | exact EntC.z0 (k := 0) | exact EntC.z1 (k := 0) | exact EntC.z2 (k := 0) | exact EntC.z0 | exact EntC.z1 | exact EntC.z2)))))); done))))
           | (apply u_call hA (hc := r_same' hs); (case hg => (first | exact trivial | exact rfl)); (case hd => exact rfl); (case hcl => exact rfl); (case has => (first | exact Ents.of_eq rfl | ((repeat (first | exact Ents.nil' rfl | (refine Ents.cons' rfl ?_ ?_; focus (first | exact Ent.of_eq rfl | (refine Ent.agg' rfl ?_; (repeat (first | exact EntL.nil' rfl | (refine EntL.cons' rfl ?_ ?_; focus (first | exact EntC.of_eq rfl | (refine EntC.q rfl ?_; omega) | exact Z0 _ | exact Z2 _ | exact EntC.z0 (k := 0) | exact EntC.z1 (k := 0) | exact EntC.z2 (k := 0) | exact EntC.z0 | exact EntC.z1 | exact EntC.z2)))); done) | (refine Ent.one' rfl ?_; (first | exact EntC.of_eq rfl | (refine EntC.q rfl ?_; omega) | exact Z0 _ | exact Z2 _ | exact EntC.z0 (k := 0) | exact EntC.z1 (k := 0) | exact EntC.z2 (k := 0) | exact EntC.z0 | exact EntC.z1 | exact EntC.z2)))))); done)))))
         apply RunK.nil)
      | refine aw_skip ?_
      | refine aw_exit ?_)
    refine aw_ret ?_
    refine And.intro (Or.inr rfl) ?_
    refine fin_one (by first | exact ResIs.tmp rfl | exact ResIs.cell inferInstance rfl rfl rfl rfl) (by (first | exact Ent.of_eq rfl | (refine Ent.agg' rfl ?_; (repeat (first | exact EntL.nil' rfl | (refine EntL.cons' rfl ?_ ?_; focus (first | exact EntC.of_eq rfl | (refine EntC.q rfl ?_; omega) | exact Z0 _ | exact Z2 _ | exact EntC.z0 (k := 0) | exact EntC.z1 (k := 0) | exact EntC.z2 (k := 0) | exact EntC.z0 | exact EntC.z1 | exact EntC.z2)))); done) | (refine Ent.one' rfl ?_; (first | exact EntC.of_eq rfl | (refine EntC.q rfl ?_; omega) | exact Z0 _ | exact Z2 _ | exact EntC.z0 (k := 0) | exact EntC.z1 (k := 0) | exact EntC.z2 (k := 0) | exact EntC.z0 | exact EntC.z1 | exact EntC.z2))))
  · cases q
    · repeat (first
        | refine aw_seq ?_
        | refine aw_block ?_
        | refine aw_condT rfl ?_
        | refine aw_condF rfl ?_
        | (refine aw_plainK (by kernel_rfl) ?_
           repeat (first
             | (apply u_skip; (case hg => exact rfl))
             | (apply u_move; (case hg => first | exact trivial | exact rfl); (case hd => exact rfl); (case hx => exact rfl))
             | (apply u_assign; (case hg => first | exact trivial | exact rfl); (case hd => exact rfl); (case hx => exact rfl))
             | (apply u_load; (case hg => first | exact trivial | exact rfl); (case hd => exact rfl); (case hx => exact rfl); (case hz => exact rfl))
             | (apply u_box; (case hg => first | exact trivial | exact rfl); (case hd => exact rfl); (case hx => exact rfl); (case hc => exact rfl))
             | (apply u_indexAddr; (case hg => first | exact trivial | exact rfl); (case hd => exact rfl); (case hx => exact rfl); (case hy => exact rfl); (case hc => exact rfl))
             | (apply u_pickT; (case hg => first | exact trivial | exact rfl); (case hd => exact rfl); (case hc => exact rfl); (case hx => exact rfl))
             | (apply u_pickF; (case hg => first | exact trivial | exact rfl); (case hd => exact rfl); (case hc => exact rfl); (case hx => exact rfl))
             | (apply u_call hA (hc := r_same' hp); (case hg => (first | exact trivial | exact rfl)); (case hd => exact rfl); (case hcl => exact rfl); (case has => (first | exact Ents.of_eq rfl | ((repeat (first | exact Ents.nil' rfl | (refine Ents.cons' rfl ?_ ?_; focus (first | exact Ent.of_eq rfl | (refine Ent.agg' rfl ?_; (repeat (first | exact EntL.nil' rfl | (refine EntL.cons' rfl ?_ ?_; focus (first | exact EntC.of_eq rfl | (refine EntC.q rfl ?_; omega) | exact Z0 _ | exact Z2 _ | exact EntC.z0 (k := 0) | exact EntC.z1 (k := 0) | exact EntC.z2 (k := 0) | exact EntC.z0 | exact EntC.z1 | exact EntC.z2)))); done) | (refine Ent.one' rfl ?_; (first | exact EntC.of_eq rfl | (refine EntC.q rfl ?_; omega) | exact Z0 _ | exact Z2 _ | exact EntC.z0 (k := 0) | exact EntC.z1 (k := 0) | exact EntC.z2 (k := 0) | exact EntC.z0 | exact EntC.z1 | exact EntC.z2)))))); done))))
             | (apply u_call hA (hc := r_same' hq); (case hg => (first | exact trivial | exact rfl)); (case hd => exact rfl); (case hcl => exact rfl); (case has => (first | exact Ents.of_eq rfl | ((repeat (first | exact Ents.nil' rfl | (refine Ents.cons' rfl ?_ ?_; focus (first | exact Ent.of_eq rfl | (refine Ent.agg' rfl ?_; (repeat (first | exact EntL.nil' rfl | (refine EntL.cons' rfl ?_ ?_; focus (first | exact EntC.of_eq rfl | (refine EntC.q rfl ?_; omega) | exact Z0 _ | exact Z2 _ | exact EntC.z0 (k := 0) | exact EntC.z1 (k := 0) | exact EntC.z2 (k := 0) | exact EntC.z0 | exact EntC.z1 | exact EntC.z2)))); done) | (refine Ent.one' rfl ?_; (first | exact EntC.of_eq rfl | (refine EntC.q rfl ?_; omega) | exact Z0 _ | exact Z2 _ | exact EntC.z0 (k := 0) | exact EntC.z1 (k := 0) | exact EntC.z2 (k := 0) | exact EntC.z0 | exact EntC.z1 | exact EntC.z2)))))); done))))
             | (apply u_call hA (hc := r_same' hs); (case hg => (first | exact trivial | exact rfl)); (case hd => exact rfl); (case hcl => exact rfl); (case has => (first | exact Ents.of_eq rfl | ((repeat (first | exact Ents.nil' rfl | (refine Ents.cons' rfl ?_ ?_; focus (first | exact Ent.of_eq rfl | (refine Ent.agg' rfl ?_; (repeat (first | exact EntL.nil' rfl | (refine EntL.cons' rfl ?_ ?_; focus (first | exact EntC.of_eq rfl | (refine EntC.q rfl ?_; omega) | exact Z0 _ | exact Z2 _ | exact EntC.z0 (k := 0) | exact EntC.z1 (k := 0) | exact EntC.z2 (k := 0) | exact EntC.z0 | exact EntC.z1 | exact EntC.z2)))); done) | (refine Ent.one' rfl ?_; (first | exact EntC.of_eq rfl | (refine EntC.q rfl ?_; omega) | exact Z0 _ | exact Z2 _ | exact EntC.z0 (k := 0) | exact EntC.z1 (k := 0) | exact EntC.z2 (k := 0) | exact EntC.z0 | exact EntC.z1 | exact EntC.z2)))))); done)))))
           apply RunK.nil)
        | refine aw_skip ?_
        | refine aw_exit ?_)
      refine aw_ret ?_
      refine And.intro (Or.inr rfl) ?_
      refine fin_one (by first | exact ResIs.tmp rfl | exact ResIs.cell inferInstance rfl rfl rfl rfl) (by (first | exact Ent.of_eq rfl | (refine Ent.agg' rfl ?_; (repeat (first | exact EntL.nil' rfl | (refine EntL.cons' rfl ?_ ?_; focus (first | exact EntC.of_eq rfl | (refine EntC.q rfl ?_; omega) | exact Z0 _ | exact Z2 _ | exact EntC.z0 (k := 0) | exact EntC.z1 (k := 0) | exact EntC.z2 (k := 0) | exact EntC.z0 | exact EntC.z1 | exact EntC.z2)))); done) | (refine Ent.one' rfl ?_; (first | exact EntC.of_eq rfl | (refine EntC.q rfl ?_; omega) | exact Z0 _ | exact Z2 _ | exact EntC.z0 (k := 0) | exact EntC.z1 (k := 0) | exact EntC.z2 (k := 0) | exact EntC.z0 | exact EntC.z1 | exact EntC.z2))))
    · cases s
      · repeat (first
          | refine aw_seq ?_
          | refine aw_block ?_
          | refine aw_condT rfl ?_
          | refine aw_condF rfl ?_
          | (refine aw_plainK (by kernel_rfl) ?_
             repeat (first
               | (apply u_skip; (case hg => exact rfl))
               | (apply u_move; (case hg => first | exact trivial | exact rfl); (case hd => exact rfl); (case hx => exact rfl))
               | (apply u_assign; (case hg => first | exact trivial | exact rfl); (case hd => exact rfl); (case hx => exact rfl))
               | (apply u_load; (case hg => first | exact trivial | exact rfl); (case hd => exact rfl); (case hx => exact rfl); (case hz => exact rfl))
               | (apply u_box; (case hg => first | exact trivial | exact rfl); (case hd => exact rfl); (case hx => exact rfl); (case hc => exact rfl))
               | (apply u_indexAddr; (case hg => first | exact trivial | exact rfl); (case hd => exact rfl); (case hx => exact rfl); (case hy => exact rfl); (case hc => exact rfl))
               | (apply u_pickT; (case hg => first | exact trivial | exact rfl); (case hd => exact rfl); (case hc => exact rfl); (case hx => exact rfl))
               | (apply u_pickF; (case hg => first | exact trivial | exact rfl); (case hd => exact rfl); (case hc => exact rfl); (case hx => exact rfl))
               | (apply u_call hA (hc := r_same' hp); (case hg => (first | exact trivial | exact rfl)); (case hd => exact rfl); (case hcl => exact rfl); (case has => (first | exact Ents.of_eq rfl | ((repeat (first | exact Ents.nil' rfl | (refine Ents.cons' rfl ?_ ?_; focus (first | exact Ent.of_eq rfl | (refine Ent.agg' rfl ?_; (repeat (first | exact EntL.nil' rfl | (refine EntL.cons' rfl ?_ ?_; focus (first | exact EntC.of_eq rfl | (refine EntC.q rfl ?_; omega) | exact Z0 _ | exact Z2 _ | exact EntC.z0 (k := 0) | exact EntC.z1 (k := 0) | exact EntC.z2 (k := 0) | exact EntC.z0 | exact EntC.z1 | exact EntC.z2)))); done) | (refine Ent.one' rfl ?_; (first | exact EntC.of_eq rfl | (refine EntC.q rfl ?_; omega) | exact Z0 _ | exact Z2 _ | exact EntC.z0 (k := 0) | exact EntC.z1 (k := 0) | exact EntC.z2 (k := 0) | exact EntC.z0 | exact EntC.z1 | exact EntC.z2)))))); done))))
               | (apply u_call hA (hc := r_same' hq); (case hg => (first | exact trivial | exact rfl)); (case hd => exact rfl); (case hcl => exact rfl); (case has => (first | exact Ents.of_eq rfl | ((repeat (first | exact Ents.nil' rfl | (refine Ents.cons' rfl ?_ ?_; focus (first | exact Ent.of_eq rfl | (refine Ent.agg' rfl ?_; (repeat (first | exact EntL.nil' rfl | (refine EntL.cons' rfl ?_ ?_; focus (first | exact EntC.of_eq rfl | (refine EntC.q rfl ?_; omega) | exact Z0 _ | exact Z2 _ | exact EntC.z0 (k := 0) | exact EntC.z1 (k := 0) | exact EntC.z2 (k := 0) | exact EntC.z0 | exact EntC.z1 | exact EntC.z2)))); done) | (refine Ent.one' rfl ?_; (first | exact EntC.of_eq rfl | (refine EntC.q rfl ?_; omega) | exact Z0 _ | exact Z2 _ | exact EntC.z0 (k := 0) | exact EntC.z1 (k := 0) | exact EntC.z2 (k := 0) | exact EntC.z0 | exact EntC.z1 | exact EntC.z2)))))); done))))
               | (apply u_call hA (hc := r_same' hs); (case hg => (first | exact trivial | exact rfl)); (case hd => exact rfl); (case hcl => exact rfl); (case has => (first | exact Ents.of_eq rfl | ((repeat (first | exact Ents.nil' rfl | (refine Ents.cons' rfl ?_ ?_; focus (first | exact Ent.of_eq rfl | (refine Ent.agg' rfl ?_; (repeat (first | exact EntL.nil' rfl | (refine EntL.cons' rfl ?_ ?_; focus (first | exact EntC.of_eq rfl | (refine EntC.q rfl ?_; omega) | exact Z0 _ | exact Z2 _ | exact EntC.z0 (k := 0) | exact EntC.z1 (k := 0) | exact EntC.z2 (k := 0) | exact EntC.z0 | exact EntC.z1 | exact EntC.z2)))); done) | (refine Ent.one' rfl ?_; (first | exact EntC.of_eq rfl | (refine EntC.q rfl ?_; omega) | exact Z0 _ | exact Z2 _ | exact EntC.z0 (k := 0) | exact EntC.z1 (k := 0) | exact EntC.z2 (k := 0) | exact EntC.z0 | exact EntC.z1 | exact EntC.z2)))))); done)))))
             apply RunK.nil)
          | refine aw_skip ?_
          | refine aw_exit ?_)
        refine aw_ret ?_
        refine And.intro (Or.inr rfl) ?_
        refine fin_one (by first | exact ResIs.tmp rfl | exact ResIs.cell inferInstance rfl rfl rfl rfl) (by (first | exact Ent.of_eq rfl | (refine Ent.agg' rfl ?_; (repeat (first | exact EntL.nil' rfl | (refine EntL.cons' rfl ?_ ?_; focus (first | exact EntC.of_eq rfl | (refine EntC.q rfl ?_; omega) | exact Z0 _ | exact Z2 _ | exact EntC.z0 (k := 0) | exact EntC.z1 (k := 0) | exact EntC.z2 (k := 0) | exact EntC.z0 | exact EntC.z1 | exact EntC.z2)))); done) | (refine Ent.one' rfl ?_; (first | exact EntC.of_eq rfl | (refine EntC.q rfl ?_; omega) | exact Z0 _ | exact Z2 _ | exact EntC.z0 (k := 0) | exact EntC.z1 (k := 0) | exact EntC.z2 (k := 0) | exact EntC.z0 | exact EntC.z1 | exact EntC.z2))))
      · repeat (first
          | refine aw_seq ?_
          | refine aw_block ?_
          | refine aw_condT rfl ?_
          | refine aw_condF rfl ?_
          | (refine aw_plainK (by kernel_rfl) ?_
             repeat (first
               | (apply u_skip; (case hg => exact rfl))
               | (apply u_move; (case hg => first | exact trivial | exact rfl); (case hd => exact rfl); (case hx => exact rfl))
               | (apply u_assign; (case hg => first | exact trivial | exact rfl); (case hd => exact rfl); (case hx => exact rfl))
               | (apply u_load; (case hg => first | exact trivial | exact rfl); (case hd => exact rfl); (case hx => exact rfl); (case hz => exact rfl))
               | (apply u_box; (case hg => first | exact trivial | exact rfl); (case hd => exact rfl); (case hx => exact rfl); (case hc => exact rfl))
               | (apply u_indexAddr; (case hg => first | exact trivial | exact rfl); (case hd => exact rfl); (case hx => exact rfl); (case hy => exact rfl); (case hc => exact rfl))
               | (apply u_pickT; (case hg => first | exact trivial | exact rfl); (case hd => exact rfl); (case hc => exact rfl); (case hx => exact rfl))
               | (apply u_pickF; (case hg => first | exact trivial | exact rfl); (case hd => exact rfl); (case hc => exact rfl); (case hx => exact rfl))
               | (apply u_call hA (hc := r_same' hp); (case hg => (first | exact trivial | exact rfl)); (case hd => exact rfl); (case hcl => exact rfl); (case has => (first | exact Ents.of_eq rfl | ((repeat (first | exact Ents.nil' rfl | (refine Ents.cons' rfl ?_ ?_; focus (first | exact Ent.of_eq rfl | (refine Ent.agg' rfl ?_; (repeat (first | exact EntL.nil' rfl | (refine EntL.cons' rfl ?_ ?_; focus (first | exact EntC.of_eq rfl | (refine EntC.q rfl ?_; omega) | exact Z0 _ | exact Z2 _ | exact EntC.z0 (k := 0) | exact EntC.z1 (k := 0) | exact EntC.z2 (k := 0) | exact EntC.z0 | exact EntC.z1 | exact EntC.z2)))); done) | (refine Ent.one' rfl ?_; (first | exact EntC.of_eq rfl | (refine EntC.q rfl ?_; omega) | exact Z0 _ | exact Z2 _ | exact EntC.z0 (k := 0) | exact EntC.z1 (k := 0) | exact EntC.z2 (k := 0) | exact EntC.z0 | exact EntC.z1 | exact EntC.z2)))))); done))))
               | (apply u_call hA (hc := r_same' hq); (case hg => (first | exact trivial | exact rfl)); (case hd => exact rfl); (case hcl => exact rfl); (case has => (first | exact Ents.of_eq rfl | ((repeat (first | exact Ents.nil' rfl | (refine Ents.cons' rfl ?_ ?_; focus (first | exact Ent.of_eq rfl | (refine Ent.agg' rfl ?_; (repeat (first | exact EntL.nil' rfl | (refine EntL.cons' rfl ?_ ?_; focus (first | exact EntC.of_eq rfl | (refine EntC.q rfl ?_; omega) | exact Z0 _ | exact Z2 _ | exact EntC.z0 (k := 0) | exact EntC.z1 (k := 0) | exact EntC.z2 (k := 0) | exact EntC.z0 | exact EntC.z1 | exact EntC.z2)))); done) | (refine Ent.one' rfl ?_; (first | exact EntC.of_eq rfl | (refine EntC.q rfl ?_; omega) | exact Z0 _ | exact Z2 _ | exact EntC.z0 (k := 0) | exact EntC.z1 (k := 0) | exact EntC.z2 (k := 0) | exact EntC.z0 | exact EntC.z1 | exact EntC.z2)))))); done))))
               | (apply u_call hA (hc := r_same' hs); (case hg => (first | exact trivial | exact rfl)); (case hd => exact rfl); (case hcl => exact rfl); (case has => (first | exact Ents.of_eq rfl | ((repeat (first | exact Ents.nil' rfl | (refine Ents.cons' rfl ?_ ?_; focus (first | exact Ent.of_eq rfl | (refine Ent.agg' rfl ?_; (repeat (first | exact EntL.nil' rfl | (refine EntL.cons' rfl ?_ ?_; focus (first | exact EntC.of_eq rfl | (refine EntC.q rfl ?_; omega) | exact Z0 _ | exact Z2 _ | exact EntC.z0 (k := 0) | exact EntC.z1 (k := 0) | exact EntC.z2 (k := 0) | exact EntC.z0 | exact EntC.z1 | exact EntC.z2)))); done) | (refine Ent.one' rfl ?_; (first | exact EntC.of_eq rfl | (refine EntC.q rfl ?_; omega) | exact Z0 _ | exact Z2 _ | exact EntC.z0 (k := 0) | exact EntC.z1 (k := 0) | exact EntC.z2 (k := 0) | exact EntC.z0 | exact EntC.z1 | exact EntC.z2)))))); done)))))
             apply RunK.nil)
          | refine aw_skip ?_
          | refine aw_exit ?_)
        refine aw_ret ?_
        refine And.intro (Or.inr rfl) ?_
        refine fin_one (by first | exact ResIs.tmp rfl | exact ResIs.cell inferInstance rfl rfl rfl rfl) (by (first | exact Ent.of_eq rfl | (refine Ent.agg' rfl ?_; (repeat (first | exact EntL.nil' rfl | (refine EntL.cons' rfl ?_ ?_; focus (first | exact EntC.of_eq rfl | (refine EntC.q rfl ?_; omega) | exact Z0 _ | exact Z2 _ | exact EntC.z0 (k := 0) | exact EntC.z1 (k := 0) | exact EntC.z2 (k := 0) | exact EntC.z0 | exact EntC.z1 | exact EntC.z2)))); done) | (refine Ent.one' rfl ?_; (first | exact EntC.of_eq rfl | (refine EntC.q rfl ?_; omega) | exact Z0 _ | exact Z2 _ | exact EntC.z0 (k := 0) | exact EntC.z1 (k := 0) | exact EntC.z2 (k := 0) | exact EntC.z0 | exact EntC.z1 | exact EntC.z2))))
theorem w_sameT (h1 : a = x) (h2 : b = y) (h3 : c = z) : Ctr Tryz.prog Amb 17 [pt j a b c, pt k x y z] (.one (.v (.bool true))) := w_same (decide_eq_true h1) (decide_eq_true h2) (decide_eq_true h3)

theorem v_zeroT (h1 : a = 0) (h2 : b = 0) (h3 : c = 0) : Ctr Tryz.prog Amb 18 [pt j a b c] (.one (.v (.bool true))) := by
  refine ctr_body Tryz.func18 rfl rfl rfl rfl rfl rfl ?_
  intro W0 base D μ0 hA
  repeat (first
    | refine aw_seq ?_
    | refine aw_block ?_
    | refine aw_condT rfl ?_
    | refine aw_condF rfl ?_
    | refine aw_loopN 6 ?_
    | (refine aw_plainK (by kernel_rfl) ?_
       repeat (first
         | (apply u_move; (case hg => first | exact trivial | exact rfl); (case hd => exact rfl); (case hx => exact rfl))
         | (apply u_assign; (case hg => first | exact trivial | exact rfl); (case hd => exact rfl); (case hx => exact rfl))
         | (apply u_load; (case hg => first | exact trivial | exact rfl); (case hd => exact rfl); (case hx => exact rfl); (case hz => exact rfl))
         | (apply u_box; (case hg => first | exact trivial | exact rfl); (case hd => exact rfl); (case hx => exact rfl); (case hc => exact rfl))
         | (apply u_bin; (case hg => first | exact trivial | exact rfl); (case hd => exact rfl); (case hx => exact rfl); (case hy => exact rfl); (case hc => (first | exact (rfl : _ = some (Value.int _ 1)) | exact (rfl : _ = some (Value.int _ 2)) | exact (rfl : _ = some (Value.int _ 3)) | exact (rfl : _ = some (Value.int _ 0)) | exact (rfl : _ = some (Value.int _ 4)) | exact (rfl : _ = some (Value.int _ 5)) | exact (rfl : _ = some (Value.bool true)) | exact (rfl : _ = some (Value.bool false)) | exact rfl)))
         | (apply u_indexAddrTo 0; (case hg => (first | exact trivial | exact rfl)); (case hd => exact rfl); (case hx => exact rfl); (case hy => exact rfl); (case hc => exact rfl))
         | (apply u_indexAddrTo 3; (case hg => (first | exact trivial | exact rfl)); (case hd => exact rfl); (case hx => exact rfl); (case hy => exact rfl); (case hc => exact rfl))
         | (apply u_indexAddrTo 6; (case hg => (first | exact trivial | exact rfl)); (case hd => exact rfl); (case hx => exact rfl); (case hy => exact rfl); (case hc => exact rfl))
         | (apply u_indexAddr; (case hg => first | exact trivial | exact rfl); (case hd => exact rfl); (case hx => exact rfl); (case hy => exact rfl); (case hc => exact rfl))
         | (apply u_boxAt 1000; (case hg => (first | exact trivial | exact rfl)); (case hd => exact rfl); (case hx => exact rfl); (case hc => exact rfl))
         | (apply u_boxAt 2000; (case hg => (first | exact trivial | exact rfl)); (case hd => exact rfl); (case hx => exact rfl); (case hc => exact rfl))
         | (apply u_call hA (hc := c_sign0 h1); (case hg => (first | exact trivial | exact rfl)); (case hd => exact rfl); (case hcl => exact rfl); (case has => (first | exact Ents.of_eq rfl | ((repeat (first | exact Ents.nil' rfl | (refine Ents.cons' rfl ?_ ?_; focus (first | exact Ent.of_eq rfl | (refine Ent.agg' rfl ?_; (repeat (first | exact EntL.nil' rfl | (refine EntL.cons' rfl ?_ ?_; focus (first | exact EntC.of_eq rfl | (refine EntC.q rfl ?_; omega) | exact Z0 _ | exact Z2 _ | exact EntC.z0 (k := 0) | exact EntC.z1 (k := 0) | exact EntC.z2 (k := 0) | exact EntC.z0 | exact EntC.z1 | exact EntC.z2)))); done) | (refine Ent.one' rfl ?_; (first | exact EntC.of_eq rfl | (refine EntC.q rfl ?_; omega) | exact Z0 _ | exact Z2 _ | exact EntC.z0 (k := 0) | exact EntC.z1 (k := 0) | exact EntC.z2 (k := 0) | exact EntC.z0 | exact EntC.z1 | exact EntC.z2)))))); done))))
         | (apply u_call hA (hc := c_sign0 h2); (case hg => (first | exact trivial | exact rfl)); (case hd => exact rfl); (case hcl => exact rfl); (case has => (first | exact Ents.of_eq rfl | ((repeat (first | exact Ents.nil' rfl | (refine Ents.cons' rfl ?_ ?_; focus (first | exact Ent.of_eq rfl | (refine Ent.agg' rfl ?_; (repeat (first | exact EntL.nil' rfl | (refine EntL.cons' rfl ?_ ?_; focus (first | exact EntC.of_eq rfl | (refine EntC.q rfl ?_; omega) | exact Z0 _ | exact Z2 _ | exact EntC.z0 (k := 0) | exact EntC.z1 (k := 0) | exact EntC.z2 (k := 0) | exact EntC.z0 | exact EntC.z1 | exact EntC.z2)))); done) | (refine Ent.one' rfl ?_; (first | exact EntC.of_eq rfl | (refine EntC.q rfl ?_; omega) | exact Z0 _ | exact Z2 _ | exact EntC.z0 (k := 0) | exact EntC.z1 (k := 0) | exact EntC.z2 (k := 0) | exact EntC.z0 | exact EntC.z1 | exact EntC.z2)))))); done))))
         | (apply u_call hA (hc := c_sign0 h3); (case hg => (first | exact trivial | exact rfl)); (case hd => exact rfl); (case hcl => exact rfl); (case has => (first | exact Ents.of_eq rfl | ((repeat (first | exact Ents.nil' rfl | (refine Ents.cons' rfl ?_ ?_; focus (first | exact Ent.of_eq rfl | (refine Ent.agg' rfl ?_; (repeat (first | exact EntL.nil' rfl | (refine EntL.cons' rfl ?_ ?_; focus (first | exact EntC.of_eq rfl | (refine EntC.q rfl ?_; omega) | exact Z0 _ | exact Z2 _ | exact EntC.z0 (k := 0) | exact EntC.z1 (k := 0) | exact EntC.z2 (k := 0) | exact EntC.z0 | exact EntC.z1 | exact EntC.z2)))); done) | (refine Ent.one' rfl ?_; (first | exact EntC.of_eq rfl | (refine EntC.q rfl ?_; omega) | exact Z0 _ | exact Z2 _ | exact EntC.z0 (k := 0) | exact EntC.z1 (k := 0) | exact EntC.z2 (k := 0) | exact EntC.z0 | exact EntC.z1 | exact EntC.z2)))))); done)))))
       apply RunK.nil)
    | refine aw_skip ?_
    | refine aw_exit ?_)
  refine aw_ret ?_
  refine And.intro (Or.inr rfl) ?_
  refine fin_one (by first | exact ResIs.tmp rfl | exact ResIs.cell inferInstance rfl rfl rfl rfl) (by (first | exact Ent.of_eq rfl | (refine Ent.agg' rfl ?_; (repeat (first | exact EntL.nil' rfl | (refine EntL.cons' rfl ?_ ?_; focus (first | exact EntC.of_eq rfl | (refine EntC.q rfl ?_; omega) | exact Z0 _ | exact Z2 _ | exact EntC.z0 (k := 0) | exact EntC.z1 (k := 0) | exact EntC.z2 (k := 0) | exact EntC.z0 | exact EntC.z1 | exact EntC.z2)))); done) | (refine Ent.one' rfl ?_; (first | exact EntC.of_eq rfl | (refine EntC.q rfl ?_; omega) | exact Z0 _ | exact Z2 _ | exact EntC.z0 (k := 0) | exact EntC.z1 (k := 0) | exact EntC.z2 (k := 0) | exact EntC.z0 | exact EntC.z1 | exact EntC.z2))))
end
end Go.Proofs.YtcmbbmfdmohedaaGreatDoor
