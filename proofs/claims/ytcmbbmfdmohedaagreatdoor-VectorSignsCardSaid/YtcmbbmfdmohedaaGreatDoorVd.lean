/-
  vector: orientations of any points, planes through any points, by the engine.
-/
import Derived.Test.YtcmbbmfdmohedaaGreatDoorVb
import Derived.Test.YtcmbbmfdmohedaaGreatDoorRatR
namespace Go.Proofs.YtcmbbmfdmohedaaGreatDoor
open Go.RowKit
set_option linter.unusedVariables false
set_option linter.unusedSimpArgs false
set_option maxRecDepth 20000
set_option maxHeartbeats 4000000

theorem sgn_of_eq {x y : Rat} {n : Int} (h : sgnR x = n) (e : y = x) : sgnR y = n := e ▸ h
theorem sgn_of_neg {x y : Rat} {n : Int} (h : sgnR x = n) (e : y = -x) : sgnR y = -n := by
  rw [e, ← h, show -x = 0 - x by grind, ← ord_sub, ord_neg, sgn_cmp]
theorem cmp_of_eq {x y z w : Rat} {n : Int} (h : cmpR x y = n) (e : z - w = x - y) : cmpR z w = n := by rw [ord_sub, e, ← ord_sub, h]
theorem cmp_of_neg {x y z w : Rat} {n : Int} (h : cmpR x y = n) (e : z - w = -(x - y)) : cmpR z w = -n := by
  rw [ord_sub]
  exact sgn_of_neg (by rw [← ord_sub]; exact h) e
theorem cmp_sgn {x z w : Rat} {n : Int} (h : sgnR x = n) (e : z - w = x) : cmpR z w = n := by rw [ord_sub, e, h]

section
variable {i j k m : Nat} {a b c x y z u v w d p q r : Rat}

theorem v_orient3 (h1 : i ≤ 1000) (h2 : j ≤ 1000) (h3 : k ≤ 1000) (h4 : m ≤ 1000) {n : Int} (h : sgnR (0 + (x - a) * ((v - b) * (r - c) - (w - c) * (q - b)) + (y - b) * ((w - c) * (p - a) - (u - a) * (r - c)) + (z - c) * ((u - a) * (q - b) - (v - b) * (p - a))) = n) :
    Ctr Tryz.prog Amb 39 [pt i a b c, pt j x y z, pt k u v w, pt m p q r] (.one (.v (.int .i64 n))) := by
  subst h
  refine ctr_body Tryz.func39 rfl rfl rfl rfl rfl rfl ?_
  intro W0 base D μ0 hA
  repeat (first
    | refine aw_seq ?_
    | refine aw_block ?_
    | refine aw_condT rfl ?_
    | refine aw_condF rfl ?_
    | (refine aw_plainK (by kernel_rfl) ?_
       repeat (first
         | (apply u_assign; (case hg => first | exact trivial | exact rfl); (case hd => exact rfl); (case hx => exact rfl))
         | (apply u_load; (case hg => first | exact trivial | exact rfl); (case hd => exact rfl); (case hx => exact rfl); (case hz => exact rfl))
         | (apply u_box; (case hg => first | exact trivial | exact rfl); (case hd => exact rfl); (case hx => exact rfl); (case hc => exact rfl))
         | (apply u_call hA (hc := v_sub ?s0 ?s1); (case hg => (first | exact trivial | exact rfl)); (case hd => exact rfl); (case hcl => exact rfl); (case has => exact Ents.of_eq rfl); (case s0 => omega); (case s1 => omega))
         | (apply u_call hA (hc := v_det ?s0 ?s1 ?s2); (case hg => (first | exact trivial | exact rfl)); (case hd => exact rfl); (case hcl => exact rfl); (case has => exact Ents.of_eq rfl); (case s0 => omega); (case s1 => omega); (case s2 => omega))
         | (apply u_call hA (hc := c_sign); (case hg => (first | exact trivial | exact rfl)); (case hd => exact rfl); (case hcl => exact rfl); (case has => exact Ents.of_eq rfl)))
       apply RunK.nil)
    | (refine aw_drawK (by kernel_rfl) (by kernel_rfl) (by kernel_rfl) ?_
       repeat (first
         | (apply u_assign; (case hg => first | exact trivial | exact rfl); (case hd => exact rfl); (case hx => exact rfl))
         | (apply u_load; (case hg => first | exact trivial | exact rfl); (case hd => exact rfl); (case hx => exact rfl); (case hz => exact rfl))
         | (apply u_box; (case hg => first | exact trivial | exact rfl); (case hd => exact rfl); (case hx => exact rfl); (case hc => exact rfl))
         | (apply u_call hA (hc := v_sub ?s0 ?s1); (case hg => (first | exact trivial | exact rfl)); (case hd => exact rfl); (case hcl => exact rfl); (case has => exact Ents.of_eq rfl); (case s0 => omega); (case s1 => omega))
         | (apply u_call hA (hc := v_det ?s0 ?s1 ?s2); (case hg => (first | exact trivial | exact rfl)); (case hd => exact rfl); (case hcl => exact rfl); (case has => exact Ents.of_eq rfl); (case s0 => omega); (case s1 => omega); (case s2 => omega))
         | (apply u_call hA (hc := c_sign); (case hg => (first | exact trivial | exact rfl)); (case hd => exact rfl); (case hcl => exact rfl); (case has => exact Ents.of_eq rfl)))
       apply RunK.nil
       refine And.intro (by kernel_rfl) ?_)
    | refine aw_skip ?_
    | refine aw_exit ?_)
  refine aw_ret ?_
  refine And.intro (Or.inr rfl) ?_
  refine fin_one (by first | exact ResIs.tmp rfl | exact ResIs.cell inferInstance rfl rfl rfl rfl) (by (first | exact Ent.of_eq rfl | (refine Ent.agg' rfl ?_; (repeat (first | exact EntL.nil' rfl | (refine EntL.cons' rfl ?_ ?_; focus (first | exact EntC.of_eq rfl | (refine EntC.q rfl ?_; omega) | exact Z0 _ | exact Z2 _ | exact EntC.z0 (k := 0) | exact EntC.z1 (k := 0) | exact EntC.z2 (k := 0) | exact EntC.z0 | exact EntC.z1 | exact EntC.z2)))); done) | (refine Ent.one' rfl ?_; (first | exact EntC.of_eq rfl | (refine EntC.q rfl ?_; omega) | exact Z0 _ | exact Z2 _ | exact EntC.z0 (k := 0) | exact EntC.z1 (k := 0) | exact EntC.z2 (k := 0) | exact EntC.z0 | exact EntC.z1 | exact EntC.z2))))
theorem bin_ne0 (h : a ≠ 0) : binR .neq .i64 (sgnR a) 0 = some (.bool true) := by
  show some (Value.bool (sgnR a != 0)) = _
  have : sgnR a ≠ 0 := fun e => h (sgnR_eq.1 e)
  simp [this]
theorem v_zeroN (h : ¬(a = 0 ∧ b = 0 ∧ c = 0)) : Ctr Tryz.prog Amb 18 [pt j a b c] (.one (.v (.bool false))) := by
  refine ctr_body Tryz.func18 rfl rfl rfl rfl rfl rfl ?_
  intro W0 base D μ0 hA
  by_cases ha : a = 0
  · by_cases hb : b = 0
    · have hc : c ≠ 0 := fun e => h ⟨ha, hb, e⟩
      have hs := bin_ne0 hc
      repeat (first
        | refine aw_seq ?_
        | refine aw_block ?_
        | refine aw_condT rfl ?_
        | refine aw_condF rfl ?_
        | refine aw_loopN 6 ?_
        | (refine aw_plainK (by kernel_rfl) ?_
           repeat (first
             | (apply u_move; (case hg => first | exact trivial | exact rfl); (case hd => exact rfl); (case hx => exact rfl))
             | (apply u_assign; (case hg => first | exact trivial | exact rfl); (case hd => exact rfl); (case hx => exact rfl))
             | (apply u_load; (case hg => first | exact trivial | exact rfl); (case hd => exact rfl); (case hx => exact rfl); (case hz => exact rfl))
             | (apply u_box; (case hg => first | exact trivial | exact rfl); (case hd => exact rfl); (case hx => exact rfl); (case hc => exact rfl))
             | (apply u_bin; (case hg => first | exact trivial | exact rfl); (case hd => exact rfl); (case hx => exact rfl); (case hy => exact rfl); (case hc => (first | exact hs | exact (rfl : _ = some (Value.int _ 1)) | exact (rfl : _ = some (Value.int _ 2)) | exact (rfl : _ = some (Value.int _ 3)) | exact (rfl : _ = some (Value.int _ 0)) | exact (rfl : _ = some (Value.int _ 4)) | exact (rfl : _ = some (Value.int _ 5)) | exact (rfl : _ = some (Value.bool true)) | exact (rfl : _ = some (Value.bool false)) | exact rfl)))
             | (apply u_indexAddrTo 0; (case hg => (first | exact trivial | exact rfl)); (case hd => exact rfl); (case hx => exact rfl); (case hy => exact rfl); (case hc => exact rfl))
             | (apply u_indexAddrTo 3; (case hg => (first | exact trivial | exact rfl)); (case hd => exact rfl); (case hx => exact rfl); (case hy => exact rfl); (case hc => exact rfl))
             | (apply u_indexAddrTo 6; (case hg => (first | exact trivial | exact rfl)); (case hd => exact rfl); (case hx => exact rfl); (case hy => exact rfl); (case hc => exact rfl))
             | (apply u_indexAddr; (case hg => first | exact trivial | exact rfl); (case hd => exact rfl); (case hx => exact rfl); (case hy => exact rfl); (case hc => exact rfl))
             | (apply u_boxAt 1000; (case hg => (first | exact trivial | exact rfl)); (case hd => exact rfl); (case hx => exact rfl); (case hc => exact rfl))
             | (apply u_boxAt 2000; (case hg => (first | exact trivial | exact rfl)); (case hd => exact rfl); (case hx => exact rfl); (case hc => exact rfl))
             | (apply u_call hA (hc := c_sign0 ha); (case hg => (first | exact trivial | exact rfl)); (case hd => exact rfl); (case hcl => exact rfl); (case has => exact Ents.of_eq rfl))
             | (apply u_call hA (hc := c_sign0 hb); (case hg => (first | exact trivial | exact rfl)); (case hd => exact rfl); (case hcl => exact rfl); (case has => exact Ents.of_eq rfl))
             | (apply u_call hA (hc := c_sign); (case hg => (first | exact trivial | exact rfl)); (case hd => exact rfl); (case hcl => exact rfl); (case has => exact Ents.of_eq rfl)))
           apply RunK.nil)
        | refine aw_skip ?_
        | refine aw_exit ?_)
      refine aw_ret ?_
      refine And.intro (Or.inr rfl) ?_
      refine fin_one (by first | exact ResIs.tmp rfl | exact ResIs.cell inferInstance rfl rfl rfl rfl) (by (first | exact Ent.of_eq rfl | (refine Ent.agg' rfl ?_; (repeat (first | exact EntL.nil' rfl | (refine EntL.cons' rfl ?_ ?_; focus (first | exact EntC.of_eq rfl | (refine EntC.q rfl ?_; omega) | exact Z0 _ | exact Z2 _ | exact EntC.z0 (k := 0) | exact EntC.z1 (k := 0) | exact EntC.z2 (k := 0) | exact EntC.z0 | exact EntC.z1 | exact EntC.z2)))); done) | (refine Ent.one' rfl ?_; (first | exact EntC.of_eq rfl | (refine EntC.q rfl ?_; omega) | exact Z0 _ | exact Z2 _ | exact EntC.z0 (k := 0) | exact EntC.z1 (k := 0) | exact EntC.z2 (k := 0) | exact EntC.z0 | exact EntC.z1 | exact EntC.z2))))
    · have hs := bin_ne0 hb
      repeat (first
        | refine aw_seq ?_
        | refine aw_block ?_
        | refine aw_condT rfl ?_
        | refine aw_condF rfl ?_
        | refine aw_loopN 6 ?_
        | (refine aw_plainK (by kernel_rfl) ?_
           repeat (first
             | (apply u_move; (case hg => first | exact trivial | exact rfl); (case hd => exact rfl); (case hx => exact rfl))
             | (apply u_assign; (case hg => first | exact trivial | exact rfl); (case hd => exact rfl); (case hx => exact rfl))
             | (apply u_load; (case hg => first | exact trivial | exact rfl); (case hd => exact rfl); (case hx => exact rfl); (case hz => exact rfl))
             | (apply u_box; (case hg => first | exact trivial | exact rfl); (case hd => exact rfl); (case hx => exact rfl); (case hc => exact rfl))
             | (apply u_bin; (case hg => first | exact trivial | exact rfl); (case hd => exact rfl); (case hx => exact rfl); (case hy => exact rfl); (case hc => (first | exact hs | exact (rfl : _ = some (Value.int _ 1)) | exact (rfl : _ = some (Value.int _ 2)) | exact (rfl : _ = some (Value.int _ 3)) | exact (rfl : _ = some (Value.int _ 0)) | exact (rfl : _ = some (Value.int _ 4)) | exact (rfl : _ = some (Value.int _ 5)) | exact (rfl : _ = some (Value.bool true)) | exact (rfl : _ = some (Value.bool false)) | exact rfl)))
             | (apply u_indexAddrTo 0; (case hg => (first | exact trivial | exact rfl)); (case hd => exact rfl); (case hx => exact rfl); (case hy => exact rfl); (case hc => exact rfl))
             | (apply u_indexAddrTo 3; (case hg => (first | exact trivial | exact rfl)); (case hd => exact rfl); (case hx => exact rfl); (case hy => exact rfl); (case hc => exact rfl))
             | (apply u_indexAddrTo 6; (case hg => (first | exact trivial | exact rfl)); (case hd => exact rfl); (case hx => exact rfl); (case hy => exact rfl); (case hc => exact rfl))
             | (apply u_indexAddr; (case hg => first | exact trivial | exact rfl); (case hd => exact rfl); (case hx => exact rfl); (case hy => exact rfl); (case hc => exact rfl))
             | (apply u_boxAt 1000; (case hg => (first | exact trivial | exact rfl)); (case hd => exact rfl); (case hx => exact rfl); (case hc => exact rfl))
             | (apply u_boxAt 2000; (case hg => (first | exact trivial | exact rfl)); (case hd => exact rfl); (case hx => exact rfl); (case hc => exact rfl))
             | (apply u_call hA (hc := c_sign0 ha); (case hg => (first | exact trivial | exact rfl)); (case hd => exact rfl); (case hcl => exact rfl); (case has => exact Ents.of_eq rfl))
             | (apply u_call hA (hc := c_sign); (case hg => (first | exact trivial | exact rfl)); (case hd => exact rfl); (case hcl => exact rfl); (case has => exact Ents.of_eq rfl)))
           apply RunK.nil)
        | refine aw_skip ?_
        | refine aw_exit ?_)
      refine aw_ret ?_
      refine And.intro (Or.inr rfl) ?_
      refine fin_one (by first | exact ResIs.tmp rfl | exact ResIs.cell inferInstance rfl rfl rfl rfl) (by (first | exact Ent.of_eq rfl | (refine Ent.agg' rfl ?_; (repeat (first | exact EntL.nil' rfl | (refine EntL.cons' rfl ?_ ?_; focus (first | exact EntC.of_eq rfl | (refine EntC.q rfl ?_; omega) | exact Z0 _ | exact Z2 _ | exact EntC.z0 (k := 0) | exact EntC.z1 (k := 0) | exact EntC.z2 (k := 0) | exact EntC.z0 | exact EntC.z1 | exact EntC.z2)))); done) | (refine Ent.one' rfl ?_; (first | exact EntC.of_eq rfl | (refine EntC.q rfl ?_; omega) | exact Z0 _ | exact Z2 _ | exact EntC.z0 (k := 0) | exact EntC.z1 (k := 0) | exact EntC.z2 (k := 0) | exact EntC.z0 | exact EntC.z1 | exact EntC.z2))))
  · have hs := bin_ne0 ha
    repeat (first
      | refine aw_seq ?_
      | refine aw_block ?_
      | refine aw_condT rfl ?_
      | refine aw_condF rfl ?_
      | refine aw_loopN 6 ?_
      | (refine aw_plainK (by kernel_rfl) ?_
         repeat (first
           | (apply u_move; (case hg => first | exact trivial | exact rfl); (case hd => exact rfl); (case hx => exact rfl))
           | (apply u_assign; (case hg => first | exact trivial | exact rfl); (case hd => exact rfl); (case hx => exact rfl))
           | (apply u_load; (case hg => first | exact trivial | exact rfl); (case hd => exact rfl); (case hx => exact rfl); (case hz => exact rfl))
           | (apply u_box; (case hg => first | exact trivial | exact rfl); (case hd => exact rfl); (case hx => exact rfl); (case hc => exact rfl))
           | (apply u_bin; (case hg => first | exact trivial | exact rfl); (case hd => exact rfl); (case hx => exact rfl); (case hy => exact rfl); (case hc => (first | exact hs | exact (rfl : _ = some (Value.int _ 1)) | exact (rfl : _ = some (Value.int _ 2)) | exact (rfl : _ = some (Value.int _ 3)) | exact (rfl : _ = some (Value.int _ 0)) | exact (rfl : _ = some (Value.int _ 4)) | exact (rfl : _ = some (Value.int _ 5)) | exact (rfl : _ = some (Value.bool true)) | exact (rfl : _ = some (Value.bool false)) | exact rfl)))
           | (apply u_indexAddrTo 0; (case hg => (first | exact trivial | exact rfl)); (case hd => exact rfl); (case hx => exact rfl); (case hy => exact rfl); (case hc => exact rfl))
           | (apply u_indexAddrTo 3; (case hg => (first | exact trivial | exact rfl)); (case hd => exact rfl); (case hx => exact rfl); (case hy => exact rfl); (case hc => exact rfl))
           | (apply u_indexAddrTo 6; (case hg => (first | exact trivial | exact rfl)); (case hd => exact rfl); (case hx => exact rfl); (case hy => exact rfl); (case hc => exact rfl))
           | (apply u_indexAddr; (case hg => first | exact trivial | exact rfl); (case hd => exact rfl); (case hx => exact rfl); (case hy => exact rfl); (case hc => exact rfl))
           | (apply u_boxAt 1000; (case hg => (first | exact trivial | exact rfl)); (case hd => exact rfl); (case hx => exact rfl); (case hc => exact rfl))
           | (apply u_boxAt 2000; (case hg => (first | exact trivial | exact rfl)); (case hd => exact rfl); (case hx => exact rfl); (case hc => exact rfl))
           | (apply u_call hA (hc := c_sign); (case hg => (first | exact trivial | exact rfl)); (case hd => exact rfl); (case hcl => exact rfl); (case has => exact Ents.of_eq rfl)))
         apply RunK.nil)
      | refine aw_skip ?_
      | refine aw_exit ?_)
    refine aw_ret ?_
    refine And.intro (Or.inr rfl) ?_
    refine fin_one (by first | exact ResIs.tmp rfl | exact ResIs.cell inferInstance rfl rfl rfl rfl) (by (first | exact Ent.of_eq rfl | (refine Ent.agg' rfl ?_; (repeat (first | exact EntL.nil' rfl | (refine EntL.cons' rfl ?_ ?_; focus (first | exact EntC.of_eq rfl | (refine EntC.q rfl ?_; omega) | exact Z0 _ | exact Z2 _ | exact EntC.z0 (k := 0) | exact EntC.z1 (k := 0) | exact EntC.z2 (k := 0) | exact EntC.z0 | exact EntC.z1 | exact EntC.z2)))); done) | (refine Ent.one' rfl ?_; (first | exact EntC.of_eq rfl | (refine EntC.q rfl ?_; omega) | exact Z0 _ | exact Z2 _ | exact EntC.z0 (k := 0) | exact EntC.z1 (k := 0) | exact EntC.z2 (k := 0) | exact EntC.z0 | exact EntC.z1 | exact EntC.z2))))
theorem v_throughF (h1 : j ≤ 10000) (h2 : k ≤ 10000) (h3 : m ≤ 10000) (h : Ctr Tryz.prog Amb 18 [pt (k + j + 3 + (m + j + 3) + 2 + (k + j + 3 + (m + j + 3) + 2) + 3) ((y - b) * (w - c) - (z - c) * (v - b)) ((z - c) * (u - a) - (x - a) * (w - c)) ((x - a) * (v - b) - (y - b) * (u - a))] (.one (.v (.bool true)))) :
    Ctr Tryz.prog Amb 33 [pt j a b c, pt k x y z, pt m u v w] (.tup [pln 0 0 0 0 0 0, .one (.v (.int .i64 9))]) := by
  refine ctr_body Tryz.func33 rfl rfl rfl rfl rfl rfl ?_
  intro W0 base D μ0 hA
  repeat (first
    | refine aw_seq ?_
    | refine aw_block ?_
    | refine aw_condT rfl ?_
    | refine aw_condF rfl ?_
    | (refine aw_plainK (by kernel_rfl) ?_
       repeat (first
         | (apply u_assign; (case hg => first | exact trivial | exact rfl); (case hd => exact rfl); (case hx => exact rfl))
         | (apply u_load; (case hg => first | exact trivial | exact rfl); (case hd => exact rfl); (case hx => exact rfl); (case hz => exact rfl))
         | (apply u_store; (case hg => first | exact trivial | exact rfl); (case hd => exact rfl); (case hx => exact rfl); (case hy => exact rfl); (case hc => kernel_rfl))
         | (apply u_box; (case hg => first | exact trivial | exact rfl); (case hd => exact rfl); (case hx => exact rfl); (case hc => exact rfl))
         | (apply u_alloc; (case hg => first | exact trivial | exact rfl); (case hd => exact rfl); (case hf => exact rfl))
         | (apply u_buildS; (case hg => first | exact trivial | exact rfl); (case hd => exact rfl); (case hx => exact rfl); (case hy => exact rfl); (case hc => exact rfl))
         | (apply u_buildA; (case hg => first | exact trivial | exact rfl); (case hd => exact rfl); (case hx => exact rfl); (case hy => exact rfl); (case hc => exact rfl))
         | (apply u_call hA (hc := v_sub ?s0 ?s1); (case hg => (first | exact trivial | exact rfl)); (case hd => exact rfl); (case hcl => exact rfl); (case has => exact Ents.of_eq rfl); (case s0 => omega); (case s1 => omega))
         | (apply u_call hA (hc := v_cross ?s0 ?s1); (case hg => (first | exact trivial | exact rfl)); (case hd => exact rfl); (case hcl => exact rfl); (case has => exact Ents.of_eq rfl); (case s0 => omega); (case s1 => omega))
         | (apply u_call hA (hc := h); (case hg => (first | exact trivial | exact rfl)); (case hd => exact rfl); (case hcl => exact rfl); (case has => exact Ents.of_eq rfl)))
       apply RunK.nil)
    | (refine aw_drawK (by kernel_rfl) (by kernel_rfl) (by kernel_rfl) ?_
       repeat (first
         | (apply u_assign; (case hg => first | exact trivial | exact rfl); (case hd => exact rfl); (case hx => exact rfl))
         | (apply u_load; (case hg => first | exact trivial | exact rfl); (case hd => exact rfl); (case hx => exact rfl); (case hz => exact rfl))
         | (apply u_store; (case hg => first | exact trivial | exact rfl); (case hd => exact rfl); (case hx => exact rfl); (case hy => exact rfl); (case hc => kernel_rfl))
         | (apply u_box; (case hg => first | exact trivial | exact rfl); (case hd => exact rfl); (case hx => exact rfl); (case hc => exact rfl))
         | (apply u_alloc; (case hg => first | exact trivial | exact rfl); (case hd => exact rfl); (case hf => exact rfl))
         | (apply u_buildS; (case hg => first | exact trivial | exact rfl); (case hd => exact rfl); (case hx => exact rfl); (case hy => exact rfl); (case hc => exact rfl))
         | (apply u_buildA; (case hg => first | exact trivial | exact rfl); (case hd => exact rfl); (case hx => exact rfl); (case hy => exact rfl); (case hc => exact rfl))
         | (apply u_call hA (hc := v_sub ?s0 ?s1); (case hg => (first | exact trivial | exact rfl)); (case hd => exact rfl); (case hcl => exact rfl); (case has => exact Ents.of_eq rfl); (case s0 => omega); (case s1 => omega))
         | (apply u_call hA (hc := v_cross ?s0 ?s1); (case hg => (first | exact trivial | exact rfl)); (case hd => exact rfl); (case hcl => exact rfl); (case has => exact Ents.of_eq rfl); (case s0 => omega); (case s1 => omega))
         | (apply u_call hA (hc := h); (case hg => (first | exact trivial | exact rfl)); (case hd => exact rfl); (case hcl => exact rfl); (case has => exact Ents.of_eq rfl)))
       apply RunK.nil
       refine And.intro (by kernel_rfl) ?_)
    | refine aw_skip ?_
    | refine aw_exit ?_)
  refine aw_ret ?_
  refine And.intro (Or.inr rfl) ?_
  refine fin_two (by first | exact ResIs.tmp rfl | exact ResIs.cell inferInstance rfl rfl rfl rfl) (by first | exact ResIs.tmp rfl | exact ResIs.cell inferInstance rfl rfl rfl rfl) rfl (by first | exact Ent.of_eq rfl | (refine Ent.tup rfl ?_; (repeat (first | exact EntT.nil | (refine EntT.cons ?_ rfl rfl ?_; focus (first | exact Ent.of_eq rfl | (refine Ent.agg' rfl ?_; (repeat (first | exact EntL.nil' rfl | (refine EntL.cons' rfl ?_ ?_; focus (first | exact EntC.of_eq rfl | (refine EntC.q rfl ?_; omega) | exact Z0 _ | exact Z2 _ | exact EntC.z0 (k := 0) | exact EntC.z1 (k := 0) | exact EntC.z2 (k := 0) | exact EntC.z0 | exact EntC.z1 | exact EntC.z2)))); done) | (refine Ent.one' rfl ?_; (first | exact EntC.of_eq rfl | (refine EntC.q rfl ?_; omega) | exact Z0 _ | exact Z2 _ | exact EntC.z0 (k := 0) | exact EntC.z1 (k := 0) | exact EntC.z2 (k := 0) | exact EntC.z0 | exact EntC.z1 | exact EntC.z2)))))); done))
end
end Go.Proofs.YtcmbbmfdmohedaaGreatDoor
