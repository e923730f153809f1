/-
  vector and its reference: planes, sides, units, the example of the chapter, dice's points: by the engine.
-/
import Derived.Test.YtcmbbmfdmohedaaGreatDoorVa
import Derived.Test.YtcmbbmfdmohedaaGreatDoorEw
namespace Go.Proofs.YtcmbbmfdmohedaaGreatDoor
open Go.RowKit
set_option linter.unusedVariables false
set_option linter.unusedSimpArgs false
set_option maxRecDepth 20000
set_option maxHeartbeats 4000000

theorem cmp1 {x y : Rat} (h : y < x) : cmpR x y = 1 := by
  unfold cmpR
  rw [if_neg (Rat.not_lt.2 (Rat.le_of_lt h)), if_pos h]
theorem c_cmp1 {j k : Nat} {x y : Rat} (hj : j ≤ 100000000) (hk : k ≤ 100000000) (h : y < x) : Ctr Tryz.prog Amb 84 [nm j x, nm k y] (.one (.v (.int .i64 1))) := cmp1 h ▸ c_cmp hj hk
theorem c_sign1 {j : Nat} {x : Rat} (h : x = 1) : Ctr Tryz.prog Amb 74 [nm j x] (.one (.v (.int .i64 1))) := by
  subst h
  exact c_sign' (by decide)
theorem r_one : Ctr Tryz.prog Amb 91 [.one (.v (.int .i64 1))] (nm 2 1) := by
  have h := r_int (n := 1) rfl
  rwa [show ((1 : Int) : Rat) = 1 from rfl] at h

/-! ### Dice -/

theorem d_roll (l : List Int) : CtrN Tryz.prog Amb 13 [.one (.ints l)] (diceC l 0) := by
  refine ctrN_body 5 Tryz.func13 rfl rfl rfl rfl rfl rfl ?_
  intro W0 base D μ0 hA
  repeat (first
    | refine aw_seq ?_
    | refine aw_block ?_
    | refine aw_condT rfl ?_
    | refine aw_condF rfl ?_
    | (refine aw_plainK (by kernel_rfl) ?_
       repeat (first
         | (apply u_move; (case hg => first | exact trivial | exact rfl); (case hd => exact rfl); (case hx => exact rfl))
         | (apply u_assign; (case hg => first | exact trivial | exact rfl); (case hd => exact rfl); (case hx => exact rfl))
         | (apply u_box; (case hg => first | exact trivial | exact rfl); (case hd => exact rfl); (case hx => exact rfl); (case hc => exact rfl))
         | (apply u_buildS; (case hg => first | exact trivial | exact rfl); (case hd => exact rfl); (case hx => exact rfl); (case hy => exact rfl); (case hc => exact rfl))
         | (apply u_buildA; (case hg => first | exact trivial | exact rfl); (case hd => exact rfl); (case hx => exact rfl); (case hy => exact rfl); (case hc => exact rfl)))
       apply RunK.nil)
    | refine aw_skip ?_
    | refine aw_exit ?_)
  refine aw_ret ?_
  refine And.intro (Or.inr rfl) ?_
  refine And.intro (fin_one (ResIs.tmp rfl) (by (first | exact Ent.of_eq rfl | (refine Ent.agg' rfl ?_; (repeat (first | exact EntL.nil' rfl | (refine EntL.cons' rfl ?_ ?_; focus (first | exact EntC.of_eq rfl | (refine EntC.q rfl ?_; omega) | exact Z0 _ | exact Z2 _ | exact EntC.z0 (k := 0) | exact EntC.z1 (k := 0) | exact EntC.z2 (k := 0) | exact EntC.z0 | exact EntC.z1 | exact EntC.z2)))); done) | (refine Ent.one' rfl ?_; (first | exact EntC.of_eq rfl | (refine EntC.q rfl ?_; omega) | exact Z0 _ | exact Z2 _ | exact EntC.z0 (k := 0) | exact EntC.z1 (k := 0) | exact EntC.z2 (k := 0) | exact EntC.z0 | exact EntC.z1 | exact EntC.z2))))) (And.intro rfl (fun i c h => ?_))
  match i, h with
  | 0, h => exact EntC.of_eq (Option.some.inj h)
  | 1, h => exact EntC.of_eq (Option.some.inj h)

def pX (l : List Int) (n : Nat) : Rat := (numb l n).1
def pY (l : List Int) (n : Nat) : Rat := (numb l (numb l n).2).1
def pZ (l : List Int) (n : Nat) : Rat := (numb l (numb l (numb l n).2).2).1
def pN (l : List Int) (n : Nat) : Nat := (numb l (numb l (numb l n).2).2).2
theorem pN_bd (l : List Int) (n : Nat) (h : n ≤ l.length) : pN l n ≤ l.length := numb_bd l _ (numb_bd l _ (numb_bd l n h))

theorem d_point0 {l : List Int} {n : Nat} (hb : ∀ x ∈ l, -9223372036854775808 ≤ x ∧ x < 9223372036854775808) (hl : l.length ≤ 1000000) (hn : n ≤ l.length) :
    CtrM Tryz.prog Amb 14 [.one (.ptr 900 0)] [(900, diceC l n, diceC l (pN l n))] (pt 2 (pX l n) (pY l n) (pZ l n)) := by
  have N1 := d_number (k := 900) hb hl hn
  have N2 := d_number (k := 900) hb hl (numb_bd l n hn)
  have N3 := d_number (k := 900) hb hl (numb_bd l _ (numb_bd l n hn))
  apply ctr_body Tryz.func14 rfl rfl rfl rfl rfl
  case hin => simp [inA, inC]
  intro W0 base D μ0 hA
  repeat (first
    | refine aw_seq ?_
    | refine aw_block ?_
    | refine aw_condT rfl ?_
    | refine aw_condF rfl ?_
    | (refine aw_plainK (by kernel_rfl) ?_
       repeat (first
         | (apply u_move; (case hg => first | exact trivial | exact rfl); (case hd => exact rfl); (case hx => exact rfl))
         | (apply u_store; (case hg => first | exact trivial | exact rfl); (case hd => exact rfl); (case hx => exact rfl); (case hy => exact rfl); (case hc => kernel_rfl))
         | (apply u_alloc; (case hg => first | exact trivial | exact rfl); (case hd => exact rfl); (case hf => exact rfl))
         | (apply u_buildS; (case hg => first | exact trivial | exact rfl); (case hd => exact rfl); (case hx => exact rfl); (case hy => exact rfl); (case hc => exact rfl))
         | (apply u_buildA; (case hg => first | exact trivial | exact rfl); (case hd => exact rfl); (case hx => exact rfl); (case hy => exact rfl); (case hc => exact rfl))
         | (apply u_callM hA (ro := []) (rw := [_]) (hc := N1); (case hg => (first | exact trivial | exact rfl)); (case hd => exact rfl); (case hcl => exact rfl); (case has => (first | exact Ents.of_eq rfl | ((repeat (first | exact Ents.nil' rfl | (refine Ents.cons' rfl ?_ ?_; focus (first | exact Ent.of_eq rfl | (refine Ent.agg' rfl ?_; (repeat (first | exact EntL.nil' rfl | (refine EntL.cons' rfl ?_ ?_; focus (first | exact EntC.of_eq rfl | (refine EntC.q rfl ?_; omega) | exact Z0 _ | exact Z2 _ | exact EntC.z0 (k := 0) | exact EntC.z1 (k := 0) | exact EntC.z2 (k := 0) | exact EntC.z0 | exact EntC.z1 | exact EntC.z2)))); done) | (refine Ent.one' rfl ?_; (first | exact EntC.of_eq rfl | (refine EntC.q rfl ?_; omega) | exact Z0 _ | exact Z2 _ | exact EntC.z0 (k := 0) | exact EntC.z1 (k := 0) | exact EntC.z2 (k := 0) | exact EntC.z0 | exact EntC.z1 | exact EntC.z2)))))); done))); (case hro => exact fun p hp => by cases hp); (case hrw => exact fun p hp => by obtain rfl := List.mem_singleton.1 hp; rfl); (case hb => exact rfl); (case hnd => simp))
         | (apply u_callM hA (ro := []) (rw := [_]) (hc := N2); (case hg => (first | exact trivial | exact rfl)); (case hd => exact rfl); (case hcl => exact rfl); (case has => (first | exact Ents.of_eq rfl | ((repeat (first | exact Ents.nil' rfl | (refine Ents.cons' rfl ?_ ?_; focus (first | exact Ent.of_eq rfl | (refine Ent.agg' rfl ?_; (repeat (first | exact EntL.nil' rfl | (refine EntL.cons' rfl ?_ ?_; focus (first | exact EntC.of_eq rfl | (refine EntC.q rfl ?_; omega) | exact Z0 _ | exact Z2 _ | exact EntC.z0 (k := 0) | exact EntC.z1 (k := 0) | exact EntC.z2 (k := 0) | exact EntC.z0 | exact EntC.z1 | exact EntC.z2)))); done) | (refine Ent.one' rfl ?_; (first | exact EntC.of_eq rfl | (refine EntC.q rfl ?_; omega) | exact Z0 _ | exact Z2 _ | exact EntC.z0 (k := 0) | exact EntC.z1 (k := 0) | exact EntC.z2 (k := 0) | exact EntC.z0 | exact EntC.z1 | exact EntC.z2)))))); done))); (case hro => exact fun p hp => by cases hp); (case hrw => exact fun p hp => by obtain rfl := List.mem_singleton.1 hp; rfl); (case hb => exact rfl); (case hnd => simp))
         | (apply u_callM hA (ro := []) (rw := [_]) (hc := N3); (case hg => (first | exact trivial | exact rfl)); (case hd => exact rfl); (case hcl => exact rfl); (case has => (first | exact Ents.of_eq rfl | ((repeat (first | exact Ents.nil' rfl | (refine Ents.cons' rfl ?_ ?_; focus (first | exact Ent.of_eq rfl | (refine Ent.agg' rfl ?_; (repeat (first | exact EntL.nil' rfl | (refine EntL.cons' rfl ?_ ?_; focus (first | exact EntC.of_eq rfl | (refine EntC.q rfl ?_; omega) | exact Z0 _ | exact Z2 _ | exact EntC.z0 (k := 0) | exact EntC.z1 (k := 0) | exact EntC.z2 (k := 0) | exact EntC.z0 | exact EntC.z1 | exact EntC.z2)))); done) | (refine Ent.one' rfl ?_; (first | exact EntC.of_eq rfl | (refine EntC.q rfl ?_; omega) | exact Z0 _ | exact Z2 _ | exact EntC.z0 (k := 0) | exact EntC.z1 (k := 0) | exact EntC.z2 (k := 0) | exact EntC.z0 | exact EntC.z1 | exact EntC.z2)))))); done))); (case hro => exact fun p hp => by cases hp); (case hrw => exact fun p hp => by obtain rfl := List.mem_singleton.1 hp; rfl); (case hb => exact rfl); (case hnd => simp)))
       apply RunK.nil)
    | refine aw_skip ?_
    | refine aw_exit ?_)
  refine aw_ret ?_
  refine And.intro (Or.inr rfl) ?_
  refine fin_oneM (by first | exact ResIs.tmp rfl | exact ResIs.cell inferInstance rfl rfl rfl rfl) (by (first | exact Ent.of_eq rfl | (refine Ent.agg' rfl ?_; (repeat (first | exact EntL.nil' rfl | (refine EntL.cons' rfl ?_ ?_; focus (first | exact EntC.of_eq rfl | (refine EntC.q rfl ?_; omega) | exact Z0 _ | exact Z2 _ | exact EntC.z0 (k := 0) | exact EntC.z1 (k := 0) | exact EntC.z2 (k := 0) | exact EntC.z0 | exact EntC.z1 | exact EntC.z2)))); done) | (refine Ent.one' rfl ?_; (first | exact EntC.of_eq rfl | (refine EntC.q rfl ?_; omega) | exact Z0 _ | exact Z2 _ | exact EntC.z0 (k := 0) | exact EntC.z1 (k := 0) | exact EntC.z2 (k := 0) | exact EntC.z0 | exact EntC.z1 | exact EntC.z2)))) rfl (by first | exact EntL.of_eq rfl | (repeat (first | exact EntL.nil' rfl | refine EntL.cons' rfl (by first | exact EntC.of_eq rfl | exact EntC.q rfl (by omega) | exact Z0 _ | exact Z2 _ | exact EntC.z0 (k := 0) | exact EntC.z1 (k := 0) | exact EntC.z2 (k := 0)) ?_))) rfl
theorem d_point {l : List Int} {n k : Nat} (hb : ∀ x ∈ l, -9223372036854775808 ≤ x ∧ x < 9223372036854775808) (hl : l.length ≤ 1000000) (hn : n ≤ l.length) :
    CtrM Tryz.prog Amb 14 [.one (.ptr k 0)] [(k, diceC l n, diceC l (pN l n))] (pt 2 (pX l n) (pY l n) (pZ l n)) :=
  (d_point0 hb hl hn).at1 k rfl rfl

/-! ### Units, planes -/

theorem w_unit0 : Ctr Tryz.prog Amb 71 [.one (.v (.int .i64 0))] (pt 2 1 0 0) := by
  refine ctr_body Tryz.func71 rfl rfl rfl rfl rfl rfl ?_
  intro W0 base D μ0 hA
  repeat (first
    | refine aw_seq ?_
    | refine aw_block ?_
    | refine aw_condT rfl ?_
    | refine aw_condF rfl ?_
    | (refine aw_plainK (by kernel_rfl) ?_
       repeat (first
         | (apply u_move; (case hg => first | exact trivial | exact rfl); (case hd => exact rfl); (case hx => exact rfl))
         | (apply u_load; (case hg => first | exact trivial | exact rfl); (case hd => exact rfl); (case hx => exact rfl); (case hz => exact rfl))
         | (apply u_store; (case hg => first | exact trivial | exact rfl); (case hd => exact rfl); (case hx => exact rfl); (case hy => exact rfl); (case hc => kernel_rfl))
         | (apply u_alloc; (case hg => first | exact trivial | exact rfl); (case hd => exact rfl); (case hf => exact rfl))
         | (apply u_indexAddr; (case hg => first | exact trivial | exact rfl); (case hd => exact rfl); (case hx => exact rfl); (case hy => exact rfl); (case hc => exact rfl))
         | (apply u_call hA (hc := r_one); (case hg => (first | exact trivial | exact rfl)); (case hd => exact rfl); (case hcl => exact rfl); (case has => (first | exact Ents.of_eq rfl | ((repeat (first | exact Ents.nil' rfl | (refine Ents.cons' rfl ?_ ?_; focus (first | exact Ent.of_eq rfl | (refine Ent.agg' rfl ?_; (repeat (first | exact EntL.nil' rfl | (refine EntL.cons' rfl ?_ ?_; focus (first | exact EntC.of_eq rfl | (refine EntC.q rfl ?_; omega) | exact Z0 _ | exact Z2 _ | exact EntC.z0 (k := 0) | exact EntC.z1 (k := 0) | exact EntC.z2 (k := 0) | exact EntC.z0 | exact EntC.z1 | exact EntC.z2)))); done) | (refine Ent.one' rfl ?_; (first | exact EntC.of_eq rfl | (refine EntC.q rfl ?_; omega) | exact Z0 _ | exact Z2 _ | exact EntC.z0 (k := 0) | exact EntC.z1 (k := 0) | exact EntC.z2 (k := 0) | exact EntC.z0 | exact EntC.z1 | exact EntC.z2)))))); done)))))
       apply RunK.nil)
    | refine aw_skip ?_
    | refine aw_exit ?_)
  refine aw_ret ?_
  refine And.intro (Or.inr rfl) ?_
  refine fin_one (by first | exact ResIs.tmp rfl | exact ResIs.cell inferInstance rfl rfl rfl rfl) (by (first | exact Ent.of_eq rfl | (refine Ent.agg' rfl ?_; (repeat (first | exact EntL.nil' rfl | (refine EntL.cons' rfl ?_ ?_; focus (first | exact EntC.of_eq rfl | (refine EntC.q rfl ?_; omega) | exact Z0 _ | exact Z2 _ | exact EntC.z0 (k := 0) | exact EntC.z1 (k := 0) | exact EntC.z2 (k := 0) | exact EntC.z0 | exact EntC.z1 | exact EntC.z2)))); done) | (refine Ent.one' rfl ?_; (first | exact EntC.of_eq rfl | (refine EntC.q rfl ?_; omega) | exact Z0 _ | exact Z2 _ | exact EntC.z0 (k := 0) | exact EntC.z1 (k := 0) | exact EntC.z2 (k := 0) | exact EntC.z0 | exact EntC.z1 | exact EntC.z2))))
theorem w_unit1 : Ctr Tryz.prog Amb 71 [.one (.v (.int .i64 1))] (pt 2 0 1 0) := by
  refine ctr_body Tryz.func71 rfl rfl rfl rfl rfl rfl ?_
  intro W0 base D μ0 hA
  repeat (first
    | refine aw_seq ?_
    | refine aw_block ?_
    | refine aw_condT rfl ?_
    | refine aw_condF rfl ?_
    | (refine aw_plainK (by kernel_rfl) ?_
       repeat (first
         | (apply u_move; (case hg => first | exact trivial | exact rfl); (case hd => exact rfl); (case hx => exact rfl))
         | (apply u_load; (case hg => first | exact trivial | exact rfl); (case hd => exact rfl); (case hx => exact rfl); (case hz => exact rfl))
         | (apply u_store; (case hg => first | exact trivial | exact rfl); (case hd => exact rfl); (case hx => exact rfl); (case hy => exact rfl); (case hc => kernel_rfl))
         | (apply u_alloc; (case hg => first | exact trivial | exact rfl); (case hd => exact rfl); (case hf => exact rfl))
         | (apply u_indexAddr; (case hg => first | exact trivial | exact rfl); (case hd => exact rfl); (case hx => exact rfl); (case hy => exact rfl); (case hc => exact rfl))
         | (apply u_call hA (hc := r_one); (case hg => (first | exact trivial | exact rfl)); (case hd => exact rfl); (case hcl => exact rfl); (case has => (first | exact Ents.of_eq rfl | ((repeat (first | exact Ents.nil' rfl | (refine Ents.cons' rfl ?_ ?_; focus (first | exact Ent.of_eq rfl | (refine Ent.agg' rfl ?_; (repeat (first | exact EntL.nil' rfl | (refine EntL.cons' rfl ?_ ?_; focus (first | exact EntC.of_eq rfl | (refine EntC.q rfl ?_; omega) | exact Z0 _ | exact Z2 _ | exact EntC.z0 (k := 0) | exact EntC.z1 (k := 0) | exact EntC.z2 (k := 0) | exact EntC.z0 | exact EntC.z1 | exact EntC.z2)))); done) | (refine Ent.one' rfl ?_; (first | exact EntC.of_eq rfl | (refine EntC.q rfl ?_; omega) | exact Z0 _ | exact Z2 _ | exact EntC.z0 (k := 0) | exact EntC.z1 (k := 0) | exact EntC.z2 (k := 0) | exact EntC.z0 | exact EntC.z1 | exact EntC.z2)))))); done)))))
       apply RunK.nil)
    | refine aw_skip ?_
    | refine aw_exit ?_)
  refine aw_ret ?_
  refine And.intro (Or.inr rfl) ?_
  refine fin_one (by first | exact ResIs.tmp rfl | exact ResIs.cell inferInstance rfl rfl rfl rfl) (by (first | exact Ent.of_eq rfl | (refine Ent.agg' rfl ?_; (repeat (first | exact EntL.nil' rfl | (refine EntL.cons' rfl ?_ ?_; focus (first | exact EntC.of_eq rfl | (refine EntC.q rfl ?_; omega) | exact Z0 _ | exact Z2 _ | exact EntC.z0 (k := 0) | exact EntC.z1 (k := 0) | exact EntC.z2 (k := 0) | exact EntC.z0 | exact EntC.z1 | exact EntC.z2)))); done) | (refine Ent.one' rfl ?_; (first | exact EntC.of_eq rfl | (refine EntC.q rfl ?_; omega) | exact Z0 _ | exact Z2 _ | exact EntC.z0 (k := 0) | exact EntC.z1 (k := 0) | exact EntC.z2 (k := 0) | exact EntC.z0 | exact EntC.z1 | exact EntC.z2))))
theorem w_unit2 : Ctr Tryz.prog Amb 71 [.one (.v (.int .i64 2))] (pt 2 0 0 1) := by
  refine ctr_body Tryz.func71 rfl rfl rfl rfl rfl rfl ?_
  intro W0 base D μ0 hA
  repeat (first
    | refine aw_seq ?_
    | refine aw_block ?_
    | refine aw_condT rfl ?_
    | refine aw_condF rfl ?_
    | (refine aw_plainK (by kernel_rfl) ?_
       repeat (first
         | (apply u_move; (case hg => first | exact trivial | exact rfl); (case hd => exact rfl); (case hx => exact rfl))
         | (apply u_load; (case hg => first | exact trivial | exact rfl); (case hd => exact rfl); (case hx => exact rfl); (case hz => exact rfl))
         | (apply u_store; (case hg => first | exact trivial | exact rfl); (case hd => exact rfl); (case hx => exact rfl); (case hy => exact rfl); (case hc => kernel_rfl))
         | (apply u_alloc; (case hg => first | exact trivial | exact rfl); (case hd => exact rfl); (case hf => exact rfl))
         | (apply u_indexAddr; (case hg => first | exact trivial | exact rfl); (case hd => exact rfl); (case hx => exact rfl); (case hy => exact rfl); (case hc => exact rfl))
         | (apply u_call hA (hc := r_one); (case hg => (first | exact trivial | exact rfl)); (case hd => exact rfl); (case hcl => exact rfl); (case has => (first | exact Ents.of_eq rfl | ((repeat (first | exact Ents.nil' rfl | (refine Ents.cons' rfl ?_ ?_; focus (first | exact Ent.of_eq rfl | (refine Ent.agg' rfl ?_; (repeat (first | exact EntL.nil' rfl | (refine EntL.cons' rfl ?_ ?_; focus (first | exact EntC.of_eq rfl | (refine EntC.q rfl ?_; omega) | exact Z0 _ | exact Z2 _ | exact EntC.z0 (k := 0) | exact EntC.z1 (k := 0) | exact EntC.z2 (k := 0) | exact EntC.z0 | exact EntC.z1 | exact EntC.z2)))); done) | (refine Ent.one' rfl ?_; (first | exact EntC.of_eq rfl | (refine EntC.q rfl ?_; omega) | exact Z0 _ | exact Z2 _ | exact EntC.z0 (k := 0) | exact EntC.z1 (k := 0) | exact EntC.z2 (k := 0) | exact EntC.z0 | exact EntC.z1 | exact EntC.z2)))))); done)))))
       apply RunK.nil)
    | refine aw_skip ?_
    | refine aw_exit ?_)
  refine aw_ret ?_
  refine And.intro (Or.inr rfl) ?_
  refine fin_one (by first | exact ResIs.tmp rfl | exact ResIs.cell inferInstance rfl rfl rfl rfl) (by (first | exact Ent.of_eq rfl | (refine Ent.agg' rfl ?_; (repeat (first | exact EntL.nil' rfl | (refine EntL.cons' rfl ?_ ?_; focus (first | exact EntC.of_eq rfl | (refine EntC.q rfl ?_; omega) | exact Z0 _ | exact Z2 _ | exact EntC.z0 (k := 0) | exact EntC.z1 (k := 0) | exact EntC.z2 (k := 0) | exact EntC.z0 | exact EntC.z1 | exact EntC.z2)))); done) | (refine Ent.one' rfl ?_; (first | exact EntC.of_eq rfl | (refine EntC.q rfl ?_; omega) | exact Z0 _ | exact Z2 _ | exact EntC.z0 (k := 0) | exact EntC.z1 (k := 0) | exact EntC.z2 (k := 0) | exact EntC.z0 | exact EntC.z1 | exact EntC.z2))))

/-- A plane. -/
abbrev pln (j : Nat) (x y z : Rat) (k : Nat) (d : Rat) : AV := .agg [.q x j 0, .q x j 1, .q x j 2, .q y j 0, .q y j 1, .q y j 2, .q z j 0, .q z j 1, .q z j 2, .q d k 0, .q d k 1, .q d k 2]

section
variable {i j k m : Nat} {a b c x y z u v w d : Rat}

theorem v_det (h1 : j ≤ 10000) (h2 : k ≤ 10000) (h3 : m ≤ 10000) : Ctr Tryz.prog Amb 31 [pt j a b c, pt k x y z, pt m u v w] (nm (3 * (j + (k + m + 2 + (k + m + 2) + 3)) + 15) (0 + a * (y * w - z * v) + b * (z * u - x * w) + c * (x * v - y * u))) := by
  refine ctr_body Tryz.func31 rfl rfl rfl rfl rfl rfl ?_
  intro W0 base D μ0 hA
  repeat (first
    | refine aw_seq ?_
    | refine aw_block ?_
    | refine aw_condT rfl ?_
    | refine aw_condF rfl ?_
    | (refine aw_plainK (by kernel_rfl) ?_
       repeat (first
         | (apply u_load; (case hg => first | exact trivial | exact rfl); (case hd => exact rfl); (case hx => exact rfl); (case hz => exact rfl))
         | (apply u_store; (case hg => first | exact trivial | exact rfl); (case hd => exact rfl); (case hx => exact rfl); (case hy => exact rfl); (case hc => kernel_rfl))
         | (apply u_box; (case hg => first | exact trivial | exact rfl); (case hd => exact rfl); (case hx => exact rfl); (case hc => exact rfl))
         | (apply u_alloc; (case hg => first | exact trivial | exact rfl); (case hd => exact rfl); (case hf => exact rfl))
         | (apply u_call hA (hc := v_cross ?s0 ?s1); (case hg => (first | exact trivial | exact rfl)); (case hd => exact rfl); (case hcl => exact rfl); (case has => (first | exact Ents.of_eq rfl | ((repeat (first | exact Ents.nil' rfl | (refine Ents.cons' rfl ?_ ?_; focus (first | exact Ent.of_eq rfl | (refine Ent.agg' rfl ?_; (repeat (first | exact EntL.nil' rfl | (refine EntL.cons' rfl ?_ ?_; focus (first | exact EntC.of_eq rfl | (refine EntC.q rfl ?_; omega) | exact Z0 _ | exact Z2 _ | exact EntC.z0 (k := 0) | exact EntC.z1 (k := 0) | exact EntC.z2 (k := 0) | exact EntC.z0 | exact EntC.z1 | exact EntC.z2)))); done) | (refine Ent.one' rfl ?_; (first | exact EntC.of_eq rfl | (refine EntC.q rfl ?_; omega) | exact Z0 _ | exact Z2 _ | exact EntC.z0 (k := 0) | exact EntC.z1 (k := 0) | exact EntC.z2 (k := 0) | exact EntC.z0 | exact EntC.z1 | exact EntC.z2)))))); done))); (case s0 => omega); (case s1 => omega))
         | (apply u_call hA (hc := v_dot ?s0 ?s1); (case hg => (first | exact trivial | exact rfl)); (case hd => exact rfl); (case hcl => exact rfl); (case has => (first | exact Ents.of_eq rfl | ((repeat (first | exact Ents.nil' rfl | (refine Ents.cons' rfl ?_ ?_; focus (first | exact Ent.of_eq rfl | (refine Ent.agg' rfl ?_; (repeat (first | exact EntL.nil' rfl | (refine EntL.cons' rfl ?_ ?_; focus (first | exact EntC.of_eq rfl | (refine EntC.q rfl ?_; omega) | exact Z0 _ | exact Z2 _ | exact EntC.z0 (k := 0) | exact EntC.z1 (k := 0) | exact EntC.z2 (k := 0) | exact EntC.z0 | exact EntC.z1 | exact EntC.z2)))); done) | (refine Ent.one' rfl ?_; (first | exact EntC.of_eq rfl | (refine EntC.q rfl ?_; omega) | exact Z0 _ | exact Z2 _ | exact EntC.z0 (k := 0) | exact EntC.z1 (k := 0) | exact EntC.z2 (k := 0) | exact EntC.z0 | exact EntC.z1 | exact EntC.z2)))))); done))); (case s0 => omega); (case s1 => omega)))
       apply RunK.nil)
    | (refine aw_drawK (by kernel_rfl) (by kernel_rfl) (by kernel_rfl) ?_
       repeat (first
         | (apply u_load; (case hg => first | exact trivial | exact rfl); (case hd => exact rfl); (case hx => exact rfl); (case hz => exact rfl))
         | (apply u_store; (case hg => first | exact trivial | exact rfl); (case hd => exact rfl); (case hx => exact rfl); (case hy => exact rfl); (case hc => kernel_rfl))
         | (apply u_box; (case hg => first | exact trivial | exact rfl); (case hd => exact rfl); (case hx => exact rfl); (case hc => exact rfl))
         | (apply u_alloc; (case hg => first | exact trivial | exact rfl); (case hd => exact rfl); (case hf => exact rfl))
         | (apply u_call hA (hc := v_cross ?s0 ?s1); (case hg => (first | exact trivial | exact rfl)); (case hd => exact rfl); (case hcl => exact rfl); (case has => (first | exact Ents.of_eq rfl | ((repeat (first | exact Ents.nil' rfl | (refine Ents.cons' rfl ?_ ?_; focus (first | exact Ent.of_eq rfl | (refine Ent.agg' rfl ?_; (repeat (first | exact EntL.nil' rfl | (refine EntL.cons' rfl ?_ ?_; focus (first | exact EntC.of_eq rfl | (refine EntC.q rfl ?_; omega) | exact Z0 _ | exact Z2 _ | exact EntC.z0 (k := 0) | exact EntC.z1 (k := 0) | exact EntC.z2 (k := 0) | exact EntC.z0 | exact EntC.z1 | exact EntC.z2)))); done) | (refine Ent.one' rfl ?_; (first | exact EntC.of_eq rfl | (refine EntC.q rfl ?_; omega) | exact Z0 _ | exact Z2 _ | exact EntC.z0 (k := 0) | exact EntC.z1 (k := 0) | exact EntC.z2 (k := 0) | exact EntC.z0 | exact EntC.z1 | exact EntC.z2)))))); done))); (case s0 => omega); (case s1 => omega))
         | (apply u_call hA (hc := v_dot ?s0 ?s1); (case hg => (first | exact trivial | exact rfl)); (case hd => exact rfl); (case hcl => exact rfl); (case has => (first | exact Ents.of_eq rfl | ((repeat (first | exact Ents.nil' rfl | (refine Ents.cons' rfl ?_ ?_; focus (first | exact Ent.of_eq rfl | (refine Ent.agg' rfl ?_; (repeat (first | exact EntL.nil' rfl | (refine EntL.cons' rfl ?_ ?_; focus (first | exact EntC.of_eq rfl | (refine EntC.q rfl ?_; omega) | exact Z0 _ | exact Z2 _ | exact EntC.z0 (k := 0) | exact EntC.z1 (k := 0) | exact EntC.z2 (k := 0) | exact EntC.z0 | exact EntC.z1 | exact EntC.z2)))); done) | (refine Ent.one' rfl ?_; (first | exact EntC.of_eq rfl | (refine EntC.q rfl ?_; omega) | exact Z0 _ | exact Z2 _ | exact EntC.z0 (k := 0) | exact EntC.z1 (k := 0) | exact EntC.z2 (k := 0) | exact EntC.z0 | exact EntC.z1 | exact EntC.z2)))))); done))); (case s0 => omega); (case s1 => omega)))
       apply RunK.nil
       refine And.intro (by kernel_rfl) ?_)
    | refine aw_skip ?_
    | refine aw_exit ?_)
  refine aw_ret ?_
  refine And.intro (Or.inr rfl) ?_
  refine fin_one (by first | exact ResIs.tmp rfl | exact ResIs.cell inferInstance rfl rfl rfl rfl) (by (first | exact Ent.of_eq rfl | (refine Ent.agg' rfl ?_; (repeat (first | exact EntL.nil' rfl | (refine EntL.cons' rfl ?_ ?_; focus (first | exact EntC.of_eq rfl | (refine EntC.q rfl ?_; omega) | exact Z0 _ | exact Z2 _ | exact EntC.z0 (k := 0) | exact EntC.z1 (k := 0) | exact EntC.z2 (k := 0) | exact EntC.z0 | exact EntC.z1 | exact EntC.z2)))); done) | (refine Ent.one' rfl ?_; (first | exact EntC.of_eq rfl | (refine EntC.q rfl ?_; omega) | exact Z0 _ | exact Z2 _ | exact EntC.z0 (k := 0) | exact EntC.z1 (k := 0) | exact EntC.z2 (k := 0) | exact EntC.z0 | exact EntC.z1 | exact EntC.z2))))
theorem v_zeroF (h1 : a = 0) (h2 : b = 0) (h3 : c = 1) : Ctr Tryz.prog Amb 18 [pt j a b c] (.one (.v (.bool false))) := by
  refine ctr_body Tryz.func18 rfl rfl rfl rfl rfl rfl ?_
  intro W0 base D μ0 hA
  repeat (first
    | refine aw_seq ?_
    | refine aw_block ?_
    | refine aw_condT rfl ?_
    | refine aw_condF rfl ?_
    | refine aw_loopN 6 ?_
    | (refine aw_plainK (by kernel_rfl) ?_
       repeat (first
         | (apply u_move; (case hg => first | exact trivial | exact rfl); (case hd => exact rfl); (case hx => exact rfl))
         | (apply u_assign; (case hg => first | exact trivial | exact rfl); (case hd => exact rfl); (case hx => exact rfl))
         | (apply u_load; (case hg => first | exact trivial | exact rfl); (case hd => exact rfl); (case hx => exact rfl); (case hz => exact rfl))
         | (apply u_box; (case hg => first | exact trivial | exact rfl); (case hd => exact rfl); (case hx => exact rfl); (case hc => exact rfl))
         | (apply u_bin; (case hg => first | exact trivial | exact rfl); (case hd => exact rfl); (case hx => exact rfl); (case hy => exact rfl); (case hc => (first | exact (rfl : _ = some (Value.int _ 1)) | exact (rfl : _ = some (Value.int _ 2)) | exact (rfl : _ = some (Value.int _ 3)) | exact (rfl : _ = some (Value.int _ 0)) | exact (rfl : _ = some (Value.int _ 4)) | exact (rfl : _ = some (Value.int _ 5)) | exact (rfl : _ = some (Value.bool true)) | exact (rfl : _ = some (Value.bool false)) | exact rfl)))
         | (apply u_indexAddrTo 0; (case hg => (first | exact trivial | exact rfl)); (case hd => exact rfl); (case hx => exact rfl); (case hy => exact rfl); (case hc => exact rfl))
         | (apply u_indexAddrTo 3; (case hg => (first | exact trivial | exact rfl)); (case hd => exact rfl); (case hx => exact rfl); (case hy => exact rfl); (case hc => exact rfl))
         | (apply u_indexAddrTo 6; (case hg => (first | exact trivial | exact rfl)); (case hd => exact rfl); (case hx => exact rfl); (case hy => exact rfl); (case hc => exact rfl))
         | (apply u_indexAddr; (case hg => first | exact trivial | exact rfl); (case hd => exact rfl); (case hx => exact rfl); (case hy => exact rfl); (case hc => exact rfl))
         | (apply u_boxAt 1000; (case hg => (first | exact trivial | exact rfl)); (case hd => exact rfl); (case hx => exact rfl); (case hc => exact rfl))
         | (apply u_boxAt 2000; (case hg => (first | exact trivial | exact rfl)); (case hd => exact rfl); (case hx => exact rfl); (case hc => exact rfl))
         | (apply u_call hA (hc := c_sign0 h1); (case hg => (first | exact trivial | exact rfl)); (case hd => exact rfl); (case hcl => exact rfl); (case has => (first | exact Ents.of_eq rfl | ((repeat (first | exact Ents.nil' rfl | (refine Ents.cons' rfl ?_ ?_; focus (first | exact Ent.of_eq rfl | (refine Ent.agg' rfl ?_; (repeat (first | exact EntL.nil' rfl | (refine EntL.cons' rfl ?_ ?_; focus (first | exact EntC.of_eq rfl | (refine EntC.q rfl ?_; omega) | exact Z0 _ | exact Z2 _ | exact EntC.z0 (k := 0) | exact EntC.z1 (k := 0) | exact EntC.z2 (k := 0) | exact EntC.z0 | exact EntC.z1 | exact EntC.z2)))); done) | (refine Ent.one' rfl ?_; (first | exact EntC.of_eq rfl | (refine EntC.q rfl ?_; omega) | exact Z0 _ | exact Z2 _ | exact EntC.z0 (k := 0) | exact EntC.z1 (k := 0) | exact EntC.z2 (k := 0) | exact EntC.z0 | exact EntC.z1 | exact EntC.z2)))))); done))))
         | (apply u_call hA (hc := c_sign0 h2); (case hg => (first | exact trivial | exact rfl)); (case hd => exact rfl); (case hcl => exact rfl); (case has => (first | exact Ents.of_eq rfl | ((repeat (first | exact Ents.nil' rfl | (refine Ents.cons' rfl ?_ ?_; focus (first | exact Ent.of_eq rfl | (refine Ent.agg' rfl ?_; (repeat (first | exact EntL.nil' rfl | (refine EntL.cons' rfl ?_ ?_; focus (first | exact EntC.of_eq rfl | (refine EntC.q rfl ?_; omega) | exact Z0 _ | exact Z2 _ | exact EntC.z0 (k := 0) | exact EntC.z1 (k := 0) | exact EntC.z2 (k := 0) | exact EntC.z0 | exact EntC.z1 | exact EntC.z2)))); done) | (refine Ent.one' rfl ?_; (first | exact EntC.of_eq rfl | (refine EntC.q rfl ?_; omega) | exact Z0 _ | exact Z2 _ | exact EntC.z0 (k := 0) | exact EntC.z1 (k := 0) | exact EntC.z2 (k := 0) | exact EntC.z0 | exact EntC.z1 | exact EntC.z2)))))); done))))
         | (apply u_call hA (hc := c_sign1 h3); (case hg => (first | exact trivial | exact rfl)); (case hd => exact rfl); (case hcl => exact rfl); (case has => (first | exact Ents.of_eq rfl | ((repeat (first | exact Ents.nil' rfl | (refine Ents.cons' rfl ?_ ?_; focus (first | exact Ent.of_eq rfl | (refine Ent.agg' rfl ?_; (repeat (first | exact EntL.nil' rfl | (refine EntL.cons' rfl ?_ ?_; focus (first | exact EntC.of_eq rfl | (refine EntC.q rfl ?_; omega) | exact Z0 _ | exact Z2 _ | exact EntC.z0 (k := 0) | exact EntC.z1 (k := 0) | exact EntC.z2 (k := 0) | exact EntC.z0 | exact EntC.z1 | exact EntC.z2)))); done) | (refine Ent.one' rfl ?_; (first | exact EntC.of_eq rfl | (refine EntC.q rfl ?_; omega) | exact Z0 _ | exact Z2 _ | exact EntC.z0 (k := 0) | exact EntC.z1 (k := 0) | exact EntC.z2 (k := 0) | exact EntC.z0 | exact EntC.z1 | exact EntC.z2)))))); done)))))
       apply RunK.nil)
    | refine aw_skip ?_
    | refine aw_exit ?_)
  refine aw_ret ?_
  refine And.intro (Or.inr rfl) ?_
  refine fin_one (by first | exact ResIs.tmp rfl | exact ResIs.cell inferInstance rfl rfl rfl rfl) (by (first | exact Ent.of_eq rfl | (refine Ent.agg' rfl ?_; (repeat (first | exact EntL.nil' rfl | (refine EntL.cons' rfl ?_ ?_; focus (first | exact EntC.of_eq rfl | (refine EntC.q rfl ?_; omega) | exact Z0 _ | exact Z2 _ | exact EntC.z0 (k := 0) | exact EntC.z1 (k := 0) | exact EntC.z2 (k := 0) | exact EntC.z0 | exact EntC.z1 | exact EntC.z2)))); done) | (refine Ent.one' rfl ?_; (first | exact EntC.of_eq rfl | (refine EntC.q rfl ?_; omega) | exact Z0 _ | exact Z2 _ | exact EntC.z0 (k := 0) | exact EntC.z1 (k := 0) | exact EntC.z2 (k := 0) | exact EntC.z0 | exact EntC.z1 | exact EntC.z2))))
theorem v_through (h1 : j ≤ 10000) (h2 : k ≤ 10000) (h3 : m ≤ 10000) (h : Ctr Tryz.prog Amb 18 [pt (k + j + 3 + (m + j + 3) + 2 + (k + j + 3 + (m + j + 3) + 2) + 3) ((y - b) * (w - c) - (z - c) * (v - b)) ((z - c) * (u - a) - (x - a) * (w - c)) ((x - a) * (v - b) - (y - b) * (u - a))] (.one (.v (.bool false)))) :
    Ctr Tryz.prog Amb 33 [pt j a b c, pt k x y z, pt m u v w] (.tup [pln (k + j + 3 + (m + j + 3) + 2 + (k + j + 3 + (m + j + 3) + 2) + 3) ((y - b) * (w - c) - (z - c) * (v - b)) ((z - c) * (u - a) - (x - a) * (w - c)) ((x - a) * (v - b) - (y - b) * (u - a)) (3 * (k + j + 3 + (m + j + 3) + 2 + (k + j + 3 + (m + j + 3) + 2) + 3 + j) + 15) (0 + ((y - b) * (w - c) - (z - c) * (v - b)) * a + ((z - c) * (u - a) - (x - a) * (w - c)) * b + ((x - a) * (v - b) - (y - b) * (u - a)) * c), .one (.v (.int .i64 0))]) := by
  refine ctr_body Tryz.func33 rfl rfl rfl rfl rfl rfl ?_
  intro W0 base D μ0 hA
  repeat (first
    | refine aw_seq ?_
    | refine aw_block ?_
    | refine aw_condT rfl ?_
    | refine aw_condF rfl ?_
    | (refine aw_plainK (by kernel_rfl) ?_
       repeat (first
         | (apply u_assign; (case hg => first | exact trivial | exact rfl); (case hd => exact rfl); (case hx => exact rfl))
         | (apply u_load; (case hg => first | exact trivial | exact rfl); (case hd => exact rfl); (case hx => exact rfl); (case hz => exact rfl))
         | (apply u_store; (case hg => first | exact trivial | exact rfl); (case hd => exact rfl); (case hx => exact rfl); (case hy => exact rfl); (case hc => kernel_rfl))
         | (apply u_box; (case hg => first | exact trivial | exact rfl); (case hd => exact rfl); (case hx => exact rfl); (case hc => exact rfl))
         | (apply u_alloc; (case hg => first | exact trivial | exact rfl); (case hd => exact rfl); (case hf => exact rfl))
         | (apply u_buildS; (case hg => first | exact trivial | exact rfl); (case hd => exact rfl); (case hx => exact rfl); (case hy => exact rfl); (case hc => exact rfl))
         | (apply u_buildA; (case hg => first | exact trivial | exact rfl); (case hd => exact rfl); (case hx => exact rfl); (case hy => exact rfl); (case hc => exact rfl))
         | (apply u_call hA (hc := v_sub ?s0 ?s1); (case hg => (first | exact trivial | exact rfl)); (case hd => exact rfl); (case hcl => exact rfl); (case has => (first | exact Ents.of_eq rfl | ((repeat (first | exact Ents.nil' rfl | (refine Ents.cons' rfl ?_ ?_; focus (first | exact Ent.of_eq rfl | (refine Ent.agg' rfl ?_; (repeat (first | exact EntL.nil' rfl | (refine EntL.cons' rfl ?_ ?_; focus (first | exact EntC.of_eq rfl | (refine EntC.q rfl ?_; omega) | exact Z0 _ | exact Z2 _ | exact EntC.z0 (k := 0) | exact EntC.z1 (k := 0) | exact EntC.z2 (k := 0) | exact EntC.z0 | exact EntC.z1 | exact EntC.z2)))); done) | (refine Ent.one' rfl ?_; (first | exact EntC.of_eq rfl | (refine EntC.q rfl ?_; omega) | exact Z0 _ | exact Z2 _ | exact EntC.z0 (k := 0) | exact EntC.z1 (k := 0) | exact EntC.z2 (k := 0) | exact EntC.z0 | exact EntC.z1 | exact EntC.z2)))))); done))); (case s0 => omega); (case s1 => omega))
         | (apply u_call hA (hc := v_cross ?s0 ?s1); (case hg => (first | exact trivial | exact rfl)); (case hd => exact rfl); (case hcl => exact rfl); (case has => (first | exact Ents.of_eq rfl | ((repeat (first | exact Ents.nil' rfl | (refine Ents.cons' rfl ?_ ?_; focus (first | exact Ent.of_eq rfl | (refine Ent.agg' rfl ?_; (repeat (first | exact EntL.nil' rfl | (refine EntL.cons' rfl ?_ ?_; focus (first | exact EntC.of_eq rfl | (refine EntC.q rfl ?_; omega) | exact Z0 _ | exact Z2 _ | exact EntC.z0 (k := 0) | exact EntC.z1 (k := 0) | exact EntC.z2 (k := 0) | exact EntC.z0 | exact EntC.z1 | exact EntC.z2)))); done) | (refine Ent.one' rfl ?_; (first | exact EntC.of_eq rfl | (refine EntC.q rfl ?_; omega) | exact Z0 _ | exact Z2 _ | exact EntC.z0 (k := 0) | exact EntC.z1 (k := 0) | exact EntC.z2 (k := 0) | exact EntC.z0 | exact EntC.z1 | exact EntC.z2)))))); done))); (case s0 => omega); (case s1 => omega))
         | (apply u_call hA (hc := h); (case hg => (first | exact trivial | exact rfl)); (case hd => exact rfl); (case hcl => exact rfl); (case has => (first | exact Ents.of_eq rfl | ((repeat (first | exact Ents.nil' rfl | (refine Ents.cons' rfl ?_ ?_; focus (first | exact Ent.of_eq rfl | (refine Ent.agg' rfl ?_; (repeat (first | exact EntL.nil' rfl | (refine EntL.cons' rfl ?_ ?_; focus (first | exact EntC.of_eq rfl | (refine EntC.q rfl ?_; omega) | exact Z0 _ | exact Z2 _ | exact EntC.z0 (k := 0) | exact EntC.z1 (k := 0) | exact EntC.z2 (k := 0) | exact EntC.z0 | exact EntC.z1 | exact EntC.z2)))); done) | (refine Ent.one' rfl ?_; (first | exact EntC.of_eq rfl | (refine EntC.q rfl ?_; omega) | exact Z0 _ | exact Z2 _ | exact EntC.z0 (k := 0) | exact EntC.z1 (k := 0) | exact EntC.z2 (k := 0) | exact EntC.z0 | exact EntC.z1 | exact EntC.z2)))))); done))))
         | (apply u_call hA (hc := v_dot ?s0 ?s1); (case hg => (first | exact trivial | exact rfl)); (case hd => exact rfl); (case hcl => exact rfl); (case has => (first | exact Ents.of_eq rfl | ((repeat (first | exact Ents.nil' rfl | (refine Ents.cons' rfl ?_ ?_; focus (first | exact Ent.of_eq rfl | (refine Ent.agg' rfl ?_; (repeat (first | exact EntL.nil' rfl | (refine EntL.cons' rfl ?_ ?_; focus (first | exact EntC.of_eq rfl | (refine EntC.q rfl ?_; omega) | exact Z0 _ | exact Z2 _ | exact EntC.z0 (k := 0) | exact EntC.z1 (k := 0) | exact EntC.z2 (k := 0) | exact EntC.z0 | exact EntC.z1 | exact EntC.z2)))); done) | (refine Ent.one' rfl ?_; (first | exact EntC.of_eq rfl | (refine EntC.q rfl ?_; omega) | exact Z0 _ | exact Z2 _ | exact EntC.z0 (k := 0) | exact EntC.z1 (k := 0) | exact EntC.z2 (k := 0) | exact EntC.z0 | exact EntC.z1 | exact EntC.z2)))))); done))); (case s0 => omega); (case s1 => omega)))
       apply RunK.nil)
    | (refine aw_drawK (by kernel_rfl) (by kernel_rfl) (by kernel_rfl) ?_
       repeat (first
         | (apply u_assign; (case hg => first | exact trivial | exact rfl); (case hd => exact rfl); (case hx => exact rfl))
         | (apply u_load; (case hg => first | exact trivial | exact rfl); (case hd => exact rfl); (case hx => exact rfl); (case hz => exact rfl))
         | (apply u_store; (case hg => first | exact trivial | exact rfl); (case hd => exact rfl); (case hx => exact rfl); (case hy => exact rfl); (case hc => kernel_rfl))
         | (apply u_box; (case hg => first | exact trivial | exact rfl); (case hd => exact rfl); (case hx => exact rfl); (case hc => exact rfl))
         | (apply u_alloc; (case hg => first | exact trivial | exact rfl); (case hd => exact rfl); (case hf => exact rfl))
         | (apply u_buildS; (case hg => first | exact trivial | exact rfl); (case hd => exact rfl); (case hx => exact rfl); (case hy => exact rfl); (case hc => exact rfl))
         | (apply u_buildA; (case hg => first | exact trivial | exact rfl); (case hd => exact rfl); (case hx => exact rfl); (case hy => exact rfl); (case hc => exact rfl))
         | (apply u_call hA (hc := v_sub ?s0 ?s1); (case hg => (first | exact trivial | exact rfl)); (case hd => exact rfl); (case hcl => exact rfl); (case has => (first | exact Ents.of_eq rfl | ((repeat (first | exact Ents.nil' rfl | (refine Ents.cons' rfl ?_ ?_; focus (first | exact Ent.of_eq rfl | (refine Ent.agg' rfl ?_; (repeat (first | exact EntL.nil' rfl | (refine EntL.cons' rfl ?_ ?_; focus (first | exact EntC.of_eq rfl | (refine EntC.q rfl ?_; omega) | exact Z0 _ | exact Z2 _ | exact EntC.z0 (k := 0) | exact EntC.z1 (k := 0) | exact EntC.z2 (k := 0) | exact EntC.z0 | exact EntC.z1 | exact EntC.z2)))); done) | (refine Ent.one' rfl ?_; (first | exact EntC.of_eq rfl | (refine EntC.q rfl ?_; omega) | exact Z0 _ | exact Z2 _ | exact EntC.z0 (k := 0) | exact EntC.z1 (k := 0) | exact EntC.z2 (k := 0) | exact EntC.z0 | exact EntC.z1 | exact EntC.z2)))))); done))); (case s0 => omega); (case s1 => omega))
         | (apply u_call hA (hc := v_cross ?s0 ?s1); (case hg => (first | exact trivial | exact rfl)); (case hd => exact rfl); (case hcl => exact rfl); (case has => (first | exact Ents.of_eq rfl | ((repeat (first | exact Ents.nil' rfl | (refine Ents.cons' rfl ?_ ?_; focus (first | exact Ent.of_eq rfl | (refine Ent.agg' rfl ?_; (repeat (first | exact EntL.nil' rfl | (refine EntL.cons' rfl ?_ ?_; focus (first | exact EntC.of_eq rfl | (refine EntC.q rfl ?_; omega) | exact Z0 _ | exact Z2 _ | exact EntC.z0 (k := 0) | exact EntC.z1 (k := 0) | exact EntC.z2 (k := 0) | exact EntC.z0 | exact EntC.z1 | exact EntC.z2)))); done) | (refine Ent.one' rfl ?_; (first | exact EntC.of_eq rfl | (refine EntC.q rfl ?_; omega) | exact Z0 _ | exact Z2 _ | exact EntC.z0 (k := 0) | exact EntC.z1 (k := 0) | exact EntC.z2 (k := 0) | exact EntC.z0 | exact EntC.z1 | exact EntC.z2)))))); done))); (case s0 => omega); (case s1 => omega))
         | (apply u_call hA (hc := h); (case hg => (first | exact trivial | exact rfl)); (case hd => exact rfl); (case hcl => exact rfl); (case has => (first | exact Ents.of_eq rfl | ((repeat (first | exact Ents.nil' rfl | (refine Ents.cons' rfl ?_ ?_; focus (first | exact Ent.of_eq rfl | (refine Ent.agg' rfl ?_; (repeat (first | exact EntL.nil' rfl | (refine EntL.cons' rfl ?_ ?_; focus (first | exact EntC.of_eq rfl | (refine EntC.q rfl ?_; omega) | exact Z0 _ | exact Z2 _ | exact EntC.z0 (k := 0) | exact EntC.z1 (k := 0) | exact EntC.z2 (k := 0) | exact EntC.z0 | exact EntC.z1 | exact EntC.z2)))); done) | (refine Ent.one' rfl ?_; (first | exact EntC.of_eq rfl | (refine EntC.q rfl ?_; omega) | exact Z0 _ | exact Z2 _ | exact EntC.z0 (k := 0) | exact EntC.z1 (k := 0) | exact EntC.z2 (k := 0) | exact EntC.z0 | exact EntC.z1 | exact EntC.z2)))))); done))))
         | (apply u_call hA (hc := v_dot ?s0 ?s1); (case hg => (first | exact trivial | exact rfl)); (case hd => exact rfl); (case hcl => exact rfl); (case has => (first | exact Ents.of_eq rfl | ((repeat (first | exact Ents.nil' rfl | (refine Ents.cons' rfl ?_ ?_; focus (first | exact Ent.of_eq rfl | (refine Ent.agg' rfl ?_; (repeat (first | exact EntL.nil' rfl | (refine EntL.cons' rfl ?_ ?_; focus (first | exact EntC.of_eq rfl | (refine EntC.q rfl ?_; omega) | exact Z0 _ | exact Z2 _ | exact EntC.z0 (k := 0) | exact EntC.z1 (k := 0) | exact EntC.z2 (k := 0) | exact EntC.z0 | exact EntC.z1 | exact EntC.z2)))); done) | (refine Ent.one' rfl ?_; (first | exact EntC.of_eq rfl | (refine EntC.q rfl ?_; omega) | exact Z0 _ | exact Z2 _ | exact EntC.z0 (k := 0) | exact EntC.z1 (k := 0) | exact EntC.z2 (k := 0) | exact EntC.z0 | exact EntC.z1 | exact EntC.z2)))))); done))); (case s0 => omega); (case s1 => omega)))
       apply RunK.nil
       refine And.intro (by kernel_rfl) ?_)
    | refine aw_skip ?_
    | refine aw_exit ?_)
  refine aw_ret ?_
  refine And.intro (Or.inr rfl) ?_
  refine fin_two (by first | exact ResIs.tmp rfl | exact ResIs.cell inferInstance rfl rfl rfl rfl) (by first | exact ResIs.tmp rfl | exact ResIs.cell inferInstance rfl rfl rfl rfl) rfl (by first | exact Ent.of_eq rfl | (refine Ent.tup rfl ?_; (repeat (first | exact EntT.nil | (refine EntT.cons ?_ rfl rfl ?_; focus (first | exact Ent.of_eq rfl | (refine Ent.agg' rfl ?_; (repeat (first | exact EntL.nil' rfl | (refine EntL.cons' rfl ?_ ?_; focus (first | exact EntC.of_eq rfl | (refine EntC.q rfl ?_; omega) | exact Z0 _ | exact Z2 _ | exact EntC.z0 (k := 0) | exact EntC.z1 (k := 0) | exact EntC.z2 (k := 0) | exact EntC.z0 | exact EntC.z1 | exact EntC.z2)))); done) | (refine Ent.one' rfl ?_; (first | exact EntC.of_eq rfl | (refine EntC.q rfl ?_; omega) | exact Z0 _ | exact Z2 _ | exact EntC.z0 (k := 0) | exact EntC.z1 (k := 0) | exact EntC.z2 (k := 0) | exact EntC.z0 | exact EntC.z1 | exact EntC.z2)))))); done))
theorem v_side (h1 : j ≤ 100000) (h2 : k ≤ 1000000) (h3 : m ≤ 100000) {n : Int} (h : cmpR (0 + x * u + y * v + z * w) d = n) : Ctr Tryz.prog Amb 43 [pln j x y z k d, pt m u v w] (.one (.v (.int .i64 n))) := by
  subst h
  refine ctr_body Tryz.func43 rfl rfl rfl rfl rfl rfl ?_
  intro W0 base D μ0 hA
  repeat (first
    | refine aw_seq ?_
    | refine aw_block ?_
    | refine aw_condT rfl ?_
    | refine aw_condF rfl ?_
    | (refine aw_plainK (by kernel_rfl) ?_
       repeat (first
         | (apply u_assign; (case hg => first | exact trivial | exact rfl); (case hd => exact rfl); (case hx => exact rfl))
         | (apply u_load; (case hg => first | exact trivial | exact rfl); (case hd => exact rfl); (case hx => exact rfl); (case hz => exact rfl))
         | (apply u_fieldAddr; (case hg => first | exact trivial | exact rfl); (case hd => exact rfl); (case hx => exact rfl))
         | (apply u_box; (case hg => first | exact trivial | exact rfl); (case hd => exact rfl); (case hx => exact rfl); (case hc => exact rfl))
         | (apply u_call hA (hc := v_dot ?s0 ?s1); (case hg => (first | exact trivial | exact rfl)); (case hd => exact rfl); (case hcl => exact rfl); (case has => (first | exact Ents.of_eq rfl | ((repeat (first | exact Ents.nil' rfl | (refine Ents.cons' rfl ?_ ?_; focus (first | exact Ent.of_eq rfl | (refine Ent.agg' rfl ?_; (repeat (first | exact EntL.nil' rfl | (refine EntL.cons' rfl ?_ ?_; focus (first | exact EntC.of_eq rfl | (refine EntC.q rfl ?_; omega) | exact Z0 _ | exact Z2 _ | exact EntC.z0 (k := 0) | exact EntC.z1 (k := 0) | exact EntC.z2 (k := 0) | exact EntC.z0 | exact EntC.z1 | exact EntC.z2)))); done) | (refine Ent.one' rfl ?_; (first | exact EntC.of_eq rfl | (refine EntC.q rfl ?_; omega) | exact Z0 _ | exact Z2 _ | exact EntC.z0 (k := 0) | exact EntC.z1 (k := 0) | exact EntC.z2 (k := 0) | exact EntC.z0 | exact EntC.z1 | exact EntC.z2)))))); done))); (case s0 => omega); (case s1 => omega))
         | (apply u_call hA (hc := c_cmp ?s0 ?s1); (case hg => (first | exact trivial | exact rfl)); (case hd => exact rfl); (case hcl => exact rfl); (case has => (first | exact Ents.of_eq rfl | ((repeat (first | exact Ents.nil' rfl | (refine Ents.cons' rfl ?_ ?_; focus (first | exact Ent.of_eq rfl | (refine Ent.agg' rfl ?_; (repeat (first | exact EntL.nil' rfl | (refine EntL.cons' rfl ?_ ?_; focus (first | exact EntC.of_eq rfl | (refine EntC.q rfl ?_; omega) | exact Z0 _ | exact Z2 _ | exact EntC.z0 (k := 0) | exact EntC.z1 (k := 0) | exact EntC.z2 (k := 0) | exact EntC.z0 | exact EntC.z1 | exact EntC.z2)))); done) | (refine Ent.one' rfl ?_; (first | exact EntC.of_eq rfl | (refine EntC.q rfl ?_; omega) | exact Z0 _ | exact Z2 _ | exact EntC.z0 (k := 0) | exact EntC.z1 (k := 0) | exact EntC.z2 (k := 0) | exact EntC.z0 | exact EntC.z1 | exact EntC.z2)))))); done))); (case s0 => omega); (case s1 => omega)))
       apply RunK.nil)
    | (refine aw_drawK (by kernel_rfl) (by kernel_rfl) (by kernel_rfl) ?_
       repeat (first
         | (apply u_assign; (case hg => first | exact trivial | exact rfl); (case hd => exact rfl); (case hx => exact rfl))
         | (apply u_load; (case hg => first | exact trivial | exact rfl); (case hd => exact rfl); (case hx => exact rfl); (case hz => exact rfl))
         | (apply u_fieldAddr; (case hg => first | exact trivial | exact rfl); (case hd => exact rfl); (case hx => exact rfl))
         | (apply u_box; (case hg => first | exact trivial | exact rfl); (case hd => exact rfl); (case hx => exact rfl); (case hc => exact rfl))
         | (apply u_call hA (hc := v_dot ?s0 ?s1); (case hg => (first | exact trivial | exact rfl)); (case hd => exact rfl); (case hcl => exact rfl); (case has => (first | exact Ents.of_eq rfl | ((repeat (first | exact Ents.nil' rfl | (refine Ents.cons' rfl ?_ ?_; focus (first | exact Ent.of_eq rfl | (refine Ent.agg' rfl ?_; (repeat (first | exact EntL.nil' rfl | (refine EntL.cons' rfl ?_ ?_; focus (first | exact EntC.of_eq rfl | (refine EntC.q rfl ?_; omega) | exact Z0 _ | exact Z2 _ | exact EntC.z0 (k := 0) | exact EntC.z1 (k := 0) | exact EntC.z2 (k := 0) | exact EntC.z0 | exact EntC.z1 | exact EntC.z2)))); done) | (refine Ent.one' rfl ?_; (first | exact EntC.of_eq rfl | (refine EntC.q rfl ?_; omega) | exact Z0 _ | exact Z2 _ | exact EntC.z0 (k := 0) | exact EntC.z1 (k := 0) | exact EntC.z2 (k := 0) | exact EntC.z0 | exact EntC.z1 | exact EntC.z2)))))); done))); (case s0 => omega); (case s1 => omega))
         | (apply u_call hA (hc := c_cmp ?s0 ?s1); (case hg => (first | exact trivial | exact rfl)); (case hd => exact rfl); (case hcl => exact rfl); (case has => (first | exact Ents.of_eq rfl | ((repeat (first | exact Ents.nil' rfl | (refine Ents.cons' rfl ?_ ?_; focus (first | exact Ent.of_eq rfl | (refine Ent.agg' rfl ?_; (repeat (first | exact EntL.nil' rfl | (refine EntL.cons' rfl ?_ ?_; focus (first | exact EntC.of_eq rfl | (refine EntC.q rfl ?_; omega) | exact Z0 _ | exact Z2 _ | exact EntC.z0 (k := 0) | exact EntC.z1 (k := 0) | exact EntC.z2 (k := 0) | exact EntC.z0 | exact EntC.z1 | exact EntC.z2)))); done) | (refine Ent.one' rfl ?_; (first | exact EntC.of_eq rfl | (refine EntC.q rfl ?_; omega) | exact Z0 _ | exact Z2 _ | exact EntC.z0 (k := 0) | exact EntC.z1 (k := 0) | exact EntC.z2 (k := 0) | exact EntC.z0 | exact EntC.z1 | exact EntC.z2)))))); done))); (case s0 => omega); (case s1 => omega)))
       apply RunK.nil
       refine And.intro (by kernel_rfl) ?_)
    | refine aw_skip ?_
    | refine aw_exit ?_)
  refine aw_ret ?_
  refine And.intro (Or.inr rfl) ?_
  refine fin_one (by first | exact ResIs.tmp rfl | exact ResIs.cell inferInstance rfl rfl rfl rfl) (by (first | exact Ent.of_eq rfl | (refine Ent.agg' rfl ?_; (repeat (first | exact EntL.nil' rfl | (refine EntL.cons' rfl ?_ ?_; focus (first | exact EntC.of_eq rfl | (refine EntC.q rfl ?_; omega) | exact Z0 _ | exact Z2 _ | exact EntC.z0 (k := 0) | exact EntC.z1 (k := 0) | exact EntC.z2 (k := 0) | exact EntC.z0 | exact EntC.z1 | exact EntC.z2)))); done) | (refine Ent.one' rfl ?_; (first | exact EntC.of_eq rfl | (refine EntC.q rfl ?_; omega) | exact Z0 _ | exact Z2 _ | exact EntC.z0 (k := 0) | exact EntC.z1 (k := 0) | exact EntC.z2 (k := 0) | exact EntC.z0 | exact EntC.z1 | exact EntC.z2))))
theorem v_side1 (h1 : j ≤ 100000) (h2 : k ≤ 1000000) (h3 : m ≤ 100000) (h : d < 0 + x * u + y * v + z * w) : Ctr Tryz.prog Amb 43 [pln j x y z k d, pt m u v w] (.one (.v (.int .i64 1))) := v_side h1 h2 h3 (cmp1 h)
theorem v_orient2 (h1 : j ≤ 10000) (h2 : k ≤ 10000) (h3 : m ≤ 10000) {n : Int} (h : cmpR ((x - a) * (v - b)) ((y - b) * (u - a)) = n) : Ctr Tryz.prog Amb 37 [pt j a b c, pt k x y z, pt m u v w] (.one (.v (.int .i64 n))) := by
  subst h
  have M1 := c_mul (j := k + j + 3) (k := m + j + 3) (x := x - a) (y := v - b) (by omega) (by omega)
  have M2 := c_mul (j := k + j + 3) (k := m + j + 3) (x := y - b) (y := u - a) (by omega) (by omega)
  have M3 := c_cmp (j := k + j + 3 + (m + j + 3) + 2) (k := k + j + 3 + (m + j + 3) + 2) (x := (x - a) * (v - b)) (y := (y - b) * (u - a)) (by omega) (by omega)
  refine ctr_body Tryz.func37 rfl rfl rfl rfl rfl rfl ?_
  intro W0 base D μ0 hA
  repeat (first
    | refine aw_seq ?_
    | refine aw_block ?_
    | refine aw_condT rfl ?_
    | refine aw_condF rfl ?_
    | refine aw_loopN 6 ?_
    | (refine aw_plainK (by kernel_rfl) ?_
       repeat (first
         | (apply u_move; (case hg => first | exact trivial | exact rfl); (case hd => exact rfl); (case hx => exact rfl))
         | (apply u_assign; (case hg => first | exact trivial | exact rfl); (case hd => exact rfl); (case hx => exact rfl))
         | (apply u_load; (case hg => first | exact trivial | exact rfl); (case hd => exact rfl); (case hx => exact rfl); (case hz => exact rfl))
         | (apply u_store; (case hg => first | exact trivial | exact rfl); (case hd => exact rfl); (case hx => exact rfl); (case hy => exact rfl); (case hc => kernel_rfl))
         | (apply u_box; (case hg => first | exact trivial | exact rfl); (case hd => exact rfl); (case hx => exact rfl); (case hc => exact rfl))
         | (apply u_alloc; (case hg => first | exact trivial | exact rfl); (case hd => exact rfl); (case hf => exact rfl))
         | (apply u_bin; (case hg => first | exact trivial | exact rfl); (case hd => exact rfl); (case hx => exact rfl); (case hy => exact rfl); (case hc => (first | exact (rfl : _ = some (Value.int _ 1)) | exact (rfl : _ = some (Value.int _ 2)) | exact (rfl : _ = some (Value.int _ 3)) | exact (rfl : _ = some (Value.int _ 0)) | exact (rfl : _ = some (Value.int _ 4)) | exact (rfl : _ = some (Value.int _ 5)) | exact (rfl : _ = some (Value.bool true)) | exact (rfl : _ = some (Value.bool false)) | exact rfl)))
         | (apply u_indexAddrTo 0; (case hg => (first | exact trivial | exact rfl)); (case hd => exact rfl); (case hx => exact rfl); (case hy => exact rfl); (case hc => exact rfl))
         | (apply u_indexAddrTo 3; (case hg => (first | exact trivial | exact rfl)); (case hd => exact rfl); (case hx => exact rfl); (case hy => exact rfl); (case hc => exact rfl))
         | (apply u_indexAddrTo 6; (case hg => (first | exact trivial | exact rfl)); (case hd => exact rfl); (case hx => exact rfl); (case hy => exact rfl); (case hc => exact rfl))
         | (apply u_indexAddr; (case hg => first | exact trivial | exact rfl); (case hd => exact rfl); (case hx => exact rfl); (case hy => exact rfl); (case hc => exact rfl))
         | (apply u_allocAt 1000; (case hg => (first | exact trivial | exact rfl)); (case hd => exact rfl); (case hf => exact rfl))
         | (apply u_boxAt 1000; (case hg => (first | exact trivial | exact rfl)); (case hd => exact rfl); (case hx => exact rfl); (case hc => exact rfl))
         | (apply u_allocAt 2000; (case hg => (first | exact trivial | exact rfl)); (case hd => exact rfl); (case hf => exact rfl))
         | (apply u_boxAt 2000; (case hg => (first | exact trivial | exact rfl)); (case hd => exact rfl); (case hx => exact rfl); (case hc => exact rfl))
         | (apply u_call hA (hc := c_sub ?s0 ?s1); (case hg => (first | exact trivial | exact rfl)); (case hd => exact rfl); (case hcl => exact rfl); (case has => (first | exact Ents.of_eq rfl | ((repeat (first | exact Ents.nil' rfl | (refine Ents.cons' rfl ?_ ?_; focus (first | exact Ent.of_eq rfl | (refine Ent.agg' rfl ?_; (repeat (first | exact EntL.nil' rfl | (refine EntL.cons' rfl ?_ ?_; focus (first | exact EntC.of_eq rfl | (refine EntC.q rfl ?_; omega) | exact Z0 _ | exact Z2 _ | exact EntC.z0 (k := 0) | exact EntC.z1 (k := 0) | exact EntC.z2 (k := 0) | exact EntC.z0 | exact EntC.z1 | exact EntC.z2)))); done) | (refine Ent.one' rfl ?_; (first | exact EntC.of_eq rfl | (refine EntC.q rfl ?_; omega) | exact Z0 _ | exact Z2 _ | exact EntC.z0 (k := 0) | exact EntC.z1 (k := 0) | exact EntC.z2 (k := 0) | exact EntC.z0 | exact EntC.z1 | exact EntC.z2)))))); done))); (case s0 => omega); (case s1 => omega))
         | (apply u_call (dst := some 36) hA (hc := M1); (case hg => trivial); (case hd => rfl); (case hcl => rfl); (case has => exact Ents.of_eq (by kernel_rfl)))
         | (apply u_call (dst := some 41) hA (hc := M2); (case hg => trivial); (case hd => rfl); (case hcl => rfl); (case has => exact Ents.of_eq (by kernel_rfl)))
         | (apply u_call (dst := some 42) hA (hc := M3); (case hg => trivial); (case hd => rfl); (case hcl => rfl); (case has => exact Ents.of_eq (by kernel_rfl))))
       apply RunK.nil)
    | (refine aw_drawK (by kernel_rfl) (by kernel_rfl) (by kernel_rfl) ?_
       repeat (first
         | (apply u_move; (case hg => first | exact trivial | exact rfl); (case hd => exact rfl); (case hx => exact rfl))
         | (apply u_assign; (case hg => first | exact trivial | exact rfl); (case hd => exact rfl); (case hx => exact rfl))
         | (apply u_load; (case hg => first | exact trivial | exact rfl); (case hd => exact rfl); (case hx => exact rfl); (case hz => exact rfl))
         | (apply u_store; (case hg => first | exact trivial | exact rfl); (case hd => exact rfl); (case hx => exact rfl); (case hy => exact rfl); (case hc => kernel_rfl))
         | (apply u_box; (case hg => first | exact trivial | exact rfl); (case hd => exact rfl); (case hx => exact rfl); (case hc => exact rfl))
         | (apply u_alloc; (case hg => first | exact trivial | exact rfl); (case hd => exact rfl); (case hf => exact rfl))
         | (apply u_bin; (case hg => first | exact trivial | exact rfl); (case hd => exact rfl); (case hx => exact rfl); (case hy => exact rfl); (case hc => (first | exact (rfl : _ = some (Value.int _ 1)) | exact (rfl : _ = some (Value.int _ 2)) | exact (rfl : _ = some (Value.int _ 3)) | exact (rfl : _ = some (Value.int _ 0)) | exact (rfl : _ = some (Value.int _ 4)) | exact (rfl : _ = some (Value.int _ 5)) | exact (rfl : _ = some (Value.bool true)) | exact (rfl : _ = some (Value.bool false)) | exact rfl)))
         | (apply u_indexAddrTo 0; (case hg => (first | exact trivial | exact rfl)); (case hd => exact rfl); (case hx => exact rfl); (case hy => exact rfl); (case hc => exact rfl))
         | (apply u_indexAddrTo 3; (case hg => (first | exact trivial | exact rfl)); (case hd => exact rfl); (case hx => exact rfl); (case hy => exact rfl); (case hc => exact rfl))
         | (apply u_indexAddrTo 6; (case hg => (first | exact trivial | exact rfl)); (case hd => exact rfl); (case hx => exact rfl); (case hy => exact rfl); (case hc => exact rfl))
         | (apply u_indexAddr; (case hg => first | exact trivial | exact rfl); (case hd => exact rfl); (case hx => exact rfl); (case hy => exact rfl); (case hc => exact rfl))
         | (apply u_allocAt 1000; (case hg => (first | exact trivial | exact rfl)); (case hd => exact rfl); (case hf => exact rfl))
         | (apply u_boxAt 1000; (case hg => (first | exact trivial | exact rfl)); (case hd => exact rfl); (case hx => exact rfl); (case hc => exact rfl))
         | (apply u_allocAt 2000; (case hg => (first | exact trivial | exact rfl)); (case hd => exact rfl); (case hf => exact rfl))
         | (apply u_boxAt 2000; (case hg => (first | exact trivial | exact rfl)); (case hd => exact rfl); (case hx => exact rfl); (case hc => exact rfl))
         | (apply u_call hA (hc := c_sub ?s0 ?s1); (case hg => (first | exact trivial | exact rfl)); (case hd => exact rfl); (case hcl => exact rfl); (case has => (first | exact Ents.of_eq rfl | ((repeat (first | exact Ents.nil' rfl | (refine Ents.cons' rfl ?_ ?_; focus (first | exact Ent.of_eq rfl | (refine Ent.agg' rfl ?_; (repeat (first | exact EntL.nil' rfl | (refine EntL.cons' rfl ?_ ?_; focus (first | exact EntC.of_eq rfl | (refine EntC.q rfl ?_; omega) | exact Z0 _ | exact Z2 _ | exact EntC.z0 (k := 0) | exact EntC.z1 (k := 0) | exact EntC.z2 (k := 0) | exact EntC.z0 | exact EntC.z1 | exact EntC.z2)))); done) | (refine Ent.one' rfl ?_; (first | exact EntC.of_eq rfl | (refine EntC.q rfl ?_; omega) | exact Z0 _ | exact Z2 _ | exact EntC.z0 (k := 0) | exact EntC.z1 (k := 0) | exact EntC.z2 (k := 0) | exact EntC.z0 | exact EntC.z1 | exact EntC.z2)))))); done))); (case s0 => omega); (case s1 => omega))
         | (apply u_call (dst := some 36) hA (hc := M1); (case hg => trivial); (case hd => rfl); (case hcl => rfl); (case has => exact Ents.of_eq (by kernel_rfl)))
         | (apply u_call (dst := some 41) hA (hc := M2); (case hg => trivial); (case hd => rfl); (case hcl => rfl); (case has => exact Ents.of_eq (by kernel_rfl)))
         | (apply u_call (dst := some 42) hA (hc := M3); (case hg => trivial); (case hd => rfl); (case hcl => rfl); (case has => exact Ents.of_eq (by kernel_rfl))))
       apply RunK.nil
       refine And.intro (by kernel_rfl) ?_)
    | refine aw_skip ?_
    | refine aw_exit ?_)
  refine aw_ret ?_
  refine And.intro (Or.inr rfl) ?_
  refine fin_one (by first | exact ResIs.tmp rfl | exact ResIs.cell inferInstance rfl rfl rfl rfl) (by (first | exact Ent.of_eq rfl | (refine Ent.agg' rfl ?_; (repeat (first | exact EntL.nil' rfl | (refine EntL.cons' rfl ?_ ?_; focus (first | exact EntC.of_eq rfl | (refine EntC.q rfl ?_; omega) | exact Z0 _ | exact Z2 _ | exact EntC.z0 (k := 0) | exact EntC.z1 (k := 0) | exact EntC.z2 (k := 0) | exact EntC.z0 | exact EntC.z1 | exact EntC.z2)))); done) | (refine Ent.one' rfl ?_; (first | exact EntC.of_eq rfl | (refine EntC.q rfl ?_; omega) | exact Z0 _ | exact Z2 _ | exact EntC.z0 (k := 0) | exact EntC.z1 (k := 0) | exact EntC.z2 (k := 0) | exact EntC.z0 | exact EntC.z1 | exact EntC.z2))))
end

theorem awake_ok : Ctr Tryz.prog Amb 12 [] (.one (.v (.bool true))) := by
  have T := v_through (j := 0) (k := 2) (m := 2) (a := 0) (b := 0) (c := 0) (x := 1) (y := 0) (z := 0) (u := 0) (v := 1) (w := 0) (by decide) (by decide) (by decide) (v_zeroF (by grind) (by grind) (by grind))
  have O := v_orient2 (j := 0) (k := 2) (m := 2) (a := 0) (b := 0) (c := 0) (x := 1) (y := 0) (z := 0) (u := 0) (v := 1) (w := 0) (by decide) (by decide) (by decide) (cmp1 (by grind))
  refine ctr_body Tryz.func12 rfl rfl rfl rfl rfl rfl ?_
  intro W0 base D μ0 hA
  repeat (first
    | refine aw_seq ?_
    | refine aw_block ?_
    | refine aw_condT rfl ?_
    | refine aw_condF rfl ?_
    | (refine aw_plainK (by kernel_rfl) ?_
       repeat (first
         | (apply u_skip; (case hg => exact rfl))
         | (apply u_move; (case hg => first | exact trivial | exact rfl); (case hd => exact rfl); (case hx => exact rfl))
         | (apply u_assign; (case hg => first | exact trivial | exact rfl); (case hd => exact rfl); (case hx => exact rfl))
         | (apply u_load; (case hg => first | exact trivial | exact rfl); (case hd => exact rfl); (case hx => exact rfl); (case hz => exact rfl))
         | (apply u_fieldAddr; (case hg => first | exact trivial | exact rfl); (case hd => exact rfl); (case hx => exact rfl))
         | (apply u_store; (case hg => first | exact trivial | exact rfl); (case hd => exact rfl); (case hx => exact rfl); (case hy => exact rfl); (case hc => kernel_rfl))
         | (apply u_alloc; (case hg => first | exact trivial | exact rfl); (case hd => exact rfl); (case hf => exact rfl))
         | (apply u_buildS; (case hg => first | exact trivial | exact rfl); (case hd => exact rfl); (case hx => exact rfl); (case hy => exact rfl); (case hc => exact rfl))
         | (apply u_buildA; (case hg => first | exact trivial | exact rfl); (case hd => exact rfl); (case hx => exact rfl); (case hy => exact rfl); (case hc => exact rfl))
         | (apply u_extract; (case hg => first | exact trivial | exact rfl); (case hd => exact rfl); (case hx => exact rfl); (case hc => exact rfl))
         | (apply u_bin; (case hg => first | exact trivial | exact rfl); (case hd => exact rfl); (case hx => exact rfl); (case hy => exact rfl); (case hc => exact rfl))
         | (apply u_pickT; (case hg => first | exact trivial | exact rfl); (case hd => exact rfl); (case hc => exact rfl); (case hx => exact rfl))
         | (apply u_pickF; (case hg => first | exact trivial | exact rfl); (case hd => exact rfl); (case hc => exact rfl); (case hx => exact rfl))
         | (apply u_eqBool; (case hg => first | exact trivial | exact rfl); (case hd => exact rfl); (case hx => exact rfl); (case hy => exact rfl))
         | (apply u_call hA (hc := w_unit0); (case hg => (first | exact trivial | exact rfl)); (case hd => exact rfl); (case hcl => exact rfl); (case has => (first | exact Ents.of_eq rfl | ((repeat (first | exact Ents.nil' rfl | (refine Ents.cons' rfl ?_ ?_; focus (first | exact Ent.of_eq rfl | (refine Ent.agg' rfl ?_; (repeat (first | exact EntL.nil' rfl | (refine EntL.cons' rfl ?_ ?_; focus (first | exact EntC.of_eq rfl | (refine EntC.q rfl ?_; omega) | exact Z0 _ | exact Z2 _ | exact EntC.z0 (k := 0) | exact EntC.z1 (k := 0) | exact EntC.z2 (k := 0) | exact EntC.z0 | exact EntC.z1 | exact EntC.z2)))); done) | (refine Ent.one' rfl ?_; (first | exact EntC.of_eq rfl | (refine EntC.q rfl ?_; omega) | exact Z0 _ | exact Z2 _ | exact EntC.z0 (k := 0) | exact EntC.z1 (k := 0) | exact EntC.z2 (k := 0) | exact EntC.z0 | exact EntC.z1 | exact EntC.z2)))))); done))))
         | (apply u_call hA (hc := w_unit1); (case hg => (first | exact trivial | exact rfl)); (case hd => exact rfl); (case hcl => exact rfl); (case has => (first | exact Ents.of_eq rfl | ((repeat (first | exact Ents.nil' rfl | (refine Ents.cons' rfl ?_ ?_; focus (first | exact Ent.of_eq rfl | (refine Ent.agg' rfl ?_; (repeat (first | exact EntL.nil' rfl | (refine EntL.cons' rfl ?_ ?_; focus (first | exact EntC.of_eq rfl | (refine EntC.q rfl ?_; omega) | exact Z0 _ | exact Z2 _ | exact EntC.z0 (k := 0) | exact EntC.z1 (k := 0) | exact EntC.z2 (k := 0) | exact EntC.z0 | exact EntC.z1 | exact EntC.z2)))); done) | (refine Ent.one' rfl ?_; (first | exact EntC.of_eq rfl | (refine EntC.q rfl ?_; omega) | exact Z0 _ | exact Z2 _ | exact EntC.z0 (k := 0) | exact EntC.z1 (k := 0) | exact EntC.z2 (k := 0) | exact EntC.z0 | exact EntC.z1 | exact EntC.z2)))))); done))))
         | (apply u_call hA (hc := w_unit2); (case hg => (first | exact trivial | exact rfl)); (case hd => exact rfl); (case hcl => exact rfl); (case has => (first | exact Ents.of_eq rfl | ((repeat (first | exact Ents.nil' rfl | (refine Ents.cons' rfl ?_ ?_; focus (first | exact Ent.of_eq rfl | (refine Ent.agg' rfl ?_; (repeat (first | exact EntL.nil' rfl | (refine EntL.cons' rfl ?_ ?_; focus (first | exact EntC.of_eq rfl | (refine EntC.q rfl ?_; omega) | exact Z0 _ | exact Z2 _ | exact EntC.z0 (k := 0) | exact EntC.z1 (k := 0) | exact EntC.z2 (k := 0) | exact EntC.z0 | exact EntC.z1 | exact EntC.z2)))); done) | (refine Ent.one' rfl ?_; (first | exact EntC.of_eq rfl | (refine EntC.q rfl ?_; omega) | exact Z0 _ | exact Z2 _ | exact EntC.z0 (k := 0) | exact EntC.z1 (k := 0) | exact EntC.z2 (k := 0) | exact EntC.z0 | exact EntC.z1 | exact EntC.z2)))))); done))))
         | (apply u_call hA (hc := T); (case hg => (first | exact trivial | exact rfl)); (case hd => exact rfl); (case hcl => exact rfl); (case has => (first | exact Ents.of_eq rfl | ((repeat (first | exact Ents.nil' rfl | (refine Ents.cons' rfl ?_ ?_; focus (first | exact Ent.of_eq rfl | (refine Ent.agg' rfl ?_; (repeat (first | exact EntL.nil' rfl | (refine EntL.cons' rfl ?_ ?_; focus (first | exact EntC.of_eq rfl | (refine EntC.q rfl ?_; omega) | exact Z0 _ | exact Z2 _ | exact EntC.z0 (k := 0) | exact EntC.z1 (k := 0) | exact EntC.z2 (k := 0) | exact EntC.z0 | exact EntC.z1 | exact EntC.z2)))); done) | (refine Ent.one' rfl ?_; (first | exact EntC.of_eq rfl | (refine EntC.q rfl ?_; omega) | exact Z0 _ | exact Z2 _ | exact EntC.z0 (k := 0) | exact EntC.z1 (k := 0) | exact EntC.z2 (k := 0) | exact EntC.z0 | exact EntC.z1 | exact EntC.z2)))))); done))))
         | (apply u_call hA (hc := O); (case hg => (first | exact trivial | exact rfl)); (case hd => exact rfl); (case hcl => exact rfl); (case has => (first | exact Ents.of_eq rfl | ((repeat (first | exact Ents.nil' rfl | (refine Ents.cons' rfl ?_ ?_; focus (first | exact Ent.of_eq rfl | (refine Ent.agg' rfl ?_; (repeat (first | exact EntL.nil' rfl | (refine EntL.cons' rfl ?_ ?_; focus (first | exact EntC.of_eq rfl | (refine EntC.q rfl ?_; omega) | exact Z0 _ | exact Z2 _ | exact EntC.z0 (k := 0) | exact EntC.z1 (k := 0) | exact EntC.z2 (k := 0) | exact EntC.z0 | exact EntC.z1 | exact EntC.z2)))); done) | (refine Ent.one' rfl ?_; (first | exact EntC.of_eq rfl | (refine EntC.q rfl ?_; omega) | exact Z0 _ | exact Z2 _ | exact EntC.z0 (k := 0) | exact EntC.z1 (k := 0) | exact EntC.z2 (k := 0) | exact EntC.z0 | exact EntC.z1 | exact EntC.z2)))))); done))))
         | (apply u_call hA (hc := w_sameT ?s0 ?s1 ?s2); (case hg => (first | exact trivial | exact rfl)); (case hd => exact rfl); (case hcl => exact rfl); (case has => (first | exact Ents.of_eq rfl | ((repeat (first | exact Ents.nil' rfl | (refine Ents.cons' rfl ?_ ?_; focus (first | exact Ent.of_eq rfl | (refine Ent.agg' rfl ?_; (repeat (first | exact EntL.nil' rfl | (refine EntL.cons' rfl ?_ ?_; focus (first | exact EntC.of_eq rfl | (refine EntC.q rfl ?_; omega) | exact Z0 _ | exact Z2 _ | exact EntC.z0 (k := 0) | exact EntC.z1 (k := 0) | exact EntC.z2 (k := 0) | exact EntC.z0 | exact EntC.z1 | exact EntC.z2)))); done) | (refine Ent.one' rfl ?_; (first | exact EntC.of_eq rfl | (refine EntC.q rfl ?_; omega) | exact Z0 _ | exact Z2 _ | exact EntC.z0 (k := 0) | exact EntC.z1 (k := 0) | exact EntC.z2 (k := 0) | exact EntC.z0 | exact EntC.z1 | exact EntC.z2)))))); done))); (case s0 => grind); (case s1 => grind); (case s2 => grind))
         | (apply u_call hA (hc := v_cross ?s0 ?s1); (case hg => (first | exact trivial | exact rfl)); (case hd => exact rfl); (case hcl => exact rfl); (case has => (first | exact Ents.of_eq rfl | ((repeat (first | exact Ents.nil' rfl | (refine Ents.cons' rfl ?_ ?_; focus (first | exact Ent.of_eq rfl | (refine Ent.agg' rfl ?_; (repeat (first | exact EntL.nil' rfl | (refine EntL.cons' rfl ?_ ?_; focus (first | exact EntC.of_eq rfl | (refine EntC.q rfl ?_; omega) | exact Z0 _ | exact Z2 _ | exact EntC.z0 (k := 0) | exact EntC.z1 (k := 0) | exact EntC.z2 (k := 0) | exact EntC.z0 | exact EntC.z1 | exact EntC.z2)))); done) | (refine Ent.one' rfl ?_; (first | exact EntC.of_eq rfl | (refine EntC.q rfl ?_; omega) | exact Z0 _ | exact Z2 _ | exact EntC.z0 (k := 0) | exact EntC.z1 (k := 0) | exact EntC.z2 (k := 0) | exact EntC.z0 | exact EntC.z1 | exact EntC.z2)))))); done))); (case s0 => omega); (case s1 => omega))
         | (apply u_call hA (hc := v_add ?s0 ?s1); (case hg => (first | exact trivial | exact rfl)); (case hd => exact rfl); (case hcl => exact rfl); (case has => (first | exact Ents.of_eq rfl | ((repeat (first | exact Ents.nil' rfl | (refine Ents.cons' rfl ?_ ?_; focus (first | exact Ent.of_eq rfl | (refine Ent.agg' rfl ?_; (repeat (first | exact EntL.nil' rfl | (refine EntL.cons' rfl ?_ ?_; focus (first | exact EntC.of_eq rfl | (refine EntC.q rfl ?_; omega) | exact Z0 _ | exact Z2 _ | exact EntC.z0 (k := 0) | exact EntC.z1 (k := 0) | exact EntC.z2 (k := 0) | exact EntC.z0 | exact EntC.z1 | exact EntC.z2)))); done) | (refine Ent.one' rfl ?_; (first | exact EntC.of_eq rfl | (refine EntC.q rfl ?_; omega) | exact Z0 _ | exact Z2 _ | exact EntC.z0 (k := 0) | exact EntC.z1 (k := 0) | exact EntC.z2 (k := 0) | exact EntC.z0 | exact EntC.z1 | exact EntC.z2)))))); done))); (case s0 => omega); (case s1 => omega))
         | (apply u_call hA (hc := v_side1 ?s0 ?s1 ?s2 ?s3); (case hg => (first | exact trivial | exact rfl)); (case hd => exact rfl); (case hcl => exact rfl); (case has => (first | exact Ents.of_eq rfl | ((repeat (first | exact Ents.nil' rfl | (refine Ents.cons' rfl ?_ ?_; focus (first | exact Ent.of_eq rfl | (refine Ent.agg' rfl ?_; (repeat (first | exact EntL.nil' rfl | (refine EntL.cons' rfl ?_ ?_; focus (first | exact EntC.of_eq rfl | (refine EntC.q rfl ?_; omega) | exact Z0 _ | exact Z2 _ | exact EntC.z0 (k := 0) | exact EntC.z1 (k := 0) | exact EntC.z2 (k := 0) | exact EntC.z0 | exact EntC.z1 | exact EntC.z2)))); done) | (refine Ent.one' rfl ?_; (first | exact EntC.of_eq rfl | (refine EntC.q rfl ?_; omega) | exact Z0 _ | exact Z2 _ | exact EntC.z0 (k := 0) | exact EntC.z1 (k := 0) | exact EntC.z2 (k := 0) | exact EntC.z0 | exact EntC.z1 | exact EntC.z2)))))); done))); (case s0 => omega); (case s1 => omega); (case s2 => omega); (case s3 => grind)))
       apply RunK.nil)
    | (refine aw_drawK (by kernel_rfl) (by kernel_rfl) (by kernel_rfl) ?_
       repeat (first
         | (apply u_skip; (case hg => exact rfl))
         | (apply u_move; (case hg => first | exact trivial | exact rfl); (case hd => exact rfl); (case hx => exact rfl))
         | (apply u_assign; (case hg => first | exact trivial | exact rfl); (case hd => exact rfl); (case hx => exact rfl))
         | (apply u_load; (case hg => first | exact trivial | exact rfl); (case hd => exact rfl); (case hx => exact rfl); (case hz => exact rfl))
         | (apply u_fieldAddr; (case hg => first | exact trivial | exact rfl); (case hd => exact rfl); (case hx => exact rfl))
         | (apply u_store; (case hg => first | exact trivial | exact rfl); (case hd => exact rfl); (case hx => exact rfl); (case hy => exact rfl); (case hc => kernel_rfl))
         | (apply u_alloc; (case hg => first | exact trivial | exact rfl); (case hd => exact rfl); (case hf => exact rfl))
         | (apply u_buildS; (case hg => first | exact trivial | exact rfl); (case hd => exact rfl); (case hx => exact rfl); (case hy => exact rfl); (case hc => exact rfl))
         | (apply u_buildA; (case hg => first | exact trivial | exact rfl); (case hd => exact rfl); (case hx => exact rfl); (case hy => exact rfl); (case hc => exact rfl))
         | (apply u_extract; (case hg => first | exact trivial | exact rfl); (case hd => exact rfl); (case hx => exact rfl); (case hc => exact rfl))
         | (apply u_bin; (case hg => first | exact trivial | exact rfl); (case hd => exact rfl); (case hx => exact rfl); (case hy => exact rfl); (case hc => exact rfl))
         | (apply u_pickT; (case hg => first | exact trivial | exact rfl); (case hd => exact rfl); (case hc => exact rfl); (case hx => exact rfl))
         | (apply u_pickF; (case hg => first | exact trivial | exact rfl); (case hd => exact rfl); (case hc => exact rfl); (case hx => exact rfl))
         | (apply u_eqBool; (case hg => first | exact trivial | exact rfl); (case hd => exact rfl); (case hx => exact rfl); (case hy => exact rfl))
         | (apply u_call hA (hc := w_unit0); (case hg => (first | exact trivial | exact rfl)); (case hd => exact rfl); (case hcl => exact rfl); (case has => (first | exact Ents.of_eq rfl | ((repeat (first | exact Ents.nil' rfl | (refine Ents.cons' rfl ?_ ?_; focus (first | exact Ent.of_eq rfl | (refine Ent.agg' rfl ?_; (repeat (first | exact EntL.nil' rfl | (refine EntL.cons' rfl ?_ ?_; focus (first | exact EntC.of_eq rfl | (refine EntC.q rfl ?_; omega) | exact Z0 _ | exact Z2 _ | exact EntC.z0 (k := 0) | exact EntC.z1 (k := 0) | exact EntC.z2 (k := 0) | exact EntC.z0 | exact EntC.z1 | exact EntC.z2)))); done) | (refine Ent.one' rfl ?_; (first | exact EntC.of_eq rfl | (refine EntC.q rfl ?_; omega) | exact Z0 _ | exact Z2 _ | exact EntC.z0 (k := 0) | exact EntC.z1 (k := 0) | exact EntC.z2 (k := 0) | exact EntC.z0 | exact EntC.z1 | exact EntC.z2)))))); done))))
         | (apply u_call hA (hc := w_unit1); (case hg => (first | exact trivial | exact rfl)); (case hd => exact rfl); (case hcl => exact rfl); (case has => (first | exact Ents.of_eq rfl | ((repeat (first | exact Ents.nil' rfl | (refine Ents.cons' rfl ?_ ?_; focus (first | exact Ent.of_eq rfl | (refine Ent.agg' rfl ?_; (repeat (first | exact EntL.nil' rfl | (refine EntL.cons' rfl ?_ ?_; focus (first | exact EntC.of_eq rfl | (refine EntC.q rfl ?_; omega) | exact Z0 _ | exact Z2 _ | exact EntC.z0 (k := 0) | exact EntC.z1 (k := 0) | exact EntC.z2 (k := 0) | exact EntC.z0 | exact EntC.z1 | exact EntC.z2)))); done) | (refine Ent.one' rfl ?_; (first | exact EntC.of_eq rfl | (refine EntC.q rfl ?_; omega) | exact Z0 _ | exact Z2 _ | exact EntC.z0 (k := 0) | exact EntC.z1 (k := 0) | exact EntC.z2 (k := 0) | exact EntC.z0 | exact EntC.z1 | exact EntC.z2)))))); done))))
         | (apply u_call hA (hc := w_unit2); (case hg => (first | exact trivial | exact rfl)); (case hd => exact rfl); (case hcl => exact rfl); (case has => (first | exact Ents.of_eq rfl | ((repeat (first | exact Ents.nil' rfl | (refine Ents.cons' rfl ?_ ?_; focus (first | exact Ent.of_eq rfl | (refine Ent.agg' rfl ?_; (repeat (first | exact EntL.nil' rfl | (refine EntL.cons' rfl ?_ ?_; focus (first | exact EntC.of_eq rfl | (refine EntC.q rfl ?_; omega) | exact Z0 _ | exact Z2 _ | exact EntC.z0 (k := 0) | exact EntC.z1 (k := 0) | exact EntC.z2 (k := 0) | exact EntC.z0 | exact EntC.z1 | exact EntC.z2)))); done) | (refine Ent.one' rfl ?_; (first | exact EntC.of_eq rfl | (refine EntC.q rfl ?_; omega) | exact Z0 _ | exact Z2 _ | exact EntC.z0 (k := 0) | exact EntC.z1 (k := 0) | exact EntC.z2 (k := 0) | exact EntC.z0 | exact EntC.z1 | exact EntC.z2)))))); done))))
         | (apply u_call hA (hc := T); (case hg => (first | exact trivial | exact rfl)); (case hd => exact rfl); (case hcl => exact rfl); (case has => (first | exact Ents.of_eq rfl | ((repeat (first | exact Ents.nil' rfl | (refine Ents.cons' rfl ?_ ?_; focus (first | exact Ent.of_eq rfl | (refine Ent.agg' rfl ?_; (repeat (first | exact EntL.nil' rfl | (refine EntL.cons' rfl ?_ ?_; focus (first | exact EntC.of_eq rfl | (refine EntC.q rfl ?_; omega) | exact Z0 _ | exact Z2 _ | exact EntC.z0 (k := 0) | exact EntC.z1 (k := 0) | exact EntC.z2 (k := 0) | exact EntC.z0 | exact EntC.z1 | exact EntC.z2)))); done) | (refine Ent.one' rfl ?_; (first | exact EntC.of_eq rfl | (refine EntC.q rfl ?_; omega) | exact Z0 _ | exact Z2 _ | exact EntC.z0 (k := 0) | exact EntC.z1 (k := 0) | exact EntC.z2 (k := 0) | exact EntC.z0 | exact EntC.z1 | exact EntC.z2)))))); done))))
         | (apply u_call hA (hc := O); (case hg => (first | exact trivial | exact rfl)); (case hd => exact rfl); (case hcl => exact rfl); (case has => (first | exact Ents.of_eq rfl | ((repeat (first | exact Ents.nil' rfl | (refine Ents.cons' rfl ?_ ?_; focus (first | exact Ent.of_eq rfl | (refine Ent.agg' rfl ?_; (repeat (first | exact EntL.nil' rfl | (refine EntL.cons' rfl ?_ ?_; focus (first | exact EntC.of_eq rfl | (refine EntC.q rfl ?_; omega) | exact Z0 _ | exact Z2 _ | exact EntC.z0 (k := 0) | exact EntC.z1 (k := 0) | exact EntC.z2 (k := 0) | exact EntC.z0 | exact EntC.z1 | exact EntC.z2)))); done) | (refine Ent.one' rfl ?_; (first | exact EntC.of_eq rfl | (refine EntC.q rfl ?_; omega) | exact Z0 _ | exact Z2 _ | exact EntC.z0 (k := 0) | exact EntC.z1 (k := 0) | exact EntC.z2 (k := 0) | exact EntC.z0 | exact EntC.z1 | exact EntC.z2)))))); done))))
         | (apply u_call hA (hc := w_sameT ?s0 ?s1 ?s2); (case hg => (first | exact trivial | exact rfl)); (case hd => exact rfl); (case hcl => exact rfl); (case has => (first | exact Ents.of_eq rfl | ((repeat (first | exact Ents.nil' rfl | (refine Ents.cons' rfl ?_ ?_; focus (first | exact Ent.of_eq rfl | (refine Ent.agg' rfl ?_; (repeat (first | exact EntL.nil' rfl | (refine EntL.cons' rfl ?_ ?_; focus (first | exact EntC.of_eq rfl | (refine EntC.q rfl ?_; omega) | exact Z0 _ | exact Z2 _ | exact EntC.z0 (k := 0) | exact EntC.z1 (k := 0) | exact EntC.z2 (k := 0) | exact EntC.z0 | exact EntC.z1 | exact EntC.z2)))); done) | (refine Ent.one' rfl ?_; (first | exact EntC.of_eq rfl | (refine EntC.q rfl ?_; omega) | exact Z0 _ | exact Z2 _ | exact EntC.z0 (k := 0) | exact EntC.z1 (k := 0) | exact EntC.z2 (k := 0) | exact EntC.z0 | exact EntC.z1 | exact EntC.z2)))))); done))); (case s0 => grind); (case s1 => grind); (case s2 => grind))
         | (apply u_call hA (hc := v_cross ?s0 ?s1); (case hg => (first | exact trivial | exact rfl)); (case hd => exact rfl); (case hcl => exact rfl); (case has => (first | exact Ents.of_eq rfl | ((repeat (first | exact Ents.nil' rfl | (refine Ents.cons' rfl ?_ ?_; focus (first | exact Ent.of_eq rfl | (refine Ent.agg' rfl ?_; (repeat (first | exact EntL.nil' rfl | (refine EntL.cons' rfl ?_ ?_; focus (first | exact EntC.of_eq rfl | (refine EntC.q rfl ?_; omega) | exact Z0 _ | exact Z2 _ | exact EntC.z0 (k := 0) | exact EntC.z1 (k := 0) | exact EntC.z2 (k := 0) | exact EntC.z0 | exact EntC.z1 | exact EntC.z2)))); done) | (refine Ent.one' rfl ?_; (first | exact EntC.of_eq rfl | (refine EntC.q rfl ?_; omega) | exact Z0 _ | exact Z2 _ | exact EntC.z0 (k := 0) | exact EntC.z1 (k := 0) | exact EntC.z2 (k := 0) | exact EntC.z0 | exact EntC.z1 | exact EntC.z2)))))); done))); (case s0 => omega); (case s1 => omega))
         | (apply u_call hA (hc := v_add ?s0 ?s1); (case hg => (first | exact trivial | exact rfl)); (case hd => exact rfl); (case hcl => exact rfl); (case has => (first | exact Ents.of_eq rfl | ((repeat (first | exact Ents.nil' rfl | (refine Ents.cons' rfl ?_ ?_; focus (first | exact Ent.of_eq rfl | (refine Ent.agg' rfl ?_; (repeat (first | exact EntL.nil' rfl | (refine EntL.cons' rfl ?_ ?_; focus (first | exact EntC.of_eq rfl | (refine EntC.q rfl ?_; omega) | exact Z0 _ | exact Z2 _ | exact EntC.z0 (k := 0) | exact EntC.z1 (k := 0) | exact EntC.z2 (k := 0) | exact EntC.z0 | exact EntC.z1 | exact EntC.z2)))); done) | (refine Ent.one' rfl ?_; (first | exact EntC.of_eq rfl | (refine EntC.q rfl ?_; omega) | exact Z0 _ | exact Z2 _ | exact EntC.z0 (k := 0) | exact EntC.z1 (k := 0) | exact EntC.z2 (k := 0) | exact EntC.z0 | exact EntC.z1 | exact EntC.z2)))))); done))); (case s0 => omega); (case s1 => omega))
         | (apply u_call hA (hc := v_side1 ?s0 ?s1 ?s2 ?s3); (case hg => (first | exact trivial | exact rfl)); (case hd => exact rfl); (case hcl => exact rfl); (case has => (first | exact Ents.of_eq rfl | ((repeat (first | exact Ents.nil' rfl | (refine Ents.cons' rfl ?_ ?_; focus (first | exact Ent.of_eq rfl | (refine Ent.agg' rfl ?_; (repeat (first | exact EntL.nil' rfl | (refine EntL.cons' rfl ?_ ?_; focus (first | exact EntC.of_eq rfl | (refine EntC.q rfl ?_; omega) | exact Z0 _ | exact Z2 _ | exact EntC.z0 (k := 0) | exact EntC.z1 (k := 0) | exact EntC.z2 (k := 0) | exact EntC.z0 | exact EntC.z1 | exact EntC.z2)))); done) | (refine Ent.one' rfl ?_; (first | exact EntC.of_eq rfl | (refine EntC.q rfl ?_; omega) | exact Z0 _ | exact Z2 _ | exact EntC.z0 (k := 0) | exact EntC.z1 (k := 0) | exact EntC.z2 (k := 0) | exact EntC.z0 | exact EntC.z1 | exact EntC.z2)))))); done))); (case s0 => omega); (case s1 => omega); (case s2 => omega); (case s3 => grind)))
       apply RunK.nil
       refine And.intro (by kernel_rfl) ?_)
    | refine aw_skip ?_
    | refine aw_exit ?_)
  refine aw_ret ?_
  refine And.intro (Or.inr rfl) ?_
  refine fin_one (by first | exact ResIs.tmp rfl | exact ResIs.cell inferInstance rfl rfl rfl rfl) (by (first | exact Ent.of_eq rfl | (refine Ent.agg' rfl ?_; (repeat (first | exact EntL.nil' rfl | (refine EntL.cons' rfl ?_ ?_; focus (first | exact EntC.of_eq rfl | (refine EntC.q rfl ?_; omega) | exact Z0 _ | exact Z2 _ | exact EntC.z0 (k := 0) | exact EntC.z1 (k := 0) | exact EntC.z2 (k := 0) | exact EntC.z0 | exact EntC.z1 | exact EntC.z2)))); done) | (refine Ent.one' rfl ?_; (first | exact EntC.of_eq rfl | (refine EntC.q rfl ?_; omega) | exact Z0 _ | exact Z2 _ | exact EntC.z0 (k := 0) | exact EntC.z1 (k := 0) | exact EntC.z2 (k := 0) | exact EntC.z0 | exact EntC.z1 | exact EntC.z2))))
end Go.Proofs.YtcmbbmfdmohedaaGreatDoor
