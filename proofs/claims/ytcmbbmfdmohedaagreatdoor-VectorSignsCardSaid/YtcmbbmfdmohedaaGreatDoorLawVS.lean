/-
  VectorSigns.
-/
import Derived.Test.YtcmbbmfdmohedaaGreatDoorVd
import Derived.Test.YtcmbbmfdmohedaaGreatDoorFrame6
namespace Go.Proofs.YtcmbbmfdmohedaaGreatDoor
open Go.RowKit
set_option linter.unusedVariables false
set_option linter.unusedSimpArgs false
set_option maxRecDepth 20000
set_option maxHeartbeats 4000000

namespace signs
theorem light' {l : List Int} {b : Bool} (h : decide ((l.length : Int) ≤ 500) = b) : Ctr Tryz.prog Amb 11 [.one (.ints l)] (.one (.v (.bool b))) := h ▸ d_light l
theorem law (l : List Int) (hb : ∀ x ∈ l, -9223372036854775808 ≤ x ∧ x < 9223372036854775808) : Ctr Tryz.prog Amb 7 [.one (.ints l)] (.one (.v (.bool true))) := by
  by_cases hL : (l.length : Int) ≤ 500
  · have hl : l.length ≤ 1000000 := by omega
    have D1 := light' (decide_eq_true hL)
    have B0 := Nat.zero_le l.length
    have B1 := pN_bd l _ B0
    have B2 := pN_bd l _ B1
    have B3 := pN_bd l _ B2
    have B4 := pN_bd l _ B3
    have N1 := d_point (k := 17) hb hl B0
    have N2 := d_point (k := 17) hb hl B1
    have N3 := d_point (k := 17) hb hl B2
    have N4 := d_point (k := 17) hb hl B3
    have N5 := d_point (k := 17) hb hl B4
    generalize pX l 0 = a at N1
    generalize pY l 0 = b at N1
    generalize pZ l 0 = c at N1
    generalize pX l (pN l 0) = x at N2
    generalize pY l (pN l 0) = y at N2
    generalize pZ l (pN l 0) = z at N2
    generalize pX l (pN l (pN l 0)) = u at N3
    generalize pY l (pN l (pN l 0)) = v at N3
    generalize pZ l (pN l (pN l 0)) = w at N3
    generalize pX l (pN l (pN l (pN l 0))) = p at N4
    generalize pY l (pN l (pN l (pN l 0))) = q at N4
    generalize pZ l (pN l (pN l (pN l 0))) = r at N4
    generalize pX l (pN l (pN l (pN l (pN l 0)))) = t1 at N5
    generalize pY l (pN l (pN l (pN l (pN l 0)))) = t2 at N5
    generalize pZ l (pN l (pN l (pN l (pN l 0)))) = t3 at N5
    obtain ⟨n, hn⟩ : ∃ n, sgnR (0 + (x - a) * ((v - b) * (r - c) - (w - c) * (q - b)) + (y - b) * ((w - c) * (p - a) - (u - a) * (r - c)) + (z - c) * ((u - a) * (q - b) - (v - b) * (p - a))) = n := ⟨_, rfl⟩
    obtain ⟨m, hm⟩ : ∃ m, cmpR ((x - a) * (v - b)) ((y - b) * (u - a)) = m := ⟨_, rfl⟩
    have nb := sgn_bd (0 + (x - a) * ((v - b) * (r - c) - (w - c) * (q - b)) + (y - b) * ((w - c) * (p - a) - (u - a) * (r - c)) + (z - c) * ((u - a) * (q - b) - (v - b) * (p - a)))
    have mb := cmp_bd ((x - a) * (v - b)) ((y - b) * (u - a))
    rw [hn] at nb
    rw [hm] at mb
    have O1 := v_orient3 (i := 2) (j := 2) (k := 2) (m := 2) (by decide) (by decide) (by decide) (by decide) hn
    have O2 := v_orient3 (i := 2) (j := 2) (k := 2) (m := 2) (a := x) (b := y) (c := z) (x := a) (y := b) (z := c) (u := u) (v := v) (w := w) (p := p) (q := q) (r := r) (by decide) (by decide) (by decide) (by decide) (sgn_of_neg hn (by grind))
    have O3 := v_orient3 (i := 2) (j := 2) (k := 2) (m := 2) (a := a) (b := b) (c := c) (x := x) (y := y) (z := z) (u := p) (v := q) (w := r) (p := u) (q := v) (r := w) (by decide) (by decide) (by decide) (by decide) (sgn_of_neg hn (by grind))
    have O4 := v_orient3 (i := 2) (j := 2) (k := 2) (m := 2) (a := x) (b := y) (c := z) (x := u) (y := v) (z := w) (u := a) (v := b) (w := c) (p := p) (q := q) (r := r) (by decide) (by decide) (by decide) (by decide) (sgn_of_eq hn (by grind))
    have O5 := v_orient3 (i := 7) (j := 7) (k := 7) (m := 7) (a := a + t1) (b := b + t2) (c := c + t3) (x := x + t1) (y := y + t2) (z := z + t3) (u := u + t1) (v := v + t2) (w := w + t3) (p := p + t1) (q := q + t2) (r := r + t3) (by decide) (by decide) (by decide) (by decide) (sgn_of_eq hn (by grind))
    have P1 := v_orient2 (j := 2) (k := 2) (m := 2) (c := c) (z := z) (w := w) (by decide) (by decide) (by decide) hm
    have P2 := v_orient2 (j := 2) (k := 2) (m := 2) (a := x) (b := y) (c := z) (x := a) (y := b) (z := c) (u := u) (v := v) (w := w) (by decide) (by decide) (by decide) (cmp_of_neg hm (by grind))
    have P3 := v_orient2 (j := 2) (k := 2) (m := 2) (a := x) (b := y) (c := z) (x := u) (y := v) (z := w) (u := a) (v := b) (w := c) (by decide) (by decide) (by decide) (cmp_of_eq hm (by grind))
    have hn1 : (IntKind.i64).wrap (0 - -n) = n := by rw [show 0 - -n = n by omega]; exact IntWalk.i64_in _ (by omega)
    have hm1 : (IntKind.i64).wrap (0 - -m) = m := by rw [show 0 - -m = m by omega]; exact IntWalk.i64_in _ (by omega)
    have hn2 : binR .neq .i64 n n = some (.bool false) := by show some (Value.bool (n != n)) = _; simp
    have hm2 : binR .neq .i64 m m = some (.bool false) := by show some (Value.bool (m != m)) = _; simp
    have hn3 : binR .eql .i64 n n = some (.bool true) := by show some (Value.bool (n == n)) = _; simp
    by_cases hz : (y - b) * (w - c) - (z - c) * (v - b) = 0 ∧ (z - c) * (u - a) - (x - a) * (w - c) = 0 ∧ (x - a) * (v - b) - (y - b) * (u - a) = 0
    · obtain ⟨z1, z2, z3⟩ := hz
      have T := v_throughF (j := 2) (k := 2) (m := 2) (by decide) (by decide) (by decide) (v_zeroT z1 z2 z3)
      have h0 : n = 0 := by
        rw [← hn]
        exact sgnR_eq.2 (by grind)
      have hn4 : binR .eql .i64 n 0 = some (.bool true) := by rw [h0]; rfl
      refine ctr_body Tryz.func7 rfl rfl rfl rfl rfl rfl ?_
      intro W0 base D μ0 hA
      repeat (first
        | refine aw_seq ?_
        | refine aw_block ?_
        | refine aw_condT rfl ?_
        | refine aw_condF rfl ?_
        | (refine aw_plainK (by kernel_rfl) ?_
           repeat (first
             | (apply u_skip; (case hg => exact rfl))
             | (apply u_move; (case hg => first | exact trivial | exact rfl); (case hd => exact rfl); (case hx => exact rfl))
             | (apply u_assign; (case hg => first | exact trivial | exact rfl); (case hd => exact rfl); (case hx => exact rfl))
             | (apply u_load; (case hg => first | exact trivial | exact rfl); (case hd => exact rfl); (case hx => exact rfl); (case hz => exact rfl))
             | (apply u_store; (case hg => first | exact trivial | exact rfl); (case hd => exact rfl); (case hx => exact rfl); (case hy => exact rfl); (case hc => kernel_rfl))
             | (apply u_alloc; (case hg => first | exact trivial | exact rfl); (case hd => exact rfl); (case hf => exact rfl))
             | (apply u_extract; (case hg => first | exact trivial | exact rfl); (case hd => exact rfl); (case hx => exact rfl); (case hc => exact rfl))
             | (apply u_bin; (case hg => first | exact trivial | exact rfl); (case hd => exact rfl); (case hx => exact rfl); (case hy => exact rfl); (case hc => (first | exact hn1 | exact hm1 | exact hn2 | exact hm2 | exact hn4 | exact rfl)))
             | (apply u_not; (case hg => first | exact trivial | exact rfl); (case hd => exact rfl); (case hx => exact rfl))
             | (apply u_pickT; (case hg => first | exact trivial | exact rfl); (case hd => exact rfl); (case hc => exact rfl); (case hx => exact rfl))
             | (apply u_pickF; (case hg => first | exact trivial | exact rfl); (case hd => exact rfl); (case hc => exact rfl); (case hx => exact rfl))
             | (apply u_neg'; (case hg => first | exact trivial | exact rfl); (case hd => exact rfl); (case hx => exact rfl); (case hc => (first | exact hn1 | exact hm1 | exact hn2 | exact hm2 | exact hn4 | exact rfl)))
             | (apply u_eqBool; (case hg => first | exact trivial | exact rfl); (case hd => exact rfl); (case hx => exact rfl); (case hy => exact rfl))
             | (apply u_call hA (hc := D1); (case hg => (first | exact trivial | exact rfl)); (case hd => exact rfl); (case hcl => exact rfl); (case has => exact Ents.of_eq rfl))
             | (apply u_callN hA (hc := d_roll l); (case hg => (first | exact trivial | exact rfl)); (case hd => exact rfl); (case hf => exact rfl); (case hcl => exact rfl); (case has => exact Ents.of_eq rfl); (case hq => exact rfl))
             | (apply u_callM hA (ro := []) (rw := [_]) (hc := N1); (case hg => (first | exact trivial | exact rfl)); (case hd => exact rfl); (case hcl => exact rfl); (case has => exact Ents.of_eq rfl); (case hro => exact fun p hp => by cases hp); (case hrw => exact fun p hp => by obtain rfl := List.mem_singleton.1 hp; rfl); (case hb => exact rfl); (case hnd => simp))
             | (apply u_callM hA (ro := []) (rw := [_]) (hc := N2); (case hg => (first | exact trivial | exact rfl)); (case hd => exact rfl); (case hcl => exact rfl); (case has => exact Ents.of_eq rfl); (case hro => exact fun p hp => by cases hp); (case hrw => exact fun p hp => by obtain rfl := List.mem_singleton.1 hp; rfl); (case hb => exact rfl); (case hnd => simp))
             | (apply u_callM hA (ro := []) (rw := [_]) (hc := N3); (case hg => (first | exact trivial | exact rfl)); (case hd => exact rfl); (case hcl => exact rfl); (case has => exact Ents.of_eq rfl); (case hro => exact fun p hp => by cases hp); (case hrw => exact fun p hp => by obtain rfl := List.mem_singleton.1 hp; rfl); (case hb => exact rfl); (case hnd => simp))
             | (apply u_callM hA (ro := []) (rw := [_]) (hc := N4); (case hg => (first | exact trivial | exact rfl)); (case hd => exact rfl); (case hcl => exact rfl); (case has => exact Ents.of_eq rfl); (case hro => exact fun p hp => by cases hp); (case hrw => exact fun p hp => by obtain rfl := List.mem_singleton.1 hp; rfl); (case hb => exact rfl); (case hnd => simp))
             | (apply u_callM hA (ro := []) (rw := [_]) (hc := N5); (case hg => (first | exact trivial | exact rfl)); (case hd => exact rfl); (case hcl => exact rfl); (case has => exact Ents.of_eq rfl); (case hro => exact fun p hp => by cases hp); (case hrw => exact fun p hp => by obtain rfl := List.mem_singleton.1 hp; rfl); (case hb => exact rfl); (case hnd => simp))
             | (apply u_call hA (hc := O1); (case hg => (first | exact trivial | exact rfl)); (case hd => exact rfl); (case hcl => exact rfl); (case has => exact Ents.of_eq rfl))
             | (apply u_call hA (hc := O2); (case hg => (first | exact trivial | exact rfl)); (case hd => exact rfl); (case hcl => exact rfl); (case has => exact Ents.of_eq rfl))
             | (apply u_call hA (hc := O3); (case hg => (first | exact trivial | exact rfl)); (case hd => exact rfl); (case hcl => exact rfl); (case has => exact Ents.of_eq rfl))
             | (apply u_call hA (hc := O4); (case hg => (first | exact trivial | exact rfl)); (case hd => exact rfl); (case hcl => exact rfl); (case has => exact Ents.of_eq rfl))
             | (apply u_call hA (hc := O5); (case hg => (first | exact trivial | exact rfl)); (case hd => exact rfl); (case hcl => exact rfl); (case has => exact Ents.of_eq rfl))
             | (apply u_call hA (hc := P1); (case hg => (first | exact trivial | exact rfl)); (case hd => exact rfl); (case hcl => exact rfl); (case has => exact Ents.of_eq rfl))
             | (apply u_call hA (hc := P2); (case hg => (first | exact trivial | exact rfl)); (case hd => exact rfl); (case hcl => exact rfl); (case has => exact Ents.of_eq rfl))
             | (apply u_call hA (hc := P3); (case hg => (first | exact trivial | exact rfl)); (case hd => exact rfl); (case hcl => exact rfl); (case has => exact Ents.of_eq rfl))
             | (apply u_call hA (hc := v_add ?s0 ?s1); (case hg => (first | exact trivial | exact rfl)); (case hd => exact rfl); (case hcl => exact rfl); (case has => exact Ents.of_eq rfl); (case s0 => omega); (case s1 => omega))
             | (apply u_call hA (hc := T); (case hg => (first | exact trivial | exact rfl)); (case hd => exact rfl); (case hcl => exact rfl); (case has => exact Ents.of_eq rfl))
             | (apply u_call hA (hc := awake_ok); (case hg => (first | exact trivial | exact rfl)); (case hd => exact rfl); (case hcl => exact rfl); (case has => exact Ents.of_eq rfl)))
           apply RunK.nil)
        | (refine aw_drawK (by kernel_rfl) (by kernel_rfl) (by kernel_rfl) ?_
           repeat (first
             | (apply u_skip; (case hg => exact rfl))
             | (apply u_move; (case hg => first | exact trivial | exact rfl); (case hd => exact rfl); (case hx => exact rfl))
             | (apply u_assign; (case hg => first | exact trivial | exact rfl); (case hd => exact rfl); (case hx => exact rfl))
             | (apply u_load; (case hg => first | exact trivial | exact rfl); (case hd => exact rfl); (case hx => exact rfl); (case hz => exact rfl))
             | (apply u_store; (case hg => first | exact trivial | exact rfl); (case hd => exact rfl); (case hx => exact rfl); (case hy => exact rfl); (case hc => kernel_rfl))
             | (apply u_alloc; (case hg => first | exact trivial | exact rfl); (case hd => exact rfl); (case hf => exact rfl))
             | (apply u_extract; (case hg => first | exact trivial | exact rfl); (case hd => exact rfl); (case hx => exact rfl); (case hc => exact rfl))
             | (apply u_bin; (case hg => first | exact trivial | exact rfl); (case hd => exact rfl); (case hx => exact rfl); (case hy => exact rfl); (case hc => (first | exact hn1 | exact hm1 | exact hn2 | exact hm2 | exact hn4 | exact rfl)))
             | (apply u_not; (case hg => first | exact trivial | exact rfl); (case hd => exact rfl); (case hx => exact rfl))
             | (apply u_pickT; (case hg => first | exact trivial | exact rfl); (case hd => exact rfl); (case hc => exact rfl); (case hx => exact rfl))
             | (apply u_pickF; (case hg => first | exact trivial | exact rfl); (case hd => exact rfl); (case hc => exact rfl); (case hx => exact rfl))
             | (apply u_neg'; (case hg => first | exact trivial | exact rfl); (case hd => exact rfl); (case hx => exact rfl); (case hc => (first | exact hn1 | exact hm1 | exact hn2 | exact hm2 | exact hn4 | exact rfl)))
             | (apply u_eqBool; (case hg => first | exact trivial | exact rfl); (case hd => exact rfl); (case hx => exact rfl); (case hy => exact rfl))
             | (apply u_call hA (hc := D1); (case hg => (first | exact trivial | exact rfl)); (case hd => exact rfl); (case hcl => exact rfl); (case has => exact Ents.of_eq rfl))
             | (apply u_callN hA (hc := d_roll l); (case hg => (first | exact trivial | exact rfl)); (case hd => exact rfl); (case hf => exact rfl); (case hcl => exact rfl); (case has => exact Ents.of_eq rfl); (case hq => exact rfl))
             | (apply u_callM hA (ro := []) (rw := [_]) (hc := N1); (case hg => (first | exact trivial | exact rfl)); (case hd => exact rfl); (case hcl => exact rfl); (case has => exact Ents.of_eq rfl); (case hro => exact fun p hp => by cases hp); (case hrw => exact fun p hp => by obtain rfl := List.mem_singleton.1 hp; rfl); (case hb => exact rfl); (case hnd => simp))
             | (apply u_callM hA (ro := []) (rw := [_]) (hc := N2); (case hg => (first | exact trivial | exact rfl)); (case hd => exact rfl); (case hcl => exact rfl); (case has => exact Ents.of_eq rfl); (case hro => exact fun p hp => by cases hp); (case hrw => exact fun p hp => by obtain rfl := List.mem_singleton.1 hp; rfl); (case hb => exact rfl); (case hnd => simp))
             | (apply u_callM hA (ro := []) (rw := [_]) (hc := N3); (case hg => (first | exact trivial | exact rfl)); (case hd => exact rfl); (case hcl => exact rfl); (case has => exact Ents.of_eq rfl); (case hro => exact fun p hp => by cases hp); (case hrw => exact fun p hp => by obtain rfl := List.mem_singleton.1 hp; rfl); (case hb => exact rfl); (case hnd => simp))
             | (apply u_callM hA (ro := []) (rw := [_]) (hc := N4); (case hg => (first | exact trivial | exact rfl)); (case hd => exact rfl); (case hcl => exact rfl); (case has => exact Ents.of_eq rfl); (case hro => exact fun p hp => by cases hp); (case hrw => exact fun p hp => by obtain rfl := List.mem_singleton.1 hp; rfl); (case hb => exact rfl); (case hnd => simp))
             | (apply u_callM hA (ro := []) (rw := [_]) (hc := N5); (case hg => (first | exact trivial | exact rfl)); (case hd => exact rfl); (case hcl => exact rfl); (case has => exact Ents.of_eq rfl); (case hro => exact fun p hp => by cases hp); (case hrw => exact fun p hp => by obtain rfl := List.mem_singleton.1 hp; rfl); (case hb => exact rfl); (case hnd => simp))
             | (apply u_call hA (hc := O1); (case hg => (first | exact trivial | exact rfl)); (case hd => exact rfl); (case hcl => exact rfl); (case has => exact Ents.of_eq rfl))
             | (apply u_call hA (hc := O2); (case hg => (first | exact trivial | exact rfl)); (case hd => exact rfl); (case hcl => exact rfl); (case has => exact Ents.of_eq rfl))
             | (apply u_call hA (hc := O3); (case hg => (first | exact trivial | exact rfl)); (case hd => exact rfl); (case hcl => exact rfl); (case has => exact Ents.of_eq rfl))
             | (apply u_call hA (hc := O4); (case hg => (first | exact trivial | exact rfl)); (case hd => exact rfl); (case hcl => exact rfl); (case has => exact Ents.of_eq rfl))
             | (apply u_call hA (hc := O5); (case hg => (first | exact trivial | exact rfl)); (case hd => exact rfl); (case hcl => exact rfl); (case has => exact Ents.of_eq rfl))
             | (apply u_call hA (hc := P1); (case hg => (first | exact trivial | exact rfl)); (case hd => exact rfl); (case hcl => exact rfl); (case has => exact Ents.of_eq rfl))
             | (apply u_call hA (hc := P2); (case hg => (first | exact trivial | exact rfl)); (case hd => exact rfl); (case hcl => exact rfl); (case has => exact Ents.of_eq rfl))
             | (apply u_call hA (hc := P3); (case hg => (first | exact trivial | exact rfl)); (case hd => exact rfl); (case hcl => exact rfl); (case has => exact Ents.of_eq rfl))
             | (apply u_call hA (hc := v_add ?s0 ?s1); (case hg => (first | exact trivial | exact rfl)); (case hd => exact rfl); (case hcl => exact rfl); (case has => exact Ents.of_eq rfl); (case s0 => omega); (case s1 => omega))
             | (apply u_call hA (hc := T); (case hg => (first | exact trivial | exact rfl)); (case hd => exact rfl); (case hcl => exact rfl); (case has => exact Ents.of_eq rfl))
             | (apply u_call hA (hc := awake_ok); (case hg => (first | exact trivial | exact rfl)); (case hd => exact rfl); (case hcl => exact rfl); (case has => exact Ents.of_eq rfl)))
           apply RunK.nil
           refine And.intro (by kernel_rfl) ?_)
        | refine aw_skip ?_
        | refine aw_exit ?_)
      refine aw_ret ?_
      refine And.intro (Or.inr rfl) ?_
      refine fin_one (by first | exact ResIs.tmp rfl | exact ResIs.cell inferInstance rfl rfl rfl rfl) (by (first | exact Ent.of_eq rfl | (refine Ent.agg' rfl ?_; (repeat (first | exact EntL.nil' rfl | (refine EntL.cons' rfl ?_ ?_; focus (first | exact EntC.of_eq rfl | (refine EntC.q rfl ?_; omega) | exact Z0 _ | exact Z2 _ | exact EntC.z0 (k := 0) | exact EntC.z1 (k := 0) | exact EntC.z2 (k := 0) | exact EntC.z0 | exact EntC.z1 | exact EntC.z2)))); done) | (refine Ent.one' rfl ?_; (first | exact EntC.of_eq rfl | (refine EntC.q rfl ?_; omega) | exact Z0 _ | exact Z2 _ | exact EntC.z0 (k := 0) | exact EntC.z1 (k := 0) | exact EntC.z2 (k := 0) | exact EntC.z0 | exact EntC.z1 | exact EntC.z2))))
    · have T := v_through (j := 2) (k := 2) (m := 2) (by decide) (by decide) (by decide) (v_zeroN hz)
      have S1 := v_side (j := 35) (k := 126) (m := 2) (x := (y - b) * (w - c) - (z - c) * (v - b)) (y := (z - c) * (u - a) - (x - a) * (w - c)) (z := (x - a) * (v - b) - (y - b) * (u - a)) (d := 0 + ((y - b) * (w - c) - (z - c) * (v - b)) * a + ((z - c) * (u - a) - (x - a) * (w - c)) * b + ((x - a) * (v - b) - (y - b) * (u - a)) * c) (u := p) (v := q) (w := r) (by decide) (by decide) (by decide) (cmp_sgn hn (by grind))
      have S2 := v_side (j := 35) (k := 126) (m := 2) (x := (y - b) * (w - c) - (z - c) * (v - b)) (y := (z - c) * (u - a) - (x - a) * (w - c)) (z := (x - a) * (v - b) - (y - b) * (u - a)) (d := 0 + ((y - b) * (w - c) - (z - c) * (v - b)) * a + ((z - c) * (u - a) - (x - a) * (w - c)) * b + ((x - a) * (v - b) - (y - b) * (u - a)) * c) (u := a) (v := b) (w := c) (by decide) (by decide) (by decide) (ord_zero.2 (by grind))
      have S3 := v_side (j := 35) (k := 126) (m := 2) (x := (y - b) * (w - c) - (z - c) * (v - b)) (y := (z - c) * (u - a) - (x - a) * (w - c)) (z := (x - a) * (v - b) - (y - b) * (u - a)) (d := 0 + ((y - b) * (w - c) - (z - c) * (v - b)) * a + ((z - c) * (u - a) - (x - a) * (w - c)) * b + ((x - a) * (v - b) - (y - b) * (u - a)) * c) (u := x) (v := y) (w := z) (by decide) (by decide) (by decide) (ord_zero.2 (by grind))
      have S4 := v_side (j := 35) (k := 126) (m := 2) (x := (y - b) * (w - c) - (z - c) * (v - b)) (y := (z - c) * (u - a) - (x - a) * (w - c)) (z := (x - a) * (v - b) - (y - b) * (u - a)) (d := 0 + ((y - b) * (w - c) - (z - c) * (v - b)) * a + ((z - c) * (u - a) - (x - a) * (w - c)) * b + ((x - a) * (v - b) - (y - b) * (u - a)) * c) (u := u) (v := v) (w := w) (by decide) (by decide) (by decide) (ord_zero.2 (by grind))
      refine ctr_body Tryz.func7 rfl rfl rfl rfl rfl rfl ?_
      intro W0 base D μ0 hA
      repeat (first
        | refine aw_seq ?_
        | refine aw_block ?_
        | refine aw_condT rfl ?_
        | refine aw_condF rfl ?_
        | (refine aw_plainK (by kernel_rfl) ?_
           repeat (first
             | (apply u_skip; (case hg => exact rfl))
             | (apply u_move; (case hg => first | exact trivial | exact rfl); (case hd => exact rfl); (case hx => exact rfl))
             | (apply u_assign; (case hg => first | exact trivial | exact rfl); (case hd => exact rfl); (case hx => exact rfl))
             | (apply u_load; (case hg => first | exact trivial | exact rfl); (case hd => exact rfl); (case hx => exact rfl); (case hz => exact rfl))
             | (apply u_store; (case hg => first | exact trivial | exact rfl); (case hd => exact rfl); (case hx => exact rfl); (case hy => exact rfl); (case hc => kernel_rfl))
             | (apply u_alloc; (case hg => first | exact trivial | exact rfl); (case hd => exact rfl); (case hf => exact rfl))
             | (apply u_extract; (case hg => first | exact trivial | exact rfl); (case hd => exact rfl); (case hx => exact rfl); (case hc => exact rfl))
             | (apply u_bin; (case hg => first | exact trivial | exact rfl); (case hd => exact rfl); (case hx => exact rfl); (case hy => exact rfl); (case hc => (first | exact hn1 | exact hm1 | exact hn2 | exact hm2 | exact hn3 | exact rfl)))
             | (apply u_not; (case hg => first | exact trivial | exact rfl); (case hd => exact rfl); (case hx => exact rfl))
             | (apply u_pickT; (case hg => first | exact trivial | exact rfl); (case hd => exact rfl); (case hc => exact rfl); (case hx => exact rfl))
             | (apply u_pickF; (case hg => first | exact trivial | exact rfl); (case hd => exact rfl); (case hc => exact rfl); (case hx => exact rfl))
             | (apply u_neg'; (case hg => first | exact trivial | exact rfl); (case hd => exact rfl); (case hx => exact rfl); (case hc => (first | exact hn1 | exact hm1 | exact hn2 | exact hm2 | exact hn3 | exact rfl)))
             | (apply u_eqBool; (case hg => first | exact trivial | exact rfl); (case hd => exact rfl); (case hx => exact rfl); (case hy => exact rfl))
             | (apply u_call hA (hc := D1); (case hg => (first | exact trivial | exact rfl)); (case hd => exact rfl); (case hcl => exact rfl); (case has => exact Ents.of_eq rfl))
             | (apply u_callN hA (hc := d_roll l); (case hg => (first | exact trivial | exact rfl)); (case hd => exact rfl); (case hf => exact rfl); (case hcl => exact rfl); (case has => exact Ents.of_eq rfl); (case hq => exact rfl))
             | (apply u_callM hA (ro := []) (rw := [_]) (hc := N1); (case hg => (first | exact trivial | exact rfl)); (case hd => exact rfl); (case hcl => exact rfl); (case has => exact Ents.of_eq rfl); (case hro => exact fun p hp => by cases hp); (case hrw => exact fun p hp => by obtain rfl := List.mem_singleton.1 hp; rfl); (case hb => exact rfl); (case hnd => simp))
             | (apply u_callM hA (ro := []) (rw := [_]) (hc := N2); (case hg => (first | exact trivial | exact rfl)); (case hd => exact rfl); (case hcl => exact rfl); (case has => exact Ents.of_eq rfl); (case hro => exact fun p hp => by cases hp); (case hrw => exact fun p hp => by obtain rfl := List.mem_singleton.1 hp; rfl); (case hb => exact rfl); (case hnd => simp))
             | (apply u_callM hA (ro := []) (rw := [_]) (hc := N3); (case hg => (first | exact trivial | exact rfl)); (case hd => exact rfl); (case hcl => exact rfl); (case has => exact Ents.of_eq rfl); (case hro => exact fun p hp => by cases hp); (case hrw => exact fun p hp => by obtain rfl := List.mem_singleton.1 hp; rfl); (case hb => exact rfl); (case hnd => simp))
             | (apply u_callM hA (ro := []) (rw := [_]) (hc := N4); (case hg => (first | exact trivial | exact rfl)); (case hd => exact rfl); (case hcl => exact rfl); (case has => exact Ents.of_eq rfl); (case hro => exact fun p hp => by cases hp); (case hrw => exact fun p hp => by obtain rfl := List.mem_singleton.1 hp; rfl); (case hb => exact rfl); (case hnd => simp))
             | (apply u_callM hA (ro := []) (rw := [_]) (hc := N5); (case hg => (first | exact trivial | exact rfl)); (case hd => exact rfl); (case hcl => exact rfl); (case has => exact Ents.of_eq rfl); (case hro => exact fun p hp => by cases hp); (case hrw => exact fun p hp => by obtain rfl := List.mem_singleton.1 hp; rfl); (case hb => exact rfl); (case hnd => simp))
             | (apply u_call hA (hc := O1); (case hg => (first | exact trivial | exact rfl)); (case hd => exact rfl); (case hcl => exact rfl); (case has => exact Ents.of_eq rfl))
             | (apply u_call hA (hc := O2); (case hg => (first | exact trivial | exact rfl)); (case hd => exact rfl); (case hcl => exact rfl); (case has => exact Ents.of_eq rfl))
             | (apply u_call hA (hc := O3); (case hg => (first | exact trivial | exact rfl)); (case hd => exact rfl); (case hcl => exact rfl); (case has => exact Ents.of_eq rfl))
             | (apply u_call hA (hc := O4); (case hg => (first | exact trivial | exact rfl)); (case hd => exact rfl); (case hcl => exact rfl); (case has => exact Ents.of_eq rfl))
             | (apply u_call hA (hc := O5); (case hg => (first | exact trivial | exact rfl)); (case hd => exact rfl); (case hcl => exact rfl); (case has => exact Ents.of_eq rfl))
             | (apply u_call hA (hc := P1); (case hg => (first | exact trivial | exact rfl)); (case hd => exact rfl); (case hcl => exact rfl); (case has => exact Ents.of_eq rfl))
             | (apply u_call hA (hc := P2); (case hg => (first | exact trivial | exact rfl)); (case hd => exact rfl); (case hcl => exact rfl); (case has => exact Ents.of_eq rfl))
             | (apply u_call hA (hc := P3); (case hg => (first | exact trivial | exact rfl)); (case hd => exact rfl); (case hcl => exact rfl); (case has => exact Ents.of_eq rfl))
             | (apply u_call hA (hc := v_add ?s0 ?s1); (case hg => (first | exact trivial | exact rfl)); (case hd => exact rfl); (case hcl => exact rfl); (case has => exact Ents.of_eq rfl); (case s0 => omega); (case s1 => omega))
             | (apply u_call hA (hc := T); (case hg => (first | exact trivial | exact rfl)); (case hd => exact rfl); (case hcl => exact rfl); (case has => exact Ents.of_eq rfl))
             | (apply u_call hA (hc := S1); (case hg => (first | exact trivial | exact rfl)); (case hd => exact rfl); (case hcl => exact rfl); (case has => exact Ents.of_eq rfl))
             | (apply u_call hA (hc := S2); (case hg => (first | exact trivial | exact rfl)); (case hd => exact rfl); (case hcl => exact rfl); (case has => exact Ents.of_eq rfl))
             | (apply u_call hA (hc := S3); (case hg => (first | exact trivial | exact rfl)); (case hd => exact rfl); (case hcl => exact rfl); (case has => exact Ents.of_eq rfl))
             | (apply u_call hA (hc := S4); (case hg => (first | exact trivial | exact rfl)); (case hd => exact rfl); (case hcl => exact rfl); (case has => exact Ents.of_eq rfl))
             | (apply u_call hA (hc := awake_ok); (case hg => (first | exact trivial | exact rfl)); (case hd => exact rfl); (case hcl => exact rfl); (case has => exact Ents.of_eq rfl)))
           apply RunK.nil)
        | (refine aw_drawK (by kernel_rfl) (by kernel_rfl) (by kernel_rfl) ?_
           repeat (first
             | (apply u_skip; (case hg => exact rfl))
             | (apply u_move; (case hg => first | exact trivial | exact rfl); (case hd => exact rfl); (case hx => exact rfl))
             | (apply u_assign; (case hg => first | exact trivial | exact rfl); (case hd => exact rfl); (case hx => exact rfl))
             | (apply u_load; (case hg => first | exact trivial | exact rfl); (case hd => exact rfl); (case hx => exact rfl); (case hz => exact rfl))
             | (apply u_store; (case hg => first | exact trivial | exact rfl); (case hd => exact rfl); (case hx => exact rfl); (case hy => exact rfl); (case hc => kernel_rfl))
             | (apply u_alloc; (case hg => first | exact trivial | exact rfl); (case hd => exact rfl); (case hf => exact rfl))
             | (apply u_extract; (case hg => first | exact trivial | exact rfl); (case hd => exact rfl); (case hx => exact rfl); (case hc => exact rfl))
             | (apply u_bin; (case hg => first | exact trivial | exact rfl); (case hd => exact rfl); (case hx => exact rfl); (case hy => exact rfl); (case hc => (first | exact hn1 | exact hm1 | exact hn2 | exact hm2 | exact hn3 | exact rfl)))
             | (apply u_not; (case hg => first | exact trivial | exact rfl); (case hd => exact rfl); (case hx => exact rfl))
             | (apply u_pickT; (case hg => first | exact trivial | exact rfl); (case hd => exact rfl); (case hc => exact rfl); (case hx => exact rfl))
             | (apply u_pickF; (case hg => first | exact trivial | exact rfl); (case hd => exact rfl); (case hc => exact rfl); (case hx => exact rfl))
             | (apply u_neg'; (case hg => first | exact trivial | exact rfl); (case hd => exact rfl); (case hx => exact rfl); (case hc => (first | exact hn1 | exact hm1 | exact hn2 | exact hm2 | exact hn3 | exact rfl)))
             | (apply u_eqBool; (case hg => first | exact trivial | exact rfl); (case hd => exact rfl); (case hx => exact rfl); (case hy => exact rfl))
             | (apply u_call hA (hc := D1); (case hg => (first | exact trivial | exact rfl)); (case hd => exact rfl); (case hcl => exact rfl); (case has => exact Ents.of_eq rfl))
             | (apply u_callN hA (hc := d_roll l); (case hg => (first | exact trivial | exact rfl)); (case hd => exact rfl); (case hf => exact rfl); (case hcl => exact rfl); (case has => exact Ents.of_eq rfl); (case hq => exact rfl))
             | (apply u_callM hA (ro := []) (rw := [_]) (hc := N1); (case hg => (first | exact trivial | exact rfl)); (case hd => exact rfl); (case hcl => exact rfl); (case has => exact Ents.of_eq rfl); (case hro => exact fun p hp => by cases hp); (case hrw => exact fun p hp => by obtain rfl := List.mem_singleton.1 hp; rfl); (case hb => exact rfl); (case hnd => simp))
             | (apply u_callM hA (ro := []) (rw := [_]) (hc := N2); (case hg => (first | exact trivial | exact rfl)); (case hd => exact rfl); (case hcl => exact rfl); (case has => exact Ents.of_eq rfl); (case hro => exact fun p hp => by cases hp); (case hrw => exact fun p hp => by obtain rfl := List.mem_singleton.1 hp; rfl); (case hb => exact rfl); (case hnd => simp))
             | (apply u_callM hA (ro := []) (rw := [_]) (hc := N3); (case hg => (first | exact trivial | exact rfl)); (case hd => exact rfl); (case hcl => exact rfl); (case has => exact Ents.of_eq rfl); (case hro => exact fun p hp => by cases hp); (case hrw => exact fun p hp => by obtain rfl := List.mem_singleton.1 hp; rfl); (case hb => exact rfl); (case hnd => simp))
             | (apply u_callM hA (ro := []) (rw := [_]) (hc := N4); (case hg => (first | exact trivial | exact rfl)); (case hd => exact rfl); (case hcl => exact rfl); (case has => exact Ents.of_eq rfl); (case hro => exact fun p hp => by cases hp); (case hrw => exact fun p hp => by obtain rfl := List.mem_singleton.1 hp; rfl); (case hb => exact rfl); (case hnd => simp))
             | (apply u_callM hA (ro := []) (rw := [_]) (hc := N5); (case hg => (first | exact trivial | exact rfl)); (case hd => exact rfl); (case hcl => exact rfl); (case has => exact Ents.of_eq rfl); (case hro => exact fun p hp => by cases hp); (case hrw => exact fun p hp => by obtain rfl := List.mem_singleton.1 hp; rfl); (case hb => exact rfl); (case hnd => simp))
             | (apply u_call hA (hc := O1); (case hg => (first | exact trivial | exact rfl)); (case hd => exact rfl); (case hcl => exact rfl); (case has => exact Ents.of_eq rfl))
             | (apply u_call hA (hc := O2); (case hg => (first | exact trivial | exact rfl)); (case hd => exact rfl); (case hcl => exact rfl); (case has => exact Ents.of_eq rfl))
             | (apply u_call hA (hc := O3); (case hg => (first | exact trivial | exact rfl)); (case hd => exact rfl); (case hcl => exact rfl); (case has => exact Ents.of_eq rfl))
             | (apply u_call hA (hc := O4); (case hg => (first | exact trivial | exact rfl)); (case hd => exact rfl); (case hcl => exact rfl); (case has => exact Ents.of_eq rfl))
             | (apply u_call hA (hc := O5); (case hg => (first | exact trivial | exact rfl)); (case hd => exact rfl); (case hcl => exact rfl); (case has => exact Ents.of_eq rfl))
             | (apply u_call hA (hc := P1); (case hg => (first | exact trivial | exact rfl)); (case hd => exact rfl); (case hcl => exact rfl); (case has => exact Ents.of_eq rfl))
             | (apply u_call hA (hc := P2); (case hg => (first | exact trivial | exact rfl)); (case hd => exact rfl); (case hcl => exact rfl); (case has => exact Ents.of_eq rfl))
             | (apply u_call hA (hc := P3); (case hg => (first | exact trivial | exact rfl)); (case hd => exact rfl); (case hcl => exact rfl); (case has => exact Ents.of_eq rfl))
             | (apply u_call hA (hc := v_add ?s0 ?s1); (case hg => (first | exact trivial | exact rfl)); (case hd => exact rfl); (case hcl => exact rfl); (case has => exact Ents.of_eq rfl); (case s0 => omega); (case s1 => omega))
             | (apply u_call hA (hc := T); (case hg => (first | exact trivial | exact rfl)); (case hd => exact rfl); (case hcl => exact rfl); (case has => exact Ents.of_eq rfl))
             | (apply u_call hA (hc := S1); (case hg => (first | exact trivial | exact rfl)); (case hd => exact rfl); (case hcl => exact rfl); (case has => exact Ents.of_eq rfl))
             | (apply u_call hA (hc := S2); (case hg => (first | exact trivial | exact rfl)); (case hd => exact rfl); (case hcl => exact rfl); (case has => exact Ents.of_eq rfl))
             | (apply u_call hA (hc := S3); (case hg => (first | exact trivial | exact rfl)); (case hd => exact rfl); (case hcl => exact rfl); (case has => exact Ents.of_eq rfl))
             | (apply u_call hA (hc := S4); (case hg => (first | exact trivial | exact rfl)); (case hd => exact rfl); (case hcl => exact rfl); (case has => exact Ents.of_eq rfl))
             | (apply u_call hA (hc := awake_ok); (case hg => (first | exact trivial | exact rfl)); (case hd => exact rfl); (case hcl => exact rfl); (case has => exact Ents.of_eq rfl)))
           apply RunK.nil
           refine And.intro (by kernel_rfl) ?_)
        | refine aw_skip ?_
        | refine aw_exit ?_)
      refine aw_ret ?_
      refine And.intro (Or.inr rfl) ?_
      refine fin_one (by first | exact ResIs.tmp rfl | exact ResIs.cell inferInstance rfl rfl rfl rfl) (by (first | exact Ent.of_eq rfl | (refine Ent.agg' rfl ?_; (repeat (first | exact EntL.nil' rfl | (refine EntL.cons' rfl ?_ ?_; focus (first | exact EntC.of_eq rfl | (refine EntC.q rfl ?_; omega) | exact Z0 _ | exact Z2 _ | exact EntC.z0 (k := 0) | exact EntC.z1 (k := 0) | exact EntC.z2 (k := 0) | exact EntC.z0 | exact EntC.z1 | exact EntC.z2)))); done) | (refine Ent.one' rfl ?_; (first | exact EntC.of_eq rfl | (refine EntC.q rfl ?_; omega) | exact Z0 _ | exact Z2 _ | exact EntC.z0 (k := 0) | exact EntC.z1 (k := 0) | exact EntC.z2 (k := 0) | exact EntC.z0 | exact EntC.z1 | exact EntC.z2))))
  · have D1 := light' (decide_eq_false hL)
    refine ctr_body Tryz.func7 rfl rfl rfl rfl rfl rfl ?_
    intro W0 base D μ0 hA
    repeat (first
      | refine aw_seq ?_
      | refine aw_block ?_
      | refine aw_condT rfl ?_
      | refine aw_condF rfl ?_
      | (refine aw_plainK (by kernel_rfl) ?_
         repeat (first
           | (apply u_skip; (case hg => exact rfl))
           | (apply u_move; (case hg => first | exact trivial | exact rfl); (case hd => exact rfl); (case hx => exact rfl))
           | (apply u_assign; (case hg => first | exact trivial | exact rfl); (case hd => exact rfl); (case hx => exact rfl))
           | (apply u_load; (case hg => first | exact trivial | exact rfl); (case hd => exact rfl); (case hx => exact rfl); (case hz => exact rfl))
           | (apply u_store; (case hg => first | exact trivial | exact rfl); (case hd => exact rfl); (case hx => exact rfl); (case hy => exact rfl); (case hc => kernel_rfl))
           | (apply u_alloc; (case hg => first | exact trivial | exact rfl); (case hd => exact rfl); (case hf => exact rfl))
           | (apply u_extract; (case hg => first | exact trivial | exact rfl); (case hd => exact rfl); (case hx => exact rfl); (case hc => exact rfl))
           | (apply u_bin; (case hg => first | exact trivial | exact rfl); (case hd => exact rfl); (case hx => exact rfl); (case hy => exact rfl); (case hc => exact rfl))
           | (apply u_not; (case hg => first | exact trivial | exact rfl); (case hd => exact rfl); (case hx => exact rfl))
           | (apply u_pickT; (case hg => first | exact trivial | exact rfl); (case hd => exact rfl); (case hc => exact rfl); (case hx => exact rfl))
           | (apply u_pickF; (case hg => first | exact trivial | exact rfl); (case hd => exact rfl); (case hc => exact rfl); (case hx => exact rfl))
           | (apply u_neg'; (case hg => first | exact trivial | exact rfl); (case hd => exact rfl); (case hx => exact rfl); (case hc => exact rfl))
           | (apply u_eqBool; (case hg => first | exact trivial | exact rfl); (case hd => exact rfl); (case hx => exact rfl); (case hy => exact rfl))
           | (apply u_call hA (hc := D1); (case hg => (first | exact trivial | exact rfl)); (case hd => exact rfl); (case hcl => exact rfl); (case has => exact Ents.of_eq rfl))
           | (apply u_call hA (hc := awake_ok); (case hg => (first | exact trivial | exact rfl)); (case hd => exact rfl); (case hcl => exact rfl); (case has => exact Ents.of_eq rfl)))
         apply RunK.nil)
      | (refine aw_drawK (by kernel_rfl) (by kernel_rfl) (by kernel_rfl) ?_
         repeat (first
           | (apply u_skip; (case hg => exact rfl))
           | (apply u_move; (case hg => first | exact trivial | exact rfl); (case hd => exact rfl); (case hx => exact rfl))
           | (apply u_assign; (case hg => first | exact trivial | exact rfl); (case hd => exact rfl); (case hx => exact rfl))
           | (apply u_load; (case hg => first | exact trivial | exact rfl); (case hd => exact rfl); (case hx => exact rfl); (case hz => exact rfl))
           | (apply u_store; (case hg => first | exact trivial | exact rfl); (case hd => exact rfl); (case hx => exact rfl); (case hy => exact rfl); (case hc => kernel_rfl))
           | (apply u_alloc; (case hg => first | exact trivial | exact rfl); (case hd => exact rfl); (case hf => exact rfl))
           | (apply u_extract; (case hg => first | exact trivial | exact rfl); (case hd => exact rfl); (case hx => exact rfl); (case hc => exact rfl))
           | (apply u_bin; (case hg => first | exact trivial | exact rfl); (case hd => exact rfl); (case hx => exact rfl); (case hy => exact rfl); (case hc => exact rfl))
           | (apply u_not; (case hg => first | exact trivial | exact rfl); (case hd => exact rfl); (case hx => exact rfl))
           | (apply u_pickT; (case hg => first | exact trivial | exact rfl); (case hd => exact rfl); (case hc => exact rfl); (case hx => exact rfl))
           | (apply u_pickF; (case hg => first | exact trivial | exact rfl); (case hd => exact rfl); (case hc => exact rfl); (case hx => exact rfl))
           | (apply u_neg'; (case hg => first | exact trivial | exact rfl); (case hd => exact rfl); (case hx => exact rfl); (case hc => exact rfl))
           | (apply u_eqBool; (case hg => first | exact trivial | exact rfl); (case hd => exact rfl); (case hx => exact rfl); (case hy => exact rfl))
           | (apply u_call hA (hc := D1); (case hg => (first | exact trivial | exact rfl)); (case hd => exact rfl); (case hcl => exact rfl); (case has => exact Ents.of_eq rfl))
           | (apply u_call hA (hc := awake_ok); (case hg => (first | exact trivial | exact rfl)); (case hd => exact rfl); (case hcl => exact rfl); (case has => exact Ents.of_eq rfl)))
         apply RunK.nil
         refine And.intro (by kernel_rfl) ?_)
      | refine aw_skip ?_
      | refine aw_exit ?_)
    refine aw_ret ?_
    refine And.intro (Or.inr rfl) ?_
    refine fin_one (by first | exact ResIs.tmp rfl | exact ResIs.cell inferInstance rfl rfl rfl rfl) (by (first | exact Ent.of_eq rfl | (refine Ent.agg' rfl ?_; (repeat (first | exact EntL.nil' rfl | (refine EntL.cons' rfl ?_ ?_; focus (first | exact EntC.of_eq rfl | (refine EntC.q rfl ?_; omega) | exact Z0 _ | exact Z2 _ | exact EntC.z0 (k := 0) | exact EntC.z1 (k := 0) | exact EntC.z2 (k := 0) | exact EntC.z0 | exact EntC.z1 | exact EntC.z2)))); done) | (refine Ent.one' rfl ?_; (first | exact EntC.of_eq rfl | (refine EntC.q rfl ?_; omega) | exact Z0 _ | exact Z2 _ | exact EntC.z0 (k := 0) | exact EntC.z1 (k := 0) | exact EntC.z2 (k := 0) | exact EntC.z0 | exact EntC.z1 | exact EntC.z2))))
end signs
end Go.Proofs.YtcmbbmfdmohedaaGreatDoor
