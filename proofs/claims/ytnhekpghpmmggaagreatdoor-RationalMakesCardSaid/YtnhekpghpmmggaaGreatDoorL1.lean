/-
  brepkernellaw02.RationalMakes: by the contracts.
-/
import Derived.Test.YtnhekpghpmmggaaGreatDoorBq
import Derived.Test.YtnhekpghpmmggaaGreatDoorBr
namespace Go.Proofs.YtnhekpghpmmggaaGreatDoor
open Go.RowKit

set_option maxRecDepth 20000 in
set_option maxHeartbeats 4000000 in
theorem makes_zero (n : Int) (w : World) (h1 : -9223372036854775808 ≤ n) (h2 : n < 9223372036854775808) (htab : Lib.TabIs Tryz.prog w "internal/strconv.uint64pow10" .u64 Lib.pow10Tab) (hZ : Tz w) :
    Calls Tryz.prog 4 #[.int .i64 n, .int .i64 0] w fun e w' => e = .returned (.bool true) ∧ Kp w w' := by
  have HTB := Lib.hid (Lib.tabBelow_of_tabIs htab)
  have HK : Hid (Kq w w) := Lib.hid ⟨Below.refl _ _⟩
  have HZ := Lib.hid hZ
  have CAW := Lib.hid (fun w' (kk : Kp w w') (t : Tz w') => qawake_any w' t (tabKp HTB.out kk))
  clear htab hZ
  have CM := Lib.hid (fun w' (t : Tz w') => (show Calls Tryz.prog 20 #[.int .i64 n, .int .i64 0] w' fun e w2 => ∃ v, e = .returned (.tuple #[v, .int .i64 3]) ∧ RatV w2 v 0 ∧ Kp w' w2 from (make_zero n w').mono fun e w2 ⟨he, k⟩ => ⟨_, he, RatV.zero w2, k⟩))
  have CR := Lib.hid (fun w' => (show Calls Tryz.prog 21 #[.int .i64 n, .int .i64 0] w' fun e w2 => ∃ v, e = .returned (.tuple #[v, .int .i64 3]) ∧ RatV w2 v 0 ∧ Kp w' w2 from (rqmake_zero (w := w') n).mono fun e w2 ⟨he, k⟩ => ⟨_, he, RatV.zero w2, k⟩))
  have CI := Lib.hid (fun w' (t : Tz w') => qint_any (w := w') n h1 h2 t)
  have CJ := Lib.hid (fun w' => rqint_any (w := w') n h1 h2)
  have CS1 := Lib.hid (fun w' a b (ha : RatV w' a ((0 : Rat))) (hb : RatV w' b ((0 : Rat))) => by have h := rqsame_any ha hb; rw [decide_eq_true rfl] at h; exact h)
  have CS2 := Lib.hid (fun w' a b (ha : RatV w' a ((n : Rat))) (hb : RatV w' b ((n : Rat))) => by have h := rqsame_any ha hb; rw [decide_eq_true rfl] at h; exact h)
  clear h1 h2
  go_enter Tryz.func4, Tryz.ntmps4
  go_wp2_with (go_at_call 20; (with_reducible refine (CM.out _ HZ.out).mono ?_); rintro e w1 ⟨vx, rfl, hx, k1⟩; refine Hid.out ?_)
  refine Lib.hid ?_
  have K_1 := Lib.hid (HK.out.kp k1)
  have Z_1 := Lib.hid (HZ.out.kp k1)
  clear HK HZ
  clear k1
  obtain ⟨xs, xq1, xr1, xs1, xq2, xr2, xs2, rfl⟩ := hx.lit
  have Vx_l := Lib.hid hx
  have Bx_l := Lib.hid (Res.new w1 (.bool xs) (.slice xq1 xr1 xs1) (.slice xq2 xr2 xs2))
  clear hx
  have K_2 := Lib.hid (K_1.out.kp (Kp.alloc _ (Obj.cells #[Value.bool xs, Value.slice xq1 xr1 xs1, Value.slice xq2 xr2 xs2] 27)))
  have Z_2 := Lib.hid (Z_1.out.kp (Kp.alloc _ (Obj.cells #[Value.bool xs, Value.slice xq1 xr1 xs1, Value.slice xq2 xr2 xs2] 27)))
  have Vx_2 := Lib.hid (Vx_l.out.kp (Kp.alloc _ (Obj.cells #[Value.bool xs, Value.slice xq1 xr1 xs1, Value.slice xq2 xr2 xs2] 27)))
  clear K_1 Z_1 Vx_l
  obtain ⟨xg0, xg1, xg2, _⟩ := Bx_l.out.cells
  go_wp2_with (go_at_call 21; (with_reducible refine (CR.out _).mono ?_); rintro e w3 ⟨vy, rfl, hy, k3⟩; refine Hid.out ?_)
  refine Lib.hid ?_
  have K_3 := Lib.hid (K_2.out.kp k3)
  have Z_3 := Lib.hid (Z_2.out.kp k3)
  have Vx_3 := Lib.hid (Vx_2.out.kp k3)
  have Bx_3 := Lib.hid (Bx_l.out.kp k3)
  clear K_2 Z_2 Vx_2 Bx_l
  clear k3
  obtain ⟨ys, yq1, yr1, ys1, yq2, yr2, ys2, rfl⟩ := hy.lit
  have Vy_l := Lib.hid hy
  have By_l := Lib.hid (Res.new w3 (.bool ys) (.slice yq1 yr1 ys1) (.slice yq2 yr2 ys2))
  clear hy
  have K_4 := Lib.hid (K_3.out.kp (Kp.alloc _ (Obj.cells #[Value.bool ys, Value.slice yq1 yr1 ys1, Value.slice yq2 yr2 ys2] 27)))
  have Z_4 := Lib.hid (Z_3.out.kp (Kp.alloc _ (Obj.cells #[Value.bool ys, Value.slice yq1 yr1 ys1, Value.slice yq2 yr2 ys2] 27)))
  have Vx_4 := Lib.hid (Vx_3.out.kp (Kp.alloc _ (Obj.cells #[Value.bool ys, Value.slice yq1 yr1 ys1, Value.slice yq2 yr2 ys2] 27)))
  have Bx_4 := Lib.hid (Bx_3.out.kp (Kp.alloc _ (Obj.cells #[Value.bool ys, Value.slice yq1 yr1 ys1, Value.slice yq2 yr2 ys2] 27)))
  have Vy_4 := Lib.hid (Vy_l.out.kp (Kp.alloc _ (Obj.cells #[Value.bool ys, Value.slice yq1 yr1 ys1, Value.slice yq2 yr2 ys2] 27)))
  clear K_3 Z_3 Vx_3 Bx_3 Vy_l
  obtain ⟨xg0, xg1, xg2, _⟩ := Bx_4.out.cells
  obtain ⟨yg0, yg1, yg2, _⟩ := By_l.out.cells
  go_wp2_with (go_at_call 19; (with_reducible refine (CS1.out _ _ _ Vx_4.out Vy_4.out).mono ?_); rintro e w5 ⟨rfl, k5⟩; refine Hid.out ?_)
  refine Lib.hid ?_
  have K_5 := Lib.hid (K_4.out.kp k5)
  have Z_5 := Lib.hid (Z_4.out.kp k5)
  have Vx_5 := Lib.hid (Vx_4.out.kp k5)
  have Bx_5 := Lib.hid (Bx_4.out.kp k5)
  have Vy_5 := Lib.hid (Vy_4.out.kp k5)
  have By_5 := Lib.hid (By_l.out.kp k5)
  clear K_4 Z_4 Vx_4 Bx_4 Vy_4 By_l
  clear k5
  obtain ⟨xg0, xg1, xg2, _⟩ := Bx_5.out.cells
  obtain ⟨yg0, yg1, yg2, _⟩ := By_5.out.cells
  go_wp2_with (go_at_call 22; (with_reducible refine (CI.out _ Z_5.out).mono ?_); rintro e w6 ⟨vi, rfl, hi, k6⟩; refine Hid.out ?_)
  refine Lib.hid ?_
  have K_6 := Lib.hid (K_5.out.kp k6)
  have Z_6 := Lib.hid (Z_5.out.kp k6)
  have Vx_6 := Lib.hid (Vx_5.out.kp k6)
  have Bx_6 := Lib.hid (Bx_5.out.kp k6)
  have Vy_6 := Lib.hid (Vy_5.out.kp k6)
  have By_6 := Lib.hid (By_5.out.kp k6)
  clear K_5 Z_5 Vx_5 Bx_5 Vy_5 By_5
  have I_6 := Lib.hid hi
  clear hi k6
  obtain ⟨xg0, xg1, xg2, _⟩ := Bx_6.out.cells
  obtain ⟨yg0, yg1, yg2, _⟩ := By_6.out.cells
  go_wp2_with (go_at_call 23; (with_reducible refine (CJ.out _).mono ?_); rintro e w7 ⟨vj, rfl, hj, k7⟩; refine Hid.out ?_)
  refine Lib.hid ?_
  have K_7 := Lib.hid (K_6.out.kp k7)
  have Z_7 := Lib.hid (Z_6.out.kp k7)
  have Vx_7 := Lib.hid (Vx_6.out.kp k7)
  have Bx_7 := Lib.hid (Bx_6.out.kp k7)
  have Vy_7 := Lib.hid (Vy_6.out.kp k7)
  have By_7 := Lib.hid (By_6.out.kp k7)
  have I_7 := Lib.hid (I_6.out.kp k7)
  clear K_6 Z_6 Vx_6 Bx_6 Vy_6 By_6 I_6
  have J_7 := Lib.hid hj
  clear hj k7
  obtain ⟨xg0, xg1, xg2, _⟩ := Bx_7.out.cells
  obtain ⟨yg0, yg1, yg2, _⟩ := By_7.out.cells
  go_wp2_with (go_at_call 19; (with_reducible refine (CS2.out _ _ _ I_7.out J_7.out).mono ?_); rintro e w8 ⟨rfl, k8⟩; refine Hid.out ?_)
  refine Lib.hid ?_
  have K_8 := Lib.hid (K_7.out.kp k8)
  have Z_8 := Lib.hid (Z_7.out.kp k8)
  have Vx_8 := Lib.hid (Vx_7.out.kp k8)
  have Bx_8 := Lib.hid (Bx_7.out.kp k8)
  have Vy_8 := Lib.hid (Vy_7.out.kp k8)
  have By_8 := Lib.hid (By_7.out.kp k8)
  have I_8 := Lib.hid (I_7.out.kp k8)
  have J_8 := Lib.hid (J_7.out.kp k8)
  clear K_7 Z_7 Vx_7 Bx_7 Vy_7 By_7 I_7 J_7
  clear k8
  obtain ⟨xg0, xg1, xg2, _⟩ := Bx_8.out.cells
  obtain ⟨yg0, yg1, yg2, _⟩ := By_8.out.cells
  go_wp2_with (go_at_call 14; (with_reducible refine (CAW.out _ K_8.out.k Z_8.out).mono ?_); rintro e w9 ⟨rfl, k9⟩; refine Hid.out ?_)
  refine Lib.hid ?_
  have K_9 := Lib.hid (K_8.out.kp k9)
  have Z_9 := Lib.hid (Z_8.out.kp k9)
  have Vx_9 := Lib.hid (Vx_8.out.kp k9)
  have Bx_9 := Lib.hid (Bx_8.out.kp k9)
  have Vy_9 := Lib.hid (Vy_8.out.kp k9)
  have By_9 := Lib.hid (By_8.out.kp k9)
  have I_9 := Lib.hid (I_8.out.kp k9)
  have J_9 := Lib.hid (J_8.out.kp k9)
  clear K_8 Z_8 Vx_8 Bx_8 Vy_8 By_8 I_8 J_8
  clear k9
  obtain ⟨xg0, xg1, xg2, _⟩ := Bx_9.out.cells
  obtain ⟨yg0, yg1, yg2, _⟩ := By_9.out.cells
  go_wp2
  go_ret
  exact ⟨rfl, K_9.out.k⟩

set_option maxRecDepth 20000 in
set_option maxHeartbeats 4000000 in
theorem makes_some (n d : Int) (w : World) (h1 : -9223372036854775808 ≤ n) (h2 : n < 9223372036854775808) (h3 : -9223372036854775808 ≤ d) (h4 : d < 9223372036854775808) (h0 : d ≠ 0) (htab : Lib.TabIs Tryz.prog w "internal/strconv.uint64pow10" .u64 Lib.pow10Tab) (hZ : Tz w) :
    Calls Tryz.prog 4 #[.int .i64 n, .int .i64 d] w fun e w' => e = .returned (.bool true) ∧ Kp w w' := by
  have HTB := Lib.hid (Lib.tabBelow_of_tabIs htab)
  have HK : Hid (Kq w w) := Lib.hid ⟨Below.refl _ _⟩
  have HZ := Lib.hid hZ
  have CAW := Lib.hid (fun w' (kk : Kp w w') (t : Tz w') => qawake_any w' t (tabKp HTB.out kk))
  clear htab hZ
  have CM := Lib.hid (fun w' (t : Tz w') => make_any n d h1 h2 h3 h4 h0 w' t)
  have CR := Lib.hid (fun w' => rqmake_any (w := w') n d h1 h2 h3 h4 h0)
  have CI := Lib.hid (fun w' (t : Tz w') => qint_any (w := w') n h1 h2 t)
  have CJ := Lib.hid (fun w' => rqint_any (w := w') n h1 h2)
  have CS1 := Lib.hid (fun w' a b (ha : RatV w' a (ratOf (decide (n < 0) != decide (d < 0)) n.natAbs d.natAbs)) (hb : RatV w' b (ratOf (decide (n < 0) != decide (d < 0)) n.natAbs d.natAbs)) => by have h := rqsame_any ha hb; rw [decide_eq_true rfl] at h; exact h)
  have CS2 := Lib.hid (fun w' a b (ha : RatV w' a ((n : Rat))) (hb : RatV w' b ((n : Rat))) => by have h := rqsame_any ha hb; rw [decide_eq_true rfl] at h; exact h)
  clear h1 h2 h3 h4 h0
  go_enter Tryz.func4, Tryz.ntmps4
  go_wp2_with (go_at_call 20; (with_reducible refine (CM.out _ HZ.out).mono ?_); rintro e w1 ⟨vx, rfl, hx, k1⟩; refine Hid.out ?_)
  refine Lib.hid ?_
  have K_1 := Lib.hid (HK.out.kp k1)
  have Z_1 := Lib.hid (HZ.out.kp k1)
  clear HK HZ
  clear k1
  obtain ⟨xs, xq1, xr1, xs1, xq2, xr2, xs2, rfl⟩ := hx.lit
  have Vx_l := Lib.hid hx
  have Bx_l := Lib.hid (Res.new w1 (.bool xs) (.slice xq1 xr1 xs1) (.slice xq2 xr2 xs2))
  clear hx
  have K_2 := Lib.hid (K_1.out.kp (Kp.alloc _ (Obj.cells #[Value.bool xs, Value.slice xq1 xr1 xs1, Value.slice xq2 xr2 xs2] 27)))
  have Z_2 := Lib.hid (Z_1.out.kp (Kp.alloc _ (Obj.cells #[Value.bool xs, Value.slice xq1 xr1 xs1, Value.slice xq2 xr2 xs2] 27)))
  have Vx_2 := Lib.hid (Vx_l.out.kp (Kp.alloc _ (Obj.cells #[Value.bool xs, Value.slice xq1 xr1 xs1, Value.slice xq2 xr2 xs2] 27)))
  clear K_1 Z_1 Vx_l
  obtain ⟨xg0, xg1, xg2, _⟩ := Bx_l.out.cells
  go_wp2_with (go_at_call 21; (with_reducible refine (CR.out _).mono ?_); rintro e w3 ⟨vy, rfl, hy, k3⟩; refine Hid.out ?_)
  refine Lib.hid ?_
  have K_3 := Lib.hid (K_2.out.kp k3)
  have Z_3 := Lib.hid (Z_2.out.kp k3)
  have Vx_3 := Lib.hid (Vx_2.out.kp k3)
  have Bx_3 := Lib.hid (Bx_l.out.kp k3)
  clear K_2 Z_2 Vx_2 Bx_l
  clear k3
  obtain ⟨ys, yq1, yr1, ys1, yq2, yr2, ys2, rfl⟩ := hy.lit
  have Vy_l := Lib.hid hy
  have By_l := Lib.hid (Res.new w3 (.bool ys) (.slice yq1 yr1 ys1) (.slice yq2 yr2 ys2))
  clear hy
  have K_4 := Lib.hid (K_3.out.kp (Kp.alloc _ (Obj.cells #[Value.bool ys, Value.slice yq1 yr1 ys1, Value.slice yq2 yr2 ys2] 27)))
  have Z_4 := Lib.hid (Z_3.out.kp (Kp.alloc _ (Obj.cells #[Value.bool ys, Value.slice yq1 yr1 ys1, Value.slice yq2 yr2 ys2] 27)))
  have Vx_4 := Lib.hid (Vx_3.out.kp (Kp.alloc _ (Obj.cells #[Value.bool ys, Value.slice yq1 yr1 ys1, Value.slice yq2 yr2 ys2] 27)))
  have Bx_4 := Lib.hid (Bx_3.out.kp (Kp.alloc _ (Obj.cells #[Value.bool ys, Value.slice yq1 yr1 ys1, Value.slice yq2 yr2 ys2] 27)))
  have Vy_4 := Lib.hid (Vy_l.out.kp (Kp.alloc _ (Obj.cells #[Value.bool ys, Value.slice yq1 yr1 ys1, Value.slice yq2 yr2 ys2] 27)))
  clear K_3 Z_3 Vx_3 Bx_3 Vy_l
  obtain ⟨xg0, xg1, xg2, _⟩ := Bx_4.out.cells
  obtain ⟨yg0, yg1, yg2, _⟩ := By_l.out.cells
  go_wp2_with (go_at_call 19; (with_reducible refine (CS1.out _ _ _ Vx_4.out Vy_4.out).mono ?_); rintro e w5 ⟨rfl, k5⟩; refine Hid.out ?_)
  refine Lib.hid ?_
  have K_5 := Lib.hid (K_4.out.kp k5)
  have Z_5 := Lib.hid (Z_4.out.kp k5)
  have Vx_5 := Lib.hid (Vx_4.out.kp k5)
  have Bx_5 := Lib.hid (Bx_4.out.kp k5)
  have Vy_5 := Lib.hid (Vy_4.out.kp k5)
  have By_5 := Lib.hid (By_l.out.kp k5)
  clear K_4 Z_4 Vx_4 Bx_4 Vy_4 By_l
  clear k5
  obtain ⟨xg0, xg1, xg2, _⟩ := Bx_5.out.cells
  obtain ⟨yg0, yg1, yg2, _⟩ := By_5.out.cells
  go_wp2_with (go_at_call 22; (with_reducible refine (CI.out _ Z_5.out).mono ?_); rintro e w6 ⟨vi, rfl, hi, k6⟩; refine Hid.out ?_)
  refine Lib.hid ?_
  have K_6 := Lib.hid (K_5.out.kp k6)
  have Z_6 := Lib.hid (Z_5.out.kp k6)
  have Vx_6 := Lib.hid (Vx_5.out.kp k6)
  have Bx_6 := Lib.hid (Bx_5.out.kp k6)
  have Vy_6 := Lib.hid (Vy_5.out.kp k6)
  have By_6 := Lib.hid (By_5.out.kp k6)
  clear K_5 Z_5 Vx_5 Bx_5 Vy_5 By_5
  have I_6 := Lib.hid hi
  clear hi k6
  obtain ⟨xg0, xg1, xg2, _⟩ := Bx_6.out.cells
  obtain ⟨yg0, yg1, yg2, _⟩ := By_6.out.cells
  go_wp2_with (go_at_call 23; (with_reducible refine (CJ.out _).mono ?_); rintro e w7 ⟨vj, rfl, hj, k7⟩; refine Hid.out ?_)
  refine Lib.hid ?_
  have K_7 := Lib.hid (K_6.out.kp k7)
  have Z_7 := Lib.hid (Z_6.out.kp k7)
  have Vx_7 := Lib.hid (Vx_6.out.kp k7)
  have Bx_7 := Lib.hid (Bx_6.out.kp k7)
  have Vy_7 := Lib.hid (Vy_6.out.kp k7)
  have By_7 := Lib.hid (By_6.out.kp k7)
  have I_7 := Lib.hid (I_6.out.kp k7)
  clear K_6 Z_6 Vx_6 Bx_6 Vy_6 By_6 I_6
  have J_7 := Lib.hid hj
  clear hj k7
  obtain ⟨xg0, xg1, xg2, _⟩ := Bx_7.out.cells
  obtain ⟨yg0, yg1, yg2, _⟩ := By_7.out.cells
  go_wp2_with (go_at_call 19; (with_reducible refine (CS2.out _ _ _ I_7.out J_7.out).mono ?_); rintro e w8 ⟨rfl, k8⟩; refine Hid.out ?_)
  refine Lib.hid ?_
  have K_8 := Lib.hid (K_7.out.kp k8)
  have Z_8 := Lib.hid (Z_7.out.kp k8)
  have Vx_8 := Lib.hid (Vx_7.out.kp k8)
  have Bx_8 := Lib.hid (Bx_7.out.kp k8)
  have Vy_8 := Lib.hid (Vy_7.out.kp k8)
  have By_8 := Lib.hid (By_7.out.kp k8)
  have I_8 := Lib.hid (I_7.out.kp k8)
  have J_8 := Lib.hid (J_7.out.kp k8)
  clear K_7 Z_7 Vx_7 Bx_7 Vy_7 By_7 I_7 J_7
  clear k8
  obtain ⟨xg0, xg1, xg2, _⟩ := Bx_8.out.cells
  obtain ⟨yg0, yg1, yg2, _⟩ := By_8.out.cells
  go_wp2_with (go_at_call 14; (with_reducible refine (CAW.out _ K_8.out.k Z_8.out).mono ?_); rintro e w9 ⟨rfl, k9⟩; refine Hid.out ?_)
  refine Lib.hid ?_
  have K_9 := Lib.hid (K_8.out.kp k9)
  have Z_9 := Lib.hid (Z_8.out.kp k9)
  have Vx_9 := Lib.hid (Vx_8.out.kp k9)
  have Bx_9 := Lib.hid (Bx_8.out.kp k9)
  have Vy_9 := Lib.hid (Vy_8.out.kp k9)
  have By_9 := Lib.hid (By_8.out.kp k9)
  have I_9 := Lib.hid (I_8.out.kp k9)
  have J_9 := Lib.hid (J_8.out.kp k9)
  clear K_8 Z_8 Vx_8 Bx_8 Vy_8 By_8 I_8 J_8
  clear k9
  obtain ⟨xg0, xg1, xg2, _⟩ := Bx_9.out.cells
  obtain ⟨yg0, yg1, yg2, _⟩ := By_9.out.cells
  go_wp2
  go_ret
  exact ⟨rfl, K_9.out.k⟩
end Go.Proofs.YtnhekpghpmmggaaGreatDoor
