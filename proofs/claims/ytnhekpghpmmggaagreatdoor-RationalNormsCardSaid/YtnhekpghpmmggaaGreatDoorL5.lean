/-
  brepkernellaw02.RationalNorms: by the contracts.
-/
import Derived.Test.YtnhekpghpmmggaaGreatDoorRw
import Derived.Test.YtnhekpghpmmggaaGreatDoorBq
import Derived.Test.YtnhekpghpmmggaaGreatDoorBv
import Derived.Test.YtnhekpghpmmggaaGreatDoorVv
import Derived.Test.YtnhekpghpmmggaaGreatDoorBr
namespace Go.Proofs.YtnhekpghpmmggaaGreatDoor
open Go.RowKit

set_option maxRecDepth 20000 in
set_option maxHeartbeats 4000000 in
theorem norms_no1 {w : World} {sa : Bool} {ua ub : Value} {n1 d1 : List Nat} (hua : Rd w ua n1) (hub : Rd w ub d1) (hn : ¬ (n1.length ≤ 16 ∧ d1.length ≤ 16)) (htab : Lib.TabIs Tryz.prog w "internal/strconv.uint64pow10" .u64 Lib.pow10Tab) (hZ : Tz w) :
    Calls Tryz.prog 3 #[.agg #[.bool sa, ua, ub]] w fun e w' => e = .returned (.bool true) ∧ Kp w w' := by
  have HTB := Lib.hid (Lib.tabBelow_of_tabIs htab)
  have HZ := Lib.hid hZ
  have CAW := Lib.hid (fun w' (kk : Kp w w') (t : Tz w') => qawake_any w' t (tabKp HTB.out kk))
  have CL1 := Lib.hid (fun w' (kk : Kp w w') => qlight_no (s := sa) (hua.kp kk) (hub.kp kk) hn)
  obtain ⟨xo1, xl1, xc1, rfl⟩ := rd_slice hua
  obtain ⟨xo2, xl2, xc2, rfl⟩ := rd_slice hub
  have HT := Lib.hid (Rw1.new w (.bool sa) (.slice xo1 xl1 xc1) (.slice xo2 xl2 xc2))
  clear hua hub htab hZ hn
  go_enter Tryz.func3, Tryz.ntmps3
  have Z_e := Lib.hid (HZ.out.kp HT.out.k)
  obtain ⟨xz0, xz1, xz2⟩ := HT.out.ra.cells
  go_wp2_with (go_at_call 13; (with_reducible refine (CL1.out _ HT.out.k).mono ?_); rintro e w2 ⟨rfl, k2⟩; refine Hid.out ?_)
  refine Lib.hid ?_
  have T_2 := Lib.hid (HT.out.kp k2)
  have Z_2 := Lib.hid (Z_e.out.kp k2)
  clear HT Z_e
  clear k2
  obtain ⟨xz0, xz1, xz2⟩ := T_2.out.ra.cells
  go_wp2_with (go_at_call 14; (with_reducible refine (CAW.out _ T_2.out.k Z_2.out).mono ?_); rintro e w3 ⟨rfl, k3⟩; refine Hid.out ?_)
  refine Lib.hid ?_
  have T_3 := Lib.hid (T_2.out.kp k3)
  have Z_3 := Lib.hid (Z_2.out.kp k3)
  clear T_2 Z_2
  clear k3
  obtain ⟨xz0, xz1, xz2⟩ := T_3.out.ra.cells
  go_wp2
  go_ret
  exact ⟨rfl, T_3.out.k⟩

set_option maxRecDepth 20000 in
set_option maxHeartbeats 4000000 in
theorem norms_light {w : World} {sa : Bool} {ua ub : Value} {n1 d1 : List Nat} (hua : Rd w ua n1) (hub : Rd w ub d1) (hl : n1.length ≤ 16 ∧ d1.length ≤ 16) (htab : Lib.TabIs Tryz.prog w "internal/strconv.uint64pow10" .u64 Lib.pow10Tab) (hZ : Tz w) :
    Calls Tryz.prog 3 #[.agg #[.bool sa, ua, ub]] w fun e w' => e = .returned (.bool true) ∧ Kp w w' := by
  have HTB := Lib.hid (Lib.tabBelow_of_tabIs htab)
  have HZ := Lib.hid hZ
  have CAW := Lib.hid (fun w' (kk : Kp w w') (t : Tz w') => qawake_any w' t (tabKp HTB.out kk))
  have CL1 := Lib.hid (fun w' (kk : Kp w w') => qlight_yes (s := sa) (hua.kp kk) (hub.kp kk) hl)
  have CV1 := Lib.hid (fun w' (kk : Kp w w') (t : Tz w') => qvalid_raw (p := sa) (hua.kp kk) (hub.kp kk) hl.1 hl.2 t)
  have CV2 := Lib.hid (fun w' (kk : Kp w w') => rqvalid_raw (p := sa) (hua.kp kk) (hub.kp kk) hl.1 hl.2)
  have CN1 := Lib.hid (fun w' (kk : Kp w w') (t : Tz w') => qnorm_both (p := sa) (hua.kp kk) (hub.kp kk) hl.1 hl.2 t)
  have CN2 := Lib.hid (fun w' (kk : Kp w w') => rqnorm_both (p := sa) (hua.kp kk) (hub.kp kk) hl.1 hl.2)
  have Sx : RSz 16 (numR sa n1 d1) := rsz_num hua hub hl.1 hl.2
  obtain ⟨X, hX⟩ : ∃ X, X = numR sa n1 d1 := ⟨_, rfl⟩
  rw [← hX] at CN1 CN2 Sx
  obtain ⟨t, ht⟩ : ∃ t, t = validOf sa n1 d1 := ⟨_, rfl⟩
  rw [← ht] at CV1 CV2
  obtain ⟨c, hc⟩ : ∃ c, c = codeN d1 := ⟨_, rfl⟩
  rw [← hc] at CN1 CN2
  have CVP := Lib.hid (fun w' a (ha : RatV w' a X) (t : Tz w') => qvalid_any ha (⟨Nat.le_trans Sx.1 (by omega), Nat.le_trans Sx.2 (by omega)⟩ : RSz 17 X) t)
  have CS1 := Lib.hid (fun w' a b (ha : RatV w' a (X)) (hb : RatV w' b (X)) => by have h := rqsame_any ha hb; rw [decide_eq_true (show (X) = (X) from rfl)] at h; exact h)
  clear hX ht hc Sx
  obtain ⟨xo1, xl1, xc1, rfl⟩ := rd_slice hua
  obtain ⟨xo2, xl2, xc2, rfl⟩ := rd_slice hub
  have HT := Lib.hid (Rw1.new w (.bool sa) (.slice xo1 xl1 xc1) (.slice xo2 xl2 xc2))
  clear hua hub hl htab hZ
  go_enter Tryz.func3, Tryz.ntmps3
  have Z_e := Lib.hid (HZ.out.kp HT.out.k)
  obtain ⟨xz0, xz1, xz2⟩ := HT.out.ra.cells
  go_wp2_with (go_at_call 13; (with_reducible refine (CL1.out _ HT.out.k).mono ?_); rintro e w2 ⟨rfl, k2⟩; refine Hid.out ?_)
  refine Lib.hid ?_
  have T_2 := Lib.hid (HT.out.kp k2)
  have Z_2 := Lib.hid (Z_e.out.kp k2)
  clear HT Z_e
  clear k2
  obtain ⟨xz0, xz1, xz2⟩ := T_2.out.ra.cells
  have Bx_l := Lib.hid (Res.new w2 (.bool sa) (.slice xo1 xl1 xc1) (.slice xo2 xl2 xc2))
  have T_3 := Lib.hid (T_2.out.kp (Kp.alloc _ (Obj.cells #[Value.bool sa, Value.slice xo1 xl1 xc1, Value.slice xo2 xl2 xc2] 27)))
  have Z_3 := Lib.hid (Z_2.out.kp (Kp.alloc _ (Obj.cells #[Value.bool sa, Value.slice xo1 xl1 xc1, Value.slice xo2 xl2 xc2] 27)))
  clear T_2 Z_2
  obtain ⟨xz0, xz1, xz2⟩ := T_3.out.ra.cells
  obtain ⟨xg0, xg1, xg2, _⟩ := Bx_l.out.cells
  go_wp2_with (go_at_call 15; (with_reducible refine (CN1.out _ T_3.out.k Z_3.out).mono ?_); rintro e w4 ⟨vp, rfl, hp, k4⟩; refine Hid.out ?_)
  refine Lib.hid ?_
  have T_4 := Lib.hid (T_3.out.kp k4)
  have Z_4 := Lib.hid (Z_3.out.kp k4)
  have Bx_4 := Lib.hid (Bx_l.out.kp k4)
  clear T_3 Z_3 Bx_l
  clear k4
  obtain ⟨ps, pq1, pr1, ps1, pq2, pr2, ps2, rfl⟩ := hp.lit
  have Vp_l := Lib.hid hp
  have Bp_l := Lib.hid (Res.new w4 (.bool ps) (.slice pq1 pr1 ps1) (.slice pq2 pr2 ps2))
  clear hp
  have T_5 := Lib.hid (T_4.out.kp (Kp.alloc _ (Obj.cells #[Value.bool ps, Value.slice pq1 pr1 ps1, Value.slice pq2 pr2 ps2] 27)))
  have Z_5 := Lib.hid (Z_4.out.kp (Kp.alloc _ (Obj.cells #[Value.bool ps, Value.slice pq1 pr1 ps1, Value.slice pq2 pr2 ps2] 27)))
  have Bx_5 := Lib.hid (Bx_4.out.kp (Kp.alloc _ (Obj.cells #[Value.bool ps, Value.slice pq1 pr1 ps1, Value.slice pq2 pr2 ps2] 27)))
  have Vp_5 := Lib.hid (Vp_l.out.kp (Kp.alloc _ (Obj.cells #[Value.bool ps, Value.slice pq1 pr1 ps1, Value.slice pq2 pr2 ps2] 27)))
  clear T_4 Z_4 Bx_4 Vp_l
  obtain ⟨xz0, xz1, xz2⟩ := T_5.out.ra.cells
  obtain ⟨xg0, xg1, xg2, _⟩ := Bx_5.out.cells
  obtain ⟨pg0, pg1, pg2, _⟩ := Bp_l.out.cells
  go_wp2_with (go_at_call 16; (with_reducible refine (CN2.out _ T_5.out.k).mono ?_); rintro e w6 ⟨vq, rfl, hq, k6⟩; refine Hid.out ?_)
  refine Lib.hid ?_
  have T_6 := Lib.hid (T_5.out.kp k6)
  have Z_6 := Lib.hid (Z_5.out.kp k6)
  have Bx_6 := Lib.hid (Bx_5.out.kp k6)
  have Vp_6 := Lib.hid (Vp_5.out.kp k6)
  have Bp_6 := Lib.hid (Bp_l.out.kp k6)
  clear T_5 Z_5 Bx_5 Vp_5 Bp_l
  clear k6
  obtain ⟨qs, qq1, qr1, qs1, qq2, qr2, qs2, rfl⟩ := hq.lit
  have Vq_l := Lib.hid hq
  have Bq_l := Lib.hid (Res.new w6 (.bool qs) (.slice qq1 qr1 qs1) (.slice qq2 qr2 qs2))
  clear hq
  have T_7 := Lib.hid (T_6.out.kp (Kp.alloc _ (Obj.cells #[Value.bool qs, Value.slice qq1 qr1 qs1, Value.slice qq2 qr2 qs2] 27)))
  have Z_7 := Lib.hid (Z_6.out.kp (Kp.alloc _ (Obj.cells #[Value.bool qs, Value.slice qq1 qr1 qs1, Value.slice qq2 qr2 qs2] 27)))
  have Bx_7 := Lib.hid (Bx_6.out.kp (Kp.alloc _ (Obj.cells #[Value.bool qs, Value.slice qq1 qr1 qs1, Value.slice qq2 qr2 qs2] 27)))
  have Vp_7 := Lib.hid (Vp_6.out.kp (Kp.alloc _ (Obj.cells #[Value.bool qs, Value.slice qq1 qr1 qs1, Value.slice qq2 qr2 qs2] 27)))
  have Bp_7 := Lib.hid (Bp_6.out.kp (Kp.alloc _ (Obj.cells #[Value.bool qs, Value.slice qq1 qr1 qs1, Value.slice qq2 qr2 qs2] 27)))
  have Vq_7 := Lib.hid (Vq_l.out.kp (Kp.alloc _ (Obj.cells #[Value.bool qs, Value.slice qq1 qr1 qs1, Value.slice qq2 qr2 qs2] 27)))
  clear T_6 Z_6 Bx_6 Vp_6 Bp_6 Vq_l
  obtain ⟨xz0, xz1, xz2⟩ := T_7.out.ra.cells
  obtain ⟨xg0, xg1, xg2, _⟩ := Bx_7.out.cells
  obtain ⟨pg0, pg1, pg2, _⟩ := Bp_7.out.cells
  obtain ⟨qg0, qg1, qg2, _⟩ := Bq_l.out.cells
  go_upto_region 6 with fail
  have T_8 := Lib.hid (T_7.out.kp (Below.refl _ _).drew)
  have Z_8 := Lib.hid (Z_7.out.kp (Below.refl _ _).drew)
  have Bx_8 := Lib.hid (Bx_7.out.kp (Below.refl _ _).drew)
  have Vp_8 := Lib.hid (Vp_7.out.kp (Below.refl _ _).drew)
  have Bp_8 := Lib.hid (Bp_7.out.kp (Below.refl _ _).drew)
  have Vq_8 := Lib.hid (Vq_7.out.kp (Below.refl _ _).drew)
  have Bq_8 := Lib.hid (Bq_l.out.kp (Below.refl _ _).drew)
  clear T_7 Z_7 Bx_7 Vp_7 Bp_7 Vq_7 Bq_l
  go_region_held3 (fun w' => w'.cell? ⟨w2.heap.size, 0, none⟩ = some (.bool sa) ∧ w'.cell? ⟨w2.heap.size, 1, none⟩ = some (.slice xo1 xl1 xc1) ∧ w'.cell? ⟨w2.heap.size, 2, none⟩ = some (.slice xo2 xl2 xc2) ∧ w'.cell? ⟨w4.heap.size, 0, none⟩ = some (.bool ps) ∧ w'.cell? ⟨w4.heap.size, 1, none⟩ = some (.slice pq1 pr1 ps1) ∧ w'.cell? ⟨w4.heap.size, 2, none⟩ = some (.slice pq2 pr2 ps2) ∧ w'.cell? ⟨w6.heap.size, 0, none⟩ = some (.bool qs) ∧ w'.cell? ⟨w6.heap.size, 1, none⟩ = some (.slice qq1 qr1 qs1) ∧ w'.cell? ⟨w6.heap.size, 2, none⟩ = some (.slice qq2 qr2 qs2))
    (first | (refine ⟨?_, ?_, ?_, ?_, ?_, ?_, ?_, ?_, ?_⟩ <;> assumption) | go_keep)
    (first
      | (go_at_call 17; (with_reducible refine (CV1.out _ T_8.out.k Z_8.out).mono ?_); rintro e w9 ⟨rfl, k9⟩; have T_9 := Lib.hid (T_8.out.kp k9); have Z_9 := Lib.hid (Z_8.out.kp k9); have Bx_9 := Lib.hid (Bx_8.out.kp k9); have Vp_9 := Lib.hid (Vp_8.out.kp k9); have Bp_9 := Lib.hid (Bp_8.out.kp k9); have Vq_9 := Lib.hid (Vq_8.out.kp k9); have Bq_9 := Lib.hid (Bq_8.out.kp k9); clear T_8 Z_8 Bx_8 Vp_8 Bp_8 Vq_8 Bq_8; clear k9; obtain ⟨xz0, xz1, xz2⟩ := T_9.out.ra.cells; obtain ⟨xg0, xg1, xg2, _⟩ := Bx_9.out.cells; obtain ⟨pg0, pg1, pg2, _⟩ := Bp_9.out.cells; obtain ⟨qg0, qg1, qg2, _⟩ := Bq_9.out.cells)
      | (go_at_call 18; (with_reducible refine (CV2.out _ T_9.out.k).mono ?_); rintro e w10 ⟨rfl, k10⟩; have T_10 := Lib.hid (T_9.out.kp k10); have Z_10 := Lib.hid (Z_9.out.kp k10); have Bx_10 := Lib.hid (Bx_9.out.kp k10); have Vp_10 := Lib.hid (Vp_9.out.kp k10); have Bp_10 := Lib.hid (Bp_9.out.kp k10); have Vq_10 := Lib.hid (Vq_9.out.kp k10); have Bq_10 := Lib.hid (Bq_9.out.kp k10); clear T_9 Z_9 Bx_9 Vp_9 Bp_9 Vq_9 Bq_9; clear k10; obtain ⟨xz0, xz1, xz2⟩ := T_10.out.ra.cells; obtain ⟨xg0, xg1, xg2, _⟩ := Bx_10.out.cells; obtain ⟨pg0, pg1, pg2, _⟩ := Bp_10.out.cells; obtain ⟨qg0, qg1, qg2, _⟩ := Bq_10.out.cells)
      | (go_at_call 19; (with_reducible refine (CS1.out _ _ _ Vp_10.out Vq_10.out).mono ?_); rintro e w11 ⟨rfl, k11⟩; have T_11 := Lib.hid (T_10.out.kp k11); have Z_11 := Lib.hid (Z_10.out.kp k11); have Bx_11 := Lib.hid (Bx_10.out.kp k11); have Vp_11 := Lib.hid (Vp_10.out.kp k11); have Bp_11 := Lib.hid (Bp_10.out.kp k11); have Vq_11 := Lib.hid (Vq_10.out.kp k11); have Bq_11 := Lib.hid (Bq_10.out.kp k11); clear T_10 Z_10 Bx_10 Vp_10 Bp_10 Vq_10 Bq_10; clear k11; obtain ⟨xz0, xz1, xz2⟩ := T_11.out.ra.cells; obtain ⟨xg0, xg1, xg2, _⟩ := Bx_11.out.cells; obtain ⟨pg0, pg1, pg2, _⟩ := Bp_11.out.cells; obtain ⟨qg0, qg1, qg2, _⟩ := Bq_11.out.cells)
      | (go_at_call 17; (with_reducible refine (CVP.out _ _ Vp_11.out Z_11.out).mono ?_); rintro e w12 ⟨rfl, k12⟩; have T_12 := Lib.hid (T_11.out.kp k12); have Z_12 := Lib.hid (Z_11.out.kp k12); have Bx_12 := Lib.hid (Bx_11.out.kp k12); have Vp_12 := Lib.hid (Vp_11.out.kp k12); have Bp_12 := Lib.hid (Bp_11.out.kp k12); have Vq_12 := Lib.hid (Vq_11.out.kp k12); have Bq_12 := Lib.hid (Bq_11.out.kp k12); clear T_11 Z_11 Bx_11 Vp_11 Bp_11 Vq_11 Bq_11; clear k12; obtain ⟨xz0, xz1, xz2⟩ := T_12.out.ra.cells; obtain ⟨xg0, xg1, xg2, _⟩ := Bx_12.out.cells; obtain ⟨pg0, pg1, pg2, _⟩ := Bp_12.out.cells; obtain ⟨qg0, qg1, qg2, _⟩ := Bq_12.out.cells)
      | (go_at_call 14; (with_reducible refine (CAW.out _ T_12.out.k Z_12.out).mono ?_); rintro e w13 ⟨rfl, k13⟩; have T_13 := Lib.hid (T_12.out.kp k13); have Z_13 := Lib.hid (Z_12.out.kp k13); have Bx_13 := Lib.hid (Bx_12.out.kp k13); have Vp_13 := Lib.hid (Vp_12.out.kp k13); have Bp_13 := Lib.hid (Bp_12.out.kp k13); have Vq_13 := Lib.hid (Vq_12.out.kp k13); have Bq_13 := Lib.hid (Bq_12.out.kp k13); clear T_12 Z_12 Bx_12 Vp_12 Bp_12 Vq_12 Bq_12; clear k13; obtain ⟨xz0, xz1, xz2⟩ := T_13.out.ra.cells; obtain ⟨xg0, xg1, xg2, _⟩ := Bx_13.out.cells; obtain ⟨pg0, pg1, pg2, _⟩ := Bp_13.out.cells; obtain ⟨qg0, qg1, qg2, _⟩ := Bq_13.out.cells))
  go_wp2
  go_ret
  exact ⟨rfl, T_13.out.k⟩

theorem norms_walk {s : Bool} {a b : Value} {xs ys : List Nat} {w : World} (ha : Rd w a xs) (hb : Rd w b ys) (htab : Lib.TabIs Tryz.prog w "internal/strconv.uint64pow10" .u64 Lib.pow10Tab) (hZ : Tz w) :
    Calls Tryz.prog 3 #[.agg #[.bool s, a, b]] w fun e w' => e = .returned (.bool true) ∧ Kp w w' := by
  by_cases hl : xs.length ≤ 16 ∧ ys.length ≤ 16
  · exact norms_light ha hb hl htab hZ
  · exact norms_no1 ha hb hl htab hZ
end Go.Proofs.YtnhekpghpmmggaaGreatDoor
